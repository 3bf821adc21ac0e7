import PyProof.Rows.All
import Wide.All
import OpenK.AllK
import Wide.FinOn
import Lean
import PyProof.EqAt
import PyProof.EqKinds
import PyProof.TupleCall
import PyProof.P3Eq
import PyProof.NeData
import PySem.Challenge.RW_boxwright_k22_bound_pairs
set_option Elab.async false
set_option linter.all false
set_option maxRecDepth 100000
set_option maxHeartbeats 8000000
/-! THE HAND LAYER, for ints, bools, texts, own classes, LISTS and tuples (index, slices, in, append, pop ..), calls, loops. Paste it whole ahead of your own text; what your proof does not reach may be deleted. -/
namespace L2
open PySem PySem.Spec PyProof.Rows

/-- a key: an int or a str -/
abbrev Key := Sum Int Str
def keyIs : Key → Value → Bool
  | .inl k, v => Value.isInt k v
  | .inr x, v => Value.isStrOf x v
def keyH (w : World) : Key → Int
  | .inl k => hashInt k
  | .inr x => hashStr w x
theorem keyIs_shape : ∀ {k : Key} {v : Value}, keyIs k v = true → (∃ i t, k = Sum.inl i ∧ v = Value.int i t) ∨ (∃ x t, k = Sum.inr x ∧ v = Value.str x t)
  | .inl i, v, h => by
    obtain ⟨t, e⟩ := Value.isInt_shape (k := i) (v := v) h
    exact .inl ⟨i, t, rfl, e⟩
  | .inr x, v, h => by
    obtain ⟨t, e⟩ := Value.isStrOf_shape (x := x) (v := v) h
    exact .inr ⟨x, t, rfl, e⟩
theorem keyIs_int (i : Int) (t : Tok) : keyIs (.inl i) (.int i t) = true := by simp [keyIs, Value.isInt]
theorem keyIs_str (x : Str) (t : Tok) : keyIs (.inr x) (.str x t) = true := by simp [keyIs, Value.isStrOf]
theorem key_ll (a b : Int) : decide ((Sum.inl a : Key) = Sum.inl b) = (a == b) := by
  by_cases e : a = b
  · subst e; simp
  · have h : ¬ (Sum.inl a : Key) = Sum.inl b := fun q => e (Sum.inl.inj q)
    rw [decide_eq_false h]
    exact (beq_eq_false_iff_ne.mpr e).symm
theorem key_rr (a b : Str) : decide ((Sum.inr a : Key) = Sum.inr b) = decide (a = b) := by
  by_cases e : a = b
  · subst e; simp
  · have h : ¬ (Sum.inr a : Key) = Sum.inr b := fun q => e (Sum.inr.inj q)
    rw [decide_eq_false h, decide_eq_false e]
theorem key_lr (a : Int) (b : Str) : decide ((Sum.inl a : Key) = Sum.inr b) = false := decide_eq_false (fun q => nomatch q)
theorem key_rl (a : Str) (b : Int) : decide ((Sum.inr a : Key) = Sum.inl b) = false := decide_eq_false (fun q => nomatch q)

def mixKind (prog : Program) (w : World) : PySem.KeyKind prog w Key where
  is := keyIs
  hash := keyH w
  inj := fun v a b ha hb => by
    rcases keyIs_shape ha with ⟨i, t, rfl, rfl⟩ | ⟨x, t, rfl, rfl⟩
    · rcases keyIs_shape hb with ⟨j, u, rfl, e⟩ | ⟨y, u, rfl, e⟩
      · injection e with e1 _; rw [e1]
      · exact nomatch e
    · rcases keyIs_shape hb with ⟨j, u, rfl, e⟩ | ⟨y, u, rfl, e⟩
      · exact nomatch e
      · injection e with e1 _; rw [e1]
  byValue := fun k v h => by
    rcases keyIs_shape h with ⟨i, t, rfl, rfl⟩ | ⟨x, t, rfl, rfl⟩ <;> rfl
  pyHash := fun hv h => by
    rcases keyIs_shape hv with ⟨i, t, rfl, rfl⟩ | ⟨x, t, rfl, rfl⟩
    · exact wpAny_pyHash_int h
    · exact wpAny_pyHash_str h
  eqBool := fun hu hv h => by
    rcases keyIs_shape hu with ⟨i, t, rfl, rfl⟩ | ⟨x, t, rfl, rfl⟩
    · rcases keyIs_shape hv with ⟨j, u, rfl, rfl⟩ | ⟨y, u, rfl, rfl⟩
      · rw [key_ll] at h; exact wpAny_eqBool_int h
      · rw [key_lr] at h; exact SeqAt.EqAt.int_str i t y u _ _ _ _ h
    · rcases keyIs_shape hv with ⟨j, u, rfl, rfl⟩ | ⟨y, u, rfl, rfl⟩
      · rw [key_rl] at h; exact SeqAt.EqAt.str_int x t j u _ _ _ _ h
      · rw [key_rr] at h; exact wpAny_eqBool_str h
  «strs» := fun k x t v h => by
    rcases keyIs_shape h with ⟨i, u, rfl, e⟩ | ⟨y, u, rfl, e⟩
    · exact nomatch e
    · injection e with e1 _
      subst e1
      cases v <;> rfl

theorem mixKind_is (prog : Program) (w : World) (k : Key) (v : Value) : (mixKind prog w).is k v = keyIs k v := rfl
theorem mixKind_int (prog : Program) (w : World) (i : Int) (t : Tok) : (mixKind prog w).is (.inl i) (.int i t) = true := keyIs_int i t
theorem mixKind_str (prog : Program) (w : World) (x : Str) (t : Tok) : (mixKind prog w).is (.inr x) (.str x t) = true := keyIs_str x t
end L2

namespace L2
open PySem PySem.Spec PyProof.Rows

/-- a value, without the heap -/
inductive V where
  | non | bl (b : Bool) | int (i : Int) | str (x : Str) | byt (b : Array UInt8) | flt (b : UInt64) | ref (a : Addr) | ty (n : String)
  deriving DecidableEq

def RelV : V → Value → Prop
  | .non, u => u = Value.none
  | .bl b, u => u = Value.bool b
  | .int i, u => ∃ t, u = Value.int i t
  | .str x, u => ∃ t, u = Value.str x t
  | .byt b, u => ∃ t, u = Value.bytes b t
  | .flt b, u => ∃ t, u = Value.float b t
  | .ref a, u => u = Value.ref a
  | .ty n, u => u = Value.type n

abbrev Vals : List V → List Value → Prop := Paired RelV
theorem Vals.length {xs : List V} {us : List Value} (r : Vals xs us) : xs.length = us.length := Paired.length r
theorem Vals.get : ∀ {xs : List V} {us : List Value} {i : Nat} {x : V}, Vals xs us → xs[i]? = some x → ∃ u, us[i]? = some u ∧ RelV x u
  | _, _, _, _, .nil, e => by simp at e
  | _, _, 0, _, .cons r _, e => by simp at e; subst e; exact ⟨_, rfl, r⟩
  | _, _, i + 1, x, .cons _ t, e => by
    obtain ⟨u, h1, h2⟩ := Vals.get (i := i) (x := x) t (by simpa using e)
    exact ⟨u, by simpa using h1, h2⟩
theorem Vals.set {x : V} {u : Value} (r : RelV x u) : ∀ {xs : List V} {us : List Value} (i : Nat), Vals xs us → Vals (xs.set i x) (us.set i u)
  | _, _, _, .nil => .nil
  | _, _, 0, .cons _ t => .cons r t
  | _, _, i + 1, .cons q t => .cons q (Vals.set r i t)
theorem Vals.append : ∀ {xs ys : List V} {us ws : List Value}, Vals xs us → Vals ys ws → Vals (xs ++ ys) (us ++ ws)
  | _, _, _, _, .nil, s => s
  | _, _, _, _, .cons r t, s => .cons r (Vals.append t s)
theorem Vals.take : ∀ {xs : List V} {us : List Value} (n : Nat), Vals xs us → Vals (xs.take n) (us.take n)
  | _, _, 0, _ => .nil
  | _, _, _ + 1, .nil => .nil
  | _, _, n + 1, .cons r t => .cons r (Vals.take n t)
theorem Vals.drop : ∀ {xs : List V} {us : List Value} (n : Nat), Vals xs us → Vals (xs.drop n) (us.drop n)
  | _, _, 0, r => r
  | _, _, _ + 1, .nil => .nil
  | _, _, n + 1, .cons _ t => Vals.drop n t
theorem Vals.none_of : ∀ {xs : List V} {us : List Value} {i : Nat}, Vals xs us → xs[i]? = none → us[i]? = none := fun {xs us i} r e => by
  have h1 := r.length
  have h2 : xs.length ≤ i := List.getElem?_eq_none_iff.mp e
  exact List.getElem?_eq_none_iff.mpr (by omega)

def RelO : Option V → Option Value → Prop
  | some v, some u => RelV v u
  | none, none => True
  | _, _ => False
def KV {κ : Type} : List (κ × V) → List (κ × Value) → Prop := Paired fun (p : κ × V) (q : κ × Value) => p.1 = q.1 ∧ RelV p.2 q.2

/-- a key of a dict (00_mix): an int or a text -/
def kV : Key → V
  | .inl i => .int i
  | .inr x => .str x

/-- what stands at a tracked address -/
inductive HO where
  /-- a list -/
  | lst (xs : List V)
  /-- a tuple (never changes) -/
  | tup (xs : List V)
  /-- a dict whose keys are ints and texts; one whose keys are tuples of ints and texts (the empty one is both) -/
  | dK (kvs : List (Key × V)) | dT (kvs : List (List Key × V))
  /-- a set of ints: its members, its size -/
  | set (S : Int → Bool) (n : Nat)
  /-- an instance of the class at C, its dict at dx, its attributes -/
  | ins (C dx : Addr) (fs : List (Str × V))
  /-- the dict of the instance at x -/
  | own (x : Addr)
  /-- the dict of an exception -/
  | xd (fs : List (Str × V))
  /-- a bound method, f of x -/
  | met (f x : Addr)
  /-- a range object lo, lo + 1, .. below hi -/
  | rng (lo hi : Int)
  /-- a thing that is known to the object (the script; a dict while a loop walks it): read, never written while it is so -/
  | frz (o : Obj) (u : HO)
  /-- a code object's table -/
  | tbl (ps : Array Value)
  /-- any other thing, by what is true of its one object (a def of one's own: SetO a S n := HO.ext fun h => ..) -/
  | ext (φ : Heap → Prop)

abbrev Hp := Addr → Option HO
def upd (H : Hp) (a : Addr) (o : HO) : Hp := fun b => if b = a then some o else H b
theorem upd_same {H : Hp} {a : Addr} {o : HO} : upd H a o a = some o := by unfold upd; rw [if_pos rfl]
theorem upd_ne {H : Hp} {a b : Addr} {o : HO} (h : b ≠ a) : upd H a o b = H b := by unfold upd; rw [if_neg h]
theorem upd_upd {H : Hp} {a : Addr} {o u : HO} : upd (upd H a o) a u = upd H a u := by
  funext b; unfold upd; split <;> rfl
/-- two objects of different content stand apart -/
theorem ne_of {H : Hp} {a b : Addr} {o u : HO} (h : H a = some o) (h' : H b = some u) (d : o ≠ u) : a ≠ b := by
  intro e; subst e; rw [h] at h'; exact d (Option.some.inj h')
theorem ne_of_none {H : Hp} {a b : Addr} {o : HO} (h : H a = some o) (h' : H b = none) : a ≠ b := by
  intro e; subst e; rw [h] at h'; cases h'

section
variable (P : Program) (w : World)
def ObjOk (H : Hp) (h : Heap) (a : Addr) : HO → Prop
  | .lst xs => xs.length ≤ sizeLine ∧ ∃ (its : List Value) (n : Nat), Vals xs its ∧ h.get? a = some { cls := .type "list", data := .seq its.toArray n }
  | .tup xs => xs.length ≤ sizeLine ∧ ∃ its : List Value, Vals xs its ∧ IsTup h a its.toArray
  | .dK kvs => kvs.length ≤ sizeLine ∧ (a == sysModules) = false ∧ ∃ vs, KV kvs vs ∧ h.DictOf (mixKind P w) a vs
  | .dT kvs => kvs.length ≤ sizeLine ∧ (a == sysModules) = false ∧ ∃ xs : List (List Key × Addr × Value),
      Paired (fun (p : List Key × V) (q : List Key × Addr × Value) => p.1 = q.1 ∧ H q.2.1 = some (.tup (p.1.map kV)) ∧ RelV p.2 q.2.2) kvs xs ∧
      ∃ o es ep, h.get? a = some o ∧ o.ExactDict ∧ o.data = .dict es ep ∧ es.toList = xs.map (entryOfKey (tupleKind (mixKind P w))) ∧ (xs.map (·.1)).Nodup
  | .set S n => h.SetOf (intKind P w) a S n
  | .ins C dx fs => H dx = some (.own a) ∧ fs.length ≤ 1000 ∧ dx ≠ a ∧ h.get? a = some (PySem.W.instObj C dx) ∧
      ∃ mA, h.Ns1 dx mA ∧ (∀ f, RelO (fs.lookup f) (mA f)) ∧ PySem.Within mA (fs.map (·.1))
  | .own _ => ∃ o, h.get? a = some o
  | .xd fs => ∃ mA, h.Ns1 a mA ∧ ∀ f, RelO (fs.lookup f) (mA f)
  | .rng lo hi => ∃ t u v, h.get? a = some { cls := .type "range", data := .fields #[.int lo t, .int hi u, .int 1 v] }
  | .frz o u => h.get? a = some o ∧ ObjOk H h a u
  | .tbl ps => h.get? a = some { cls := .none, data := .fields ps }
  | .met f x => h.get? a = some (PySem.W.methodObj (.ref f) (.ref x))
  | .ext φ => φ h ∧ (∃ o, h.get? a = some o) ∧ ∀ h1 h2 : Heap, φ h1 → (∀ o, h1.get? a = some o → h2.get? a = some o) → φ h2
/-- the abstract heap is held -/
def HOk (H : Hp) (h : Heap) : Prop := ∀ a o, H a = some o → ObjOk P w H h a o
end

section
variable {P : Program} {w : World} {H H' : Hp} {h h' : Heap} {a : Addr} {o : HO}
theorem ObjOk.lt (x : ObjOk P w H h a o) : a < h.objs.size := by
  cases o with
  | lst xs => obtain ⟨_, _, _, _, e⟩ := x; exact Heap.lt_size e
  | tup xs => obtain ⟨_, _, _, p⟩ := x; exact p.lt
  | dK kvs => obtain ⟨_, _, _, _, o, _, _, e, _⟩ := x; exact Heap.lt_size e
  | dT kvs => obtain ⟨_, _, _, _, o, _, _, e, _⟩ := x; exact Heap.lt_size e
  | set S n => obtain ⟨o, _, _, _, e, _⟩ := x; exact Heap.lt_size e
  | ins C dx fs => obtain ⟨_, _, _, e, _⟩ := x; exact Heap.lt_size e
  | own y => obtain ⟨_, e⟩ := x; exact Heap.lt_size e
  | xd fs => obtain ⟨_, ⟨_, _, _, e, _⟩, _⟩ := x; exact Heap.lt_size e
  | rng lo hi => obtain ⟨_, _, _, e⟩ := x; exact Heap.lt_size e
  | frz ob u => obtain ⟨e, _⟩ := x; exact Heap.lt_size e
  | tbl ps => exact Heap.lt_size (show h.get? a = some _ from x)
  | met f y => exact Heap.lt_size (show h.get? a = some _ from x)
  | ext φ => obtain ⟨_, ⟨_, e⟩, _⟩ := x; exact Heap.lt_size e
theorem Paired.mapP {α β : Type} {F G : α → β → Prop} : ∀ {l₁ : List α} {l₂ : List β}, Paired F l₁ l₂ → (∀ a b, F a b → G a b) → Paired G l₁ l₂
  | _, _, .nil, _ => .nil
  | _, _, .cons r t, f => .cons (f _ _ r) (Paired.mapP t f)
theorem Paired.imp' {α β : Type} {F G : α → β → Prop} (f : ∀ a b, F a b → G a b) {l₁ : List α} {l₂ : List β} (r : Paired F l₁ l₂) : Paired G l₁ l₂ := Paired.mapP r f
/-- what an object's description leans on: its own object, its own dict, the tuples -/
theorem ObjOk.stay (x : ObjOk P w H h a o) (k : ∀ b u, (b = a ∨ H b = some (.own a)) → h.get? b = some u → h'.get? b = some u)
    (ho : ∀ b, H b = some (.own a) → H' b = some (.own a)) (ht : ∀ b xs, H b = some (.tup xs) → H' b = some (.tup xs)) : ObjOk P w H' h' a o := by
  induction o with
  | lst xs => obtain ⟨z, its, n, r, e⟩ := x; exact ⟨z, its, n, r, k _ _ (.inl rfl) e⟩
  | tup xs => obtain ⟨z, its, r, ob, e, c⟩ := x; exact ⟨z, its, r, ob, k _ _ (.inl rfl) e, c⟩
  | dK kvs => obtain ⟨z, y, vs, r, ob, es, ep, e, c⟩ := x; exact ⟨z, y, vs, r, ob, es, ep, k _ _ (.inl rfl) e, c⟩
  | dT kvs =>
    obtain ⟨z, y, xs, r, ob, es, ep, e, c⟩ := x
    exact ⟨z, y, xs, Paired.mapP r fun p q z => ⟨z.1, ht _ _ z.2.1, z.2.2⟩, ob, es, ep, k _ _ (.inl rfl) e, c⟩
  | set S n => obtain ⟨ob, es, ep, t, e, c⟩ := x; exact ⟨ob, es, ep, t, k _ _ (.inl rfl) e, c⟩
  | ins C dx fs =>
    obtain ⟨d, z, ne, e, mA, ⟨od, es, ep, e2, c⟩, r⟩ := x
    exact ⟨ho _ d, z, ne, k _ _ (.inl rfl) e, mA, ⟨od, es, ep, k _ _ (.inr d) e2, c⟩, r⟩
  | own y => obtain ⟨ob, e⟩ := x; exact ⟨ob, k _ _ (.inl rfl) e⟩
  | xd fs => obtain ⟨mA, ⟨od, es, ep, e, c⟩, r⟩ := x; exact ⟨mA, ⟨od, es, ep, k _ _ (.inl rfl) e, c⟩, r⟩
  | rng lo hi => obtain ⟨t, u, v, e⟩ := x; exact ⟨t, u, v, k _ _ (.inl rfl) e⟩
  | frz ob u ih => obtain ⟨e, q⟩ := x; exact ⟨k _ _ (.inl rfl) e, ih q⟩
  | tbl ps =>
    have e : h.get? a = some { cls := .none, data := .fields ps } := x
    show h'.get? a = some { cls := .none, data := .fields ps }
    exact k a _ (.inl rfl) e
  | met f y =>
    have e : h.get? a = some (PySem.W.methodObj (.ref f) (.ref y)) := x
    show h'.get? a = some (PySem.W.methodObj (.ref f) (.ref y))
    exact k a _ (.inl rfl) e
  | ext φ => obtain ⟨p, ⟨o, e⟩, st⟩ := x; exact ⟨st _ _ p fun o q => k _ _ (.inl rfl) q, ⟨o, k _ _ (.inl rfl) e⟩, st⟩
theorem HOk.lt (x : HOk P w H h) (e : H a = some o) : a < h.objs.size := (x a o e).lt
theorem HOk.fresh (x : HOk P w H h) (e : h.objs.size ≤ a) : H a = none := by
  cases q : H a with
  | none => rfl
  | some u => exact absurd (Nat.lt_of_lt_of_le (x.lt q) e) (Nat.lt_irrefl _)
/-- every object of the heap is kept -/
theorem HOk.kept (x : HOk P w H h) (k : ∀ b u, h.get? b = some u → h'.get? b = some u) : HOk P w H h' := fun a o e =>
  (x a o e).stay (fun b u _ q => k b u q) (fun _ q => q) fun _ _ q => q
/-- a new object is laid and tracked -/
theorem HOk.laid (x : HOk P w H h) (k : ∀ b u, h.get? b = some u → h'.get? b = some u) (hp : h.objs.size ≤ a) (new : ObjOk P w (upd H a o) h' a o) : HOk P w (upd H a o) h' := fun b u e => by
  have hn := x.fresh hp
  by_cases hb : b = a
  · subst hb; rw [upd_same] at e; cases e; exact new
  · rw [upd_ne hb] at e
    exact (x b u e).stay (fun c v _ q => k c v q) (fun c q => by rw [upd_ne (ne_of_none q hn)]; exact q) fun c xs q => by rw [upd_ne (ne_of_none q hn)]; exact q
end

/-- what may be read as u: it is u, or a known u -/
def Rd (H : Hp) (a : Addr) (u : HO) : Prop := H a = some u ∨ ∃ o, H a = some (.frz o u)
theorem Rd.of {H : Hp} {a : Addr} {u : HO} (h : H a = some u) : Rd H a u := .inl h
theorem Rd.ok {P : Program} {w : World} {H : Hp} {h : Heap} {a : Addr} {u : HO} (r : Rd H a u) (x : HOk P w H h) : ObjOk P w H h a u := by
  rcases r with r | ⟨o, r⟩
  · exact x a u r
  · obtain ⟨_, q⟩ := x a _ r
    exact q
/-- what may be written -/
def Mut : Option HO → Prop
  | some (.lst _) => True
  | some (.dK _) => True
  | some (.dT _) => True
  | some (.set _ _) => True
  | some (.ins _ _ _) => True
  | some (.ext _) => True
  | _ => False
section
variable {P : Program} {w : World} {H : Hp} {h h' : Heap} {x e : Addr} {o' : HO}
/-- the object at e is changed: x itself, or the dict of the instance x -/
theorem HOk.write (ok : HOk P w H h) (mu : Mut (H x)) (he : e = x ∨ H e = some (.own x)) (k : ∀ b u, b ≠ e → h.get? b = some u → h'.get? b = some u) (heo : ∃ u, h'.get? e = some u)
    (new : ObjOk P w (upd H x o') h' x o') : HOk P w (upd H x o') h' := fun b u q => by
  have nown : ∀ c y, H c = some (.own y) → c ≠ x := fun c y r z => by subst z; rw [r] at mu; exact mu
  have ntup : ∀ c xs, H c = some (.tup xs) → c ≠ x := fun c xs r z => by subst z; rw [r] at mu; exact mu
  by_cases hb : b = x
  · subst hb; rw [upd_same] at q; cases q; exact new
  · rw [upd_ne hb] at q
    by_cases hbe : b = e
    · have q' : H b = some (.own x) := by
        rcases he with z | z
        · exact absurd (hbe.trans z) hb
        · rw [hbe]; exact z
      rw [q] at q'; cases q'
      obtain ⟨v, hv⟩ := heo
      exact ⟨v, by rw [hbe]; exact hv⟩
    · refine (ok b u q).stay (fun c v hc r => k c v ?_ r) (fun c r => by rw [upd_ne (nown c b r)]; exact r) fun c xs r => by rw [upd_ne (ntup c xs r)]; exact r
      rcases hc with rfl | hc
      · exact hbe
      · rintro rfl
        rcases he with z | z
        · exact nown c b hc z
        · rw [hc] at z; cases z; exact hb rfl
end

/-! ### kept unless tracked; of the frames at fs (the callers') the slots may change (an exception that passes writes there); of the records at ex (iterators) nothing is said -/
structure Un (fs ex : List Addr) (H H' : Hp) (h h' : Heap) : Prop where
  keep : ∀ b o, h.get? b = some o → H b = none → b ∉ fs → b ∉ ex → h'.get? b = some o
  slot : ∀ b o, h.get? b = some o → H b = none → b ∈ fs → b ∉ ex → ∃ sl, h'.get? b = some { o with slots := sl }
  free : ∀ b o, h.get? b = some o → H b = none → b ∉ ex → H' b = none
  there : ∀ b o, h.get? b = some o → b ∉ ex → ∃ o', h'.get? b = some o'
  tups : ∀ b xs, H b = some (.tup xs) → H' b = some (.tup xs)
  frzs : ∀ b o u, H b = some (.frz o u) → H' b = some (.frz o u)
  tbls : ∀ b ps, H b = some (.tbl ps) → ∃ more, H' b = some (.tbl (ps ++ more))
section
variable {fs fs' ex ex' : List Addr} {H H1 H2 : Hp} {h h1 h2 h' : Heap} {a x e : Addr} {o : HO}
theorem Un.any (u : Un fs ex H H1 h h1) {b : Addr} {ob : Obj} (q : h.get? b = some ob) (n : H b = none) (hx : b ∉ ex) : ∃ sl, h1.get? b = some { ob with slots := sl } := by
  by_cases hb : b ∈ fs
  · exact u.slot b ob q n hb hx
  · exact ⟨ob.slots, u.keep b ob q n hb hx⟩
theorem Un.trans (a : Un fs ex H H1 h h1) (b : Un fs ex H1 H2 h1 h2) : Un fs ex H H2 h h2 where
  keep := fun c ob q n hc hx => b.keep c ob (a.keep c ob q n hc hx) (a.free c ob q n hx) hc hx
  slot := fun c ob q n hc hx => by
    obtain ⟨sl, e1⟩ := a.slot c ob q n hc hx
    obtain ⟨sl', e2⟩ := b.slot c _ e1 (a.free c ob q n hx) hc hx
    exact ⟨sl', e2⟩
  free := fun c ob q n hx => by
    obtain ⟨o', e1⟩ := a.there c ob q hx
    exact b.free c o' e1 (a.free c ob q n hx) hx
  there := fun c ob q hx => by
    obtain ⟨o', e1⟩ := a.there c ob q hx
    exact b.there c o' e1 hx
  tups := fun c xs q => b.tups c xs (a.tups c xs q)
  frzs := fun c ob xs q => b.frzs c ob xs (a.frzs c ob xs q)
  tbls := fun c ps q => by
    obtain ⟨m1, e1⟩ := a.tbls c ps q
    obtain ⟨m2, e2⟩ := b.tbls c _ e1
    exact ⟨m1 ++ m2, by rw [e2, Array.append_assoc]⟩
theorem Un.kept (k : ∀ b u, h.get? b = some u → h'.get? b = some u) : Un fs ex H H h h' :=
  ⟨fun b ob q _ _ _ => k b ob q, fun b ob q _ _ _ => ⟨ob.slots, k b ob q⟩, fun _ _ _ n _ => n, fun b ob q _ => ⟨ob, k b ob q⟩, fun _ _ q => q, fun _ _ _ q => q, fun _ ps q => ⟨#[], by rw [q]; simp⟩⟩
theorem Un.refl : Un fs ex H H h h := Un.kept fun _ _ q => q
theorem Un.laid (k : ∀ b u, h.get? b = some u → h'.get? b = some u) (hp : h.objs.size ≤ a) (hn : H a = none) : Un fs ex H (upd H a o) h h' where
  keep := fun b u q _ _ _ => k b u q
  slot := fun b u q _ _ _ => ⟨u.slots, k b u q⟩
  free := fun b u q n _ => by rw [upd_ne (Nat.ne_of_lt (Nat.lt_of_lt_of_le (Heap.lt_size q) hp))]; exact n
  there := fun b u q _ => ⟨u, k b u q⟩
  tups := fun b xs q => by rw [upd_ne (ne_of_none q hn)]; exact q
  frzs := fun b u xs q => by rw [upd_ne (ne_of_none q hn)]; exact q
  tbls := fun b ps q => ⟨#[], by rw [upd_ne (ne_of_none q hn), q]; simp⟩
theorem Un.write (mu : Mut (H x)) (he : e = x ∨ H e = some (.own x)) (k : ∀ b u, b ≠ e → h.get? b = some u → h'.get? b = some u) (heo : ∃ u, h'.get? e = some u) : Un fs ex H (upd H x o) h h' := by
  have hx : ∀ b, H b = none → b ≠ x := fun b n z => by subst z; rw [n] at mu; exact mu
  have hb : ∀ b, H b = none → b ≠ e := fun b n z => by
    subst z
    rcases he with r | r
    · exact hx b n r
    · rw [n] at r; cases r
  have hm : ∀ b u, H b = some u → ¬ Mut (some u) → b ≠ x := fun b u q nm z => by subst z; rw [q] at mu; exact nm mu
  refine ⟨fun b u q n _ _ => k b u (hb b n) q, fun b u q n _ _ => ⟨u.slots, k b u (hb b n) q⟩, fun b u q n _ => by rw [upd_ne (hx b n)]; exact n, fun b u q _ => ?_,
    fun b xs q => by rw [upd_ne (hm b _ q fun z => z)]; exact q, fun b u xs q => by rw [upd_ne (hm b _ q fun z => z)]; exact q, fun b ps q => ⟨#[], by rw [upd_ne (hm b _ q fun z => z), q]; simp⟩⟩
  by_cases hbe : b = e
  · subst hbe; exact heo
  · exact ⟨u, k b u hbe q⟩
theorem Un.mono (u : Un fs ex H H1 h h1) (hs : ∀ b ∈ fs, b ∈ fs') (hx : ∀ b ∈ ex, b ∈ ex') : Un fs' ex' H H1 h h1 :=
  ⟨fun b ob q n hb he => u.keep b ob q n (fun z => hb (hs b z)) fun z => he (hx b z), fun _ _ q n _ he => u.any q n fun z => he (hx _ z), fun b ob q n he => u.free b ob q n fun z => he (hx b z), fun b ob q he => u.there b ob q fun z => he (hx b z), u.tups, u.frzs, u.tbls⟩
end

/-! ### the heap without what is tracked -/
def trk (h : Heap) (H : Hp) : List Addr := (List.range h.objs.size).filter fun a => (H a).isSome
def hidT (h : Heap) (H : Hp) : Heap := PySem.W.hideAll h (trk h H)
theorem hidT_size (h : Heap) (H : Hp) : (hidT h H).objs.size = h.objs.size := PySem.W.hideAll_size _ _
theorem hidT_get {h : Heap} {H : Hp} {b : Addr} {o : Obj} (e : h.get? b = some o) (n : H b = none) : (hidT h H).get? b = some o :=
  PySem.W.hideAll_get _ e fun hm => by
    have q : (H b).isSome = true := (List.mem_filter.mp hm).2
    rw [n] at q; simp at q
theorem of_hidT {h : Heap} {H : Hp} {b : Addr} {o : Obj} (e : (hidT h H).get? b = some o) : h.get? b = some o ∧ H b = none := by
  have e' : h.get? b = some o := PySem.W.of_hideAll (trk h H) e
  refine ⟨e', ?_⟩
  cases q : H b with
  | none => rfl
  | some x =>
    have hm : b ∈ trk h H := List.mem_filter.mpr ⟨List.mem_range.mpr (Heap.lt_size e'), by simp [q]⟩
    have z : (hidT h H).get? b = none := PySem.W.hideAll_none (trk h H) hm
    rw [z] at e; cases e

/-! ### OpenK's ledger, filled with every new object but one -/
def allNews (g h : Heap) (L : Addr) : List (Addr × Obj) := (List.range h.objs.size).filterMap fun a => if a = L ∨ (g.get? a).isSome = true then none else (h.get? a).map fun o => (a, o)
theorem mem_allNews {g h : Heap} {L a : Addr} {o : Obj} (h1 : a ≠ L) (h2 : g.get? a = none) (h3 : h.get? a = some o) : (a, o) ∈ allNews g h L :=
  List.mem_filterMap.mpr ⟨a, List.mem_range.mpr (Heap.lt_size h3), by simp [h1, h2, h3]⟩
theorem of_mem_allNews {g h : Heap} {L : Addr} {p : Addr × Obj} (hp : p ∈ allNews g h L) : p.1 ≠ L ∧ g.get? p.1 = none ∧ h.get? p.1 = some p.2 := by
  obtain ⟨b, _, e⟩ := List.mem_filterMap.mp hp
  split at e
  · cases e
  · rename_i hn
    cases q : h.get? b with
    | none => rw [q] at e; simp at e
    | some u =>
      rw [q] at e
      simp only [Option.map_some, Option.some.injEq] at e
      subst e
      refine ⟨fun z => hn (.inl z), ?_, q⟩
      show g.get? b = none
      cases r : g.get? b with
      | none => rfl
      | some v => exact (hn (.inr (by simp [r]))).elim
def rest (g h : Heap) (L d : Addr) : List (Addr × Obj) := (allNews g h L).filter fun p => decide (p.1 ≠ d)
theorem rest_ne {g h : Heap} {L d : Addr} : ∀ p ∈ rest g h L d, p.1 ≠ d := fun p hp => of_decide_eq_true (List.mem_filter.mp hp).2
theorem mem_rest {g h : Heap} {L d a : Addr} {o : Obj} (h1 : a ≠ L) (h2 : g.get? a = none) (h3 : h.get? a = some o) (h4 : a ≠ d) : (a, o) ∈ rest g h L d :=
  List.mem_filter.mpr ⟨mem_allNews h1 h2 h3, decide_eq_true h4⟩
theorem news_all {g h : Heap} {L : Addr} : News g L h (allNews g h L) := fun p hp => let ⟨a, b, c⟩ := of_mem_allNews hp; ⟨c, a, b⟩
theorem news_at {g h : Heap} {L d : Addr} {o : Obj} (h1 : d ≠ L) (h2 : g.get? d = none) (h3 : h.get? d = some o) : News g L h ((d, o) :: rest g h L d) := fun p hp => by
  rcases List.mem_cons.mp hp with rfl | hp
  · exact ⟨h3, h1, h2⟩
  · exact news_all p (List.mem_filter.mp hp).1
/-- behind a rule that changed d alone: all else but the frame is kept -/
theorem kept_of_news {g h h' : Heap} {L d : Addr} {m : Str → Option Value} (k : ∀ b o, g.get? b = some o → h.get? b = some o) (F : Fr g L h' m) (N : News g L h' (rest g h L d)) :
    ∀ b o, b ≠ L → b ≠ d → h.get? b = some o → h'.get? b = some o := fun b o h1 h2 e => by
  cases q : g.get? b with
  | some u =>
    have := k b u q
    rw [e] at this; cases this
    exact F.keep b _ q
  | none => exact (N (b, o) (mem_rest h1 q e h2)).1
end L2

namespace L2
open PySem PySem.Spec PyProof.Rows

/-- the module's facts, over the base: the heap at the law's entry without what is tracked there -/
structure Mod (K : PySem.W.Frag) (mg : Str → Option Value) (base : Heap) : Prop where
  kin : K.In base
  glob : base.Ns mainGlobals mg
  blt : ∃ mb, base.Ns builtinsNs mb ∧ ∀ x : Str, x ≠ "__name__" → mb x = bootBuiltins x
  nolimit : base.NoLimit

/-- the context: a def's body (or a comprehension's block) running. base: fixed through the whole law; s₀, H₀: the entry; outer: the frames whose slots others may change (a def's callers); stack: all frames that run;
   ex: iterators that were made ahead of the entry and are walked here (a comprehension's); fn: the names whose cells were made at the entry (a def: all; a comprehension's block: its own); calm: not within an except suite; pn: pins that every state bears; xe: what is wanted of an exception that leaves the code -/
structure Cx where
  prog : Program
  w : World
  K : PySem.W.Frag
  mg : Str → Option Value
  base : Heap
  A : Around
  N : List Str
  s₀ : Shared
  H₀ : Hp
  env : Env
  outer : List Env
  stack : List Env
  ex : List Addr
  fn : Str → Bool
  calm : Bool
  pn : List (Addr × Obj)
  xe : Value → Shared → Prop
/-- the callers' frames -/
def frs (l : List Env) : List Addr := l.filterMap (·.frame)
abbrev Cx.fs (X : Cx) : List Addr := frs X.outer

def Vis (sc : Scope) (x : Str) : Prop := sc.names.lookup x = some .local ∨ sc.names.lookup x = some .cell ∨ sc.names.lookup x = some .free
def Loc (sc : Scope) (x : Str) : Prop := sc.names.lookup x = some .local ∨ sc.names.lookup x = some .cell
def Look (env : Env) (h : Heap) (m : Str → Option Value) (x : Str) (u : Value) : Prop :=
  (env.kindOf x = some .local ∧ m x = some u) ∨ ((env.kindOf x = some .cell ∨ env.kindOf x = some .free) ∧ ∃ c, env.cells.lookup x = some c ∧ h.IsCell c (some u))

structure Cx.Ok (X : Cx) : Prop where
  mod : Mod X.K X.mg X.base
  kind : X.env.scope.kind = .function
  glob : X.env.globals = mainGlobals
  blt : X.env.builtins = builtinsNs
  above : X.s₀.heap.objs.size ≤ X.env.locals
  inj : ∀ x y c, X.env.cells.lookup x = some c → X.env.cells.lookup y = some c → x = y
  has : ∀ x, (X.env.kindOf x = some .cell ∨ X.env.kindOf x = some .free) → ∃ c, X.env.cells.lookup x = some c
  cab : ∀ x c, X.fn x = true → X.env.cells.lookup x = some c → X.s₀.heap.objs.size ≤ c
  hd : X.calm = true → X.A.handled = none
  frames : X.A.frames = some X.stack
  stk : X.stack = X.outer ∨ (X.stack = X.env :: X.outer ∧ X.env.frame = some X.env.locals)
  exf : ∀ b ∈ X.ex, b ≠ X.env.locals ∧ ∀ x c, X.env.cells.lookup x = some c → c ≠ b
  bs : ∀ b o, X.base.get? b = some o → X.s₀.heap.get? b = some o ∧ X.H₀ b = none
  bsz : X.base.objs.size ≤ X.s₀.heap.objs.size
  noex : ∀ b o, X.base.get? b = some o → b ∉ X.ex
  exfs : ∀ b ∈ X.ex, b ∉ X.fs
  funs : X.s₀.heap.FunFrames X.base X.outer
  frf : ∀ b ∈ X.fs, X.H₀ b = none

structure Inv (X : Cx) (pins : List (Addr × Obj)) (σ : List (Option V)) (H : Hp) (s : Shared) : Prop where
  ok : X.Ok
  os : s.os = X.s₀.os
  bare : AllBare s.gens
  base : Un X.fs X.ex X.H₀ H X.s₀.heap s.heap
  loc : ∃ m, s.heap.Ns X.env.locals m ∧ ∀ (i : Nat) (x : Str) (v : V), X.N[i]? = some x → σ[i]? = some (some v) → Vis X.env.scope x → ∃ u, RelV v u ∧ Look X.env s.heap m x u
  cell : ∀ x c, X.env.cells.lookup x = some c → ∃ v, s.heap.IsCell c v
  free : H X.env.locals = none
  freeC : ∀ x c, X.env.cells.lookup x = some c → H c = none
  pin : ∀ p ∈ X.pn ++ pins, s.heap.get? p.1 = some p.2 ∧ H p.1 = none ∧ p.1 ≠ X.env.locals ∧ p.1 ∉ X.fs ∧ ∀ v, p.2.data ≠ .cell v
  hok : HOk X.prog X.w H s.heap
  len : σ.length = X.N.length

section
variable {X : Cx} {pins : List (Addr × Obj)} {σ : List (Option V)} {H H' : Hp} {s : Shared} {h' : Heap}

theorem Cx.Ok.nofr (ok : X.Ok) {b : Addr} {o : Obj} (e : X.base.get? b = some o) : b ∉ X.fs := fun hb => by
  have := (ok.funs.mem hb).1
  rw [e] at this; cases this
theorem Inv.bs (I : Inv X pins σ H s) : ∀ b o, X.base.get? b = some o → s.heap.get? b = some o ∧ H b = none := fun b o e =>
  ⟨I.base.keep b o (I.ok.bs b o e).1 (I.ok.bs b o e).2 (I.ok.nofr e) (I.ok.noex b o e), I.base.free b o (I.ok.bs b o e).1 (I.ok.bs b o e).2 (I.ok.noex b o e)⟩
theorem Inv.bk (I : Inv X pins σ H s) : ∀ b o, X.base.get? b = some o → s.heap.get? b = some o := fun b o e => (I.bs b o e).1
theorem Inv.mod (I : Inv X pins σ H s) : Mod X.K X.mg X.base := I.ok.mod
theorem Inv.kIn (I : Inv X pins σ H s) : X.K.In s.heap := I.ok.mod.kin.keeps I.bk
theorem Inv.nolimit (I : Inv X pins σ H s) : s.heap.NoLimit := I.ok.mod.nolimit.keeps I.bk
/-- the frame over the base: for OpenK's rules (K.In X.base is I.mod.kin) -/
theorem Inv.fr (I : Inv X pins σ H s) : ∃ m, Fr X.base X.env.locals s.heap m :=
  let ⟨m, hn, _⟩ := I.loc
  ⟨m, hn, I.bk, Nat.le_trans I.ok.bsz I.ok.above⟩
theorem Inv.lt (I : Inv X pins σ H s) : X.env.locals < s.heap.objs.size := let ⟨_, hn, _⟩ := I.loc; hn.lt
theorem Inv.sz (I : Inv X pins σ H s) : X.s₀.heap.objs.size ≤ s.heap.objs.size := Nat.le_trans I.ok.above (Nat.le_of_lt I.lt)
theorem Inv.nofs (I : Inv X pins σ H s) {a : Addr} (h : s.heap.objs.size ≤ a) : a ∉ X.fs := fun hb => by
  obtain ⟨_, o, ho, _⟩ := I.ok.funs.mem hb
  exact absurd (Nat.lt_of_lt_of_le (Heap.lt_size ho) (Nat.le_trans I.sz h)) (Nat.lt_irrefl _)
theorem Inv.cne (I : Inv X pins σ H s) : ∀ x c, X.env.cells.lookup x = some c → c ≠ X.env.locals := fun x c e z => by
  obtain ⟨v, o, ho, hd⟩ := I.cell x c e
  obtain ⟨m, ⟨o', es, ep, ho', hd', _⟩, _⟩ := I.loc
  rw [z, ho'] at ho; cases ho; rw [hd'] at hd; cases hd
theorem Inv.funs (I : Inv X pins σ H s) : s.heap.FunFrames X.base X.outer := by
  have all : ∀ (l : List Env), (∀ b ∈ frs l, b ∈ X.fs) → X.s₀.heap.FunFrames X.base l → s.heap.FunFrames X.base l := by
    intro l
    induction l with
    | nil => intro _ _; trivial
    | cons env r ih =>
      intro hs hl
      obtain ⟨hk, ⟨L, o, hf, hn, ho, hd⟩, hr⟩ := hl
      have hL : L ∈ X.fs := hs L (by unfold frs; rw [List.filterMap_cons, hf]; exact List.mem_cons_self)
      obtain ⟨sl, e⟩ := I.base.slot L o ho (I.ok.frf L hL) hL fun z => I.ok.exfs L z hL
      exact ⟨hk, ⟨L, _, hf, hn, e, hd⟩, ih (fun b hb => hs b (by unfold frs; rw [List.filterMap_cons, hf]; exact List.mem_cons_of_mem _ hb)) hr⟩
  exact all X.outer (fun _ hb => hb) I.ok.funs

/-- the frames that run, for a call -/
theorem Inv.stack (I : Inv X pins σ H s) : s.heap.FunFrames X.base X.stack := by
  rcases I.ok.stk with e | ⟨e, hf⟩
  · rw [e]; exact I.funs
  · rw [e]
    obtain ⟨m, hn, _⟩ := I.loc
    refine .cons (by rw [I.ok.kind]; decide) hf hn ?_ I.funs
    exact Heap.get?_none_of_le (Nat.le_trans I.ok.bsz I.ok.above)
theorem Inv.stkSub (I : Inv X pins σ H s) : ∀ b ∈ frs X.stack, b ∈ X.env.locals :: X.fs := fun b hb => by
  rcases I.ok.stk with e | ⟨e, hf⟩
  · rw [e] at hb; exact List.mem_cons_of_mem _ hb
  · rw [e] at hb
    unfold frs at hb
    rw [List.filterMap_cons, hf] at hb
    exact hb
theorem Inv.stkFree (I : Inv X pins σ H s) : ∀ b ∈ frs X.stack, H b = none := fun b hb => by
  rcases List.mem_cons.mp (I.stkSub b hb) with e | hb
  · rw [e]; exact I.free
  · obtain ⟨_, o, ho, _⟩ := I.ok.funs.mem hb
    exact I.base.free b o ho (I.ok.frf b hb) fun z => I.ok.exfs b z hb

/-- THE STEP: the untracked objects but the frame and the records at ch are kept (the callers' frames up to slots), the frame's map is kept, the new abstract heap is held -/
theorem Inv.step {g' : Array GenState} {t' : Nat} {d' : Drawn} {ch : List Addr} (I : Inv X pins σ H s)
    (hch : ∀ b ∈ ch, (b ∈ X.ex ∨ X.s₀.heap.objs.size ≤ b) ∧ b ≠ X.env.locals ∧ (∀ x c, X.env.cells.lookup x = some c → c ≠ b) ∧ ∀ p ∈ X.pn ++ pins, p.1 ≠ b)
    (keep : ∀ b o, b ≠ X.env.locals → b ∉ X.fs → b ∉ ch → s.heap.get? b = some o → H b = none → h'.get? b = some o)
    (slot : ∀ b o, b ≠ X.env.locals → b ∈ X.fs → b ∉ ch → s.heap.get? b = some o → H b = none → ∃ sl, h'.get? b = some { o with slots := sl }) (free : ∀ b o, b ∉ ch → s.heap.get? b = some o → H b = none → H' b = none)
    (there : ∀ b o, b ∉ ch → s.heap.get? b = some o → ∃ o', h'.get? b = some o')
    (tups : ∀ b xs, H b = some (.tup xs) → H' b = some (.tup xs)) (frzs : ∀ b o u, H b = some (.frz o u) → H' b = some (.frz o u)) (tbls : ∀ b ps, H b = some (.tbl ps) → ∃ more, H' b = some (.tbl (ps ++ more)))
    (ns : ∀ m, s.heap.Ns X.env.locals m → h'.Ns X.env.locals m) (hok : HOk X.prog X.w H' h') (hg : AllBare g') :
    Inv X pins σ H' { s with heap := h', gens := g', drawn := d', toks := t' } := by
  have neL : ∀ b o, X.s₀.heap.get? b = some o → b ≠ X.env.locals := fun b o e => Nat.ne_of_lt (Nat.lt_of_lt_of_le (Heap.lt_size e) I.ok.above)
  have neC : ∀ b o, X.s₀.heap.get? b = some o → b ∉ X.ex → b ∉ ch := fun b o e hx hb => by
    rcases (hch b hb).1 with z | z
    · exact hx z
    · exact absurd (Nat.lt_of_lt_of_le (Heap.lt_size e) z) (Nat.lt_irrefl _)
  have cellK : ∀ x c, X.env.cells.lookup x = some c → ∀ v, s.heap.IsCell c v → h'.IsCell c v := fun x c e v ⟨o, ho, hd⟩ => by
    have nch : c ∉ ch := fun z => (hch c z).2.2.1 x c e rfl
    by_cases hc : c ∈ X.fs
    · obtain ⟨sl, q⟩ := slot c o (I.cne x c e) hc nch ho (I.freeC x c e)
      exact ⟨_, q, hd⟩
    · exact ⟨o, keep c o (I.cne x c e) hc nch ho (I.freeC x c e), hd⟩
  refine ⟨I.ok, I.os, hg, ⟨fun b o e n hb hx => ?_, fun b o e n hb hx => ?_, fun b o e n hx => ?_, fun b o e hx => ?_, fun b xs e => tups b xs (I.base.tups b xs e), fun b o xs e => frzs b o xs (I.base.frzs b o xs e), fun b ps e => ?_⟩, ?_, fun x c e => ?_, ?_, fun x c e => ?_, fun p hp => ?_, hok, I.len⟩
  · exact keep b o (neL b o e) hb (neC b o e hx) (I.base.keep b o e n hb hx) (I.base.free b o e n hx)
  · obtain ⟨sl, e1⟩ := I.base.slot b o e n hb hx
    obtain ⟨sl', e2⟩ := slot b _ (neL b o e) hb (neC b o e hx) e1 (I.base.free b o e n hx)
    exact ⟨sl', e2⟩
  · obtain ⟨o', e1⟩ := I.base.there b o e hx
    exact free b o' (neC b o e hx) e1 (I.base.free b o e n hx)
  · obtain ⟨o', e1⟩ := I.base.there b o e hx
    exact there b o' (neC b o e hx) e1
  · obtain ⟨m1, e1⟩ := I.base.tbls b ps e
    obtain ⟨m2, e2⟩ := tbls b _ e1
    exact ⟨m1 ++ m2, by rw [e2, Array.append_assoc]⟩
  · obtain ⟨m, hn, hl⟩ := I.loc
    refine ⟨m, ns m hn, fun i x v e1 e2 e3 => ?_⟩
    obtain ⟨u, r, l⟩ := hl i x v e1 e2 e3
    refine ⟨u, r, ?_⟩
    rcases l with l | ⟨k, c, e, z⟩
    · exact .inl l
    · exact .inr ⟨k, c, e, cellK x c e _ z⟩
  · obtain ⟨v, z⟩ := I.cell x c e
    exact ⟨v, cellK x c e v z⟩
  · obtain ⟨m, ⟨o, _, _, ho, _⟩, _⟩ := I.loc
    exact free _ o (fun z => (hch _ z).2.1 rfl) ho I.free
  · obtain ⟨v, o, ho, hd⟩ := I.cell x c e
    exact free c o (fun z => (hch c z).2.2.1 x c e rfl) ho (I.freeC x c e)
  · obtain ⟨e, n, ne, nf, d⟩ := I.pin p hp
    have nch : p.1 ∉ ch := fun z => (hch p.1 z).2.2.2 p hp rfl
    exact ⟨keep p.1 p.2 ne nf nch e n, free p.1 p.2 nch e n, ne, nf, d⟩
/-- .. where the frame's own object is kept too -/
theorem Inv.un {t' : Nat} (I : Inv X pins σ H s) (u : Un X.fs [] H H' s.heap h') (hok : HOk X.prog X.w H' h') : Inv X pins σ H' { s with heap := h', toks := t' } := by
  obtain ⟨m, ⟨o, es, ep, ho, r⟩, _⟩ := id I.loc
  obtain ⟨sl, hL⟩ := u.any ho I.free (by simp)
  exact I.step (g' := s.gens) (d' := s.drawn) (ch := []) (fun _ z => nomatch z) (fun b o _ hb _ e n => u.keep b o e n hb (by simp)) (fun b o _ hb _ e n => u.slot b o e n hb (by simp)) (fun b o _ e n => u.free b o e n (by simp)) (fun b o _ e => u.there b o e (by simp)) u.tups u.frzs u.tbls (fun m' hm => by
    obtain ⟨o', es', ep', ho', r'⟩ := hm
    rw [ho] at ho'; cases ho'
    exact ⟨_, es', ep', hL, r'⟩) hok I.bare
/-- behind a call (or a comprehension's block): the slots of this frame may have changed too, the records at ch may have turned -/
theorem Inv.call {g' : Array GenState} {t' : Nat} {d' : Drawn} {ch : List Addr} (I : Inv X pins σ H s) (u : Un (frs X.stack) ch H H' s.heap h') (hok : HOk X.prog X.w H' h') (hg : AllBare g')
    (hch : ∀ b ∈ ch, (b ∈ X.ex ∨ X.s₀.heap.objs.size ≤ b) ∧ b ≠ X.env.locals ∧ (∀ x c, X.env.cells.lookup x = some c → c ≠ b) ∧ ∀ p ∈ X.pn ++ pins, p.1 ≠ b) :
    Inv X pins σ H' { s with heap := h', gens := g', drawn := d', toks := t' } := by
  obtain ⟨m, ⟨o, es, ep, ho, r⟩, _⟩ := id I.loc
  obtain ⟨sl, hL⟩ := u.any ho I.free fun z => (hch _ z).2.1 rfl
  exact I.step (ch := ch) hch (fun b o hL hb hc e n => u.keep b o e n (fun z => (List.mem_cons.mp (I.stkSub b z)).elim hL hb) hc) (fun b o _ _ hc e n => u.any e n hc) (fun b o hc e n => u.free b o e n hc) (fun b o hc e => u.there b o e hc) u.tups u.frzs u.tbls (fun m' hm => by
    obtain ⟨o', es', ep', ho', r'⟩ := hm
    rw [ho] at ho'; cases ho'
    exact ⟨_, es', ep', hL, r'⟩) hok hg
/-- an untracked record of ours (an iterator) has turned -/
theorem Inv.turned {t' : Nat} {it : Addr} (I : Inv X pins σ H s) (k : ∀ b o, b ≠ it → s.heap.get? b = some o → h'.get? b = some o) (hn : H it = none) (hL : it ≠ X.env.locals)
    (h1 : it ∈ X.ex ∨ X.s₀.heap.objs.size ≤ it) (h2 : ∀ x c, X.env.cells.lookup x = some c → c ≠ it) (h3 : ∀ p ∈ X.pn ++ pins, p.1 ≠ it) : Inv X pins σ H { s with heap := h', toks := t' } := by
  have nit : ∀ b u, H b = some u → b ≠ it := fun b u e z => by rw [z, hn] at e; cases e
  refine I.step (g' := s.gens) (d' := s.drawn) (ch := [it]) (fun b hb => ?_) (fun b o _ _ hc e _ => k b o (fun z => hc (by simp [z])) e) (fun b o _ _ hc e _ => ⟨o.slots, k b o (fun z => hc (by simp [z])) e⟩) (fun _ _ _ _ n => n)
    (fun b o hc e => ⟨o, k b o (fun z => hc (by simp [z])) e⟩) (fun _ _ e => e) (fun _ _ _ e => e) (fun b ps e => ⟨#[], by rw [e]; simp⟩) (fun m hm => ?_) (fun b u e => ?_) I.bare
  · have e : b = it := by simpa using hb
    subst e
    exact ⟨h1, hL, h2, h3⟩
  · obtain ⟨o, es, ep, ho, r⟩ := hm
    exact ⟨o, es, ep, k _ o (Ne.symm hL) ho, r⟩
  · refine (I.hok b u e).stay (fun c v hc q => k c v ?_ q) (fun _ q => q) fun _ _ q => q
    rcases hc with z | z
    · rw [z]; exact nit b u e
    · exact nit c _ z
theorem Inv.tok (I : Inv X pins σ H s) (t : Nat) : Inv X pins σ H { s with toks := t } := I.un (h' := s.heap) (t' := t) Un.refl I.hok
/-- all objects kept -/
theorem Inv.kept {t' : Nat} (I : Inv X pins σ H s) (k : ∀ b u, s.heap.get? b = some u → h'.get? b = some u) : Inv X pins σ H { s with heap := h', toks := t' } := I.un (Un.kept k) (I.hok.kept k)
/-- a new object laid and tracked -/
theorem Inv.laid {a : Addr} {o : HO} {t' : Nat} (I : Inv X pins σ H s) (k : ∀ b u, s.heap.get? b = some u → h'.get? b = some u) (hp : s.heap.objs.size ≤ a) (new : ObjOk X.prog X.w (upd H a o) h' a o) :
    Inv X pins σ (upd H a o) { s with heap := h', toks := t' } := I.un (Un.laid k hp (I.hok.fresh hp)) (I.hok.laid k hp new)
/-- an object written -/
theorem Inv.write {x e : Addr} {o : HO} {t' : Nat} (I : Inv X pins σ H s) (mu : Mut (H x)) (he : e = x ∨ H e = some (.own x)) (k : ∀ b u, b ≠ e → s.heap.get? b = some u → h'.get? b = some u) (heo : ∃ u, h'.get? e = some u)
    (new : ObjOk X.prog X.w (upd H x o) h' x o) : Inv X pins σ (upd H x o) { s with heap := h', toks := t' } := I.un (Un.write mu he k heo) (I.hok.write mu he k heo new)
/-- forgetting slots, pins -/
theorem Inv.weak {σ' : List (Option V)} (I : Inv X pins σ H s) (hl : σ'.length = σ.length) (w : ∀ (i : Nat) v, σ'[i]? = some (some v) → σ[i]? = some (some v)) : Inv X pins σ' H s :=
  ⟨I.ok, I.os, I.bare, I.base, let ⟨m, hn, hl'⟩ := I.loc; ⟨m, hn, fun i x v e1 e2 e3 => hl' i x v e1 (w i v e2) e3⟩, I.cell, I.free, I.freeC, I.pin, I.hok, hl.trans I.len⟩
theorem Inv.pins_of {pins' : List (Addr × Obj)} (I : Inv X pins σ H s) (h : ∀ p ∈ pins', s.heap.get? p.1 = some p.2 ∧ H p.1 = none ∧ p.1 ≠ X.env.locals ∧ p.1 ∉ X.fs ∧ ∀ v, p.2.data ≠ .cell v) : Inv X pins' σ H s :=
  ⟨I.ok, I.os, I.bare, I.base, I.loc, I.cell, I.free, I.freeC, fun p hp => (List.mem_append.mp hp).elim (fun z => I.pin p (List.mem_append_left _ z)) (h p), I.hok, I.len⟩

theorem nodup_ix {N : List Str} (hN : N.Nodup) {i j : Nat} {x : Str} (a : N[i]? = some x) (b : N[j]? = some x) : i = j := by
  obtain ⟨h1, e1⟩ := List.getElem?_eq_some_iff.mp a
  obtain ⟨h2, e2⟩ := List.getElem?_eq_some_iff.mp b
  exact (List.getElem_inj hN).mp (e1.trans e2.symm)

/-- a name is stored; what changed -/
theorem store_ok2 {M : Model} {A : Around} {E : Value → Shared → Prop} {i : Nat} {x : Str} {v : V} {u : Value} {Q : Unit → Shared → Prop} (I : Inv X pins σ H s) (hN : X.N.Nodup) (hi : X.N[i]? = some x) (hx : Loc X.env.scope x) (r : RelV v u)
    (h : ∀ s', Inv X pins (σ.set i (some v)) H s' → (∃ a, Heap.SameBut a s.heap s'.heap ∧ (a = X.env.locals ∨ X.env.cells.lookup x = some a)) → Q () s') (hf : X.fn x = true ∨ X.env.scope.names.lookup x = some .local := by first | exact .inl rfl | exact .inr rfl | assumption) : wpAny M A (storeName X.env x u) Q E s := by
  obtain ⟨m, hn, hl⟩ := id I.loc
  have hcls : (X.env.scope.kind == .class || (X.env.scope.kind == .module && X.env.locals != X.env.globals)) = false := by rw [I.ok.kind]; rfl
  have hiσ : i < σ.length := by rw [I.len]; exact (List.getElem?_eq_some_iff.mp hi).1
  have cne := I.cne
  have tracked : ∀ {a : Addr} {h' : Heap}, (∃ o, s.heap.get? a = some o ∧ H a = none) → Heap.SameBut a s.heap h' → HOk X.prog X.w H h' := fun {a h'} ha hs b ob e => by
    obtain ⟨_, _, hfree⟩ := ha
    refine (I.hok b ob e).stay (fun c w' hc q => (hs.2 c ?_).trans q) (fun _ q => q) fun _ _ q => q
    rintro rfl
    rcases hc with rfl | hc
    · rw [hfree] at e; cases e
    · rw [hfree] at hc; cases hc
  rcases hx with hk | hk
  · refine wpAny_storeName_local hk hn (fun h' hn' hs => ?_) hcls
    obtain ⟨oL, _, _, hoL, _⟩ := id hn
    refine h _ ⟨I.ok, I.os, I.bare, ⟨fun b o e n hb hx => ?_, fun b o e n hb hx => ?_, I.base.free, fun b o e hx => ?_, I.base.tups, I.base.frzs, I.base.tbls⟩, ⟨_, hn', fun j y v' e1 e2 e3 => ?_⟩, fun y c e => ?_, I.free, I.freeC, fun p hp => ?_, tracked ⟨oL, hoL, I.free⟩ hs, by simpa using I.len⟩ ⟨_, hs, .inl rfl⟩
    · exact (hs.2 b (Nat.ne_of_lt (Nat.lt_of_lt_of_le (Heap.lt_size e) I.ok.above))).trans (I.base.keep b o e n hb hx)
    · obtain ⟨sl, e1⟩ := I.base.slot b o e n hb hx
      exact ⟨sl, (hs.2 b (Nat.ne_of_lt (Nat.lt_of_lt_of_le (Heap.lt_size e) I.ok.above))).trans e1⟩
    · obtain ⟨o', e1⟩ := I.base.there b o e hx
      exact ⟨o', (hs.2 b (Nat.ne_of_lt (Nat.lt_of_lt_of_le (Heap.lt_size e) I.ok.above))).trans e1⟩
    · by_cases hj : j = i
      · subst hj
        rw [hi] at e1; cases e1
        rw [List.getElem?_set_self hiσ] at e2
        cases e2
        exact ⟨u, r, .inl ⟨hk, by simp⟩⟩
      · rw [List.getElem?_set_ne (Ne.symm hj)] at e2
        obtain ⟨u', r', q⟩ := hl j y v' e1 e2 e3
        refine ⟨u', r', ?_⟩
        rcases q with ⟨k, e⟩ | ⟨k, c, e, z⟩
        · refine .inl ⟨k, ?_⟩
          have : y ≠ x := fun e => hj (nodup_ix hN e1 (e ▸ hi))
          simp [this, e]
        · exact .inr ⟨k, c, e, z.sameBut hs (cne y c e)⟩
    · obtain ⟨w', z⟩ := I.cell y c e
      exact ⟨w', z.sameBut hs (cne y c e)⟩
    · obtain ⟨e, n, ne, nf, d⟩ := I.pin p hp
      exact ⟨(hs.2 p.1 ne).trans e, n, ne, nf, d⟩
  · have hfn : X.fn x = true := by
      rcases hf with z | z
      · exact z
      · rw [z] at hk; cases hk
    obtain ⟨c, hc⟩ := I.ok.has x (.inl hk)
    obtain ⟨w', z⟩ := I.cell x c hc
    refine wpAny_storeName_cell I.ok.kind hk hc z (fun h' hc' hs => ?_)
    obtain ⟨oc, hoc, hocd⟩ := id z
    refine h { s with heap := h' } ⟨I.ok, I.os, I.bare, ⟨fun b o e n hb hx => ?_, fun b o e n hb hx => ?_, I.base.free, fun b o e hx => ?_, I.base.tups, I.base.frzs, I.base.tbls⟩, ⟨m, hn.sameBut hs (Ne.symm (cne x c hc)), fun j y v' e1 e2 e3 => ?_⟩, fun y c' e => ?_, I.free, I.freeC, fun p hp => ?_, tracked ⟨oc, hoc, I.freeC x c hc⟩ hs, by simpa using I.len⟩ ⟨c, hs, .inr hc⟩
    · exact (hs.2 b (Nat.ne_of_lt (Nat.lt_of_lt_of_le (Heap.lt_size e) (I.ok.cab x c hfn hc)))).trans (I.base.keep b o e n hb hx)
    · obtain ⟨sl, e1⟩ := I.base.slot b o e n hb hx
      exact ⟨sl, (hs.2 b (Nat.ne_of_lt (Nat.lt_of_lt_of_le (Heap.lt_size e) (I.ok.cab x c hfn hc)))).trans e1⟩
    · obtain ⟨o', e1⟩ := I.base.there b o e hx
      exact ⟨o', (hs.2 b (Nat.ne_of_lt (Nat.lt_of_lt_of_le (Heap.lt_size e) (I.ok.cab x c hfn hc)))).trans e1⟩
    · by_cases hj : j = i
      · subst hj
        rw [hi] at e1; cases e1
        rw [List.getElem?_set_self hiσ] at e2
        cases e2
        exact ⟨u, r, .inr ⟨.inl hk, c, hc, hc'⟩⟩
      · rw [List.getElem?_set_ne (Ne.symm hj)] at e2
        obtain ⟨u', r', q⟩ := hl j y v' e1 e2 e3
        refine ⟨u', r', ?_⟩
        rcases q with q | ⟨k, c', e, z'⟩
        · exact .inl q
        · refine .inr ⟨k, c', e, z'.sameBut hs ?_⟩
          rintro rfl
          exact hj (nodup_ix hN e1 (I.ok.inj _ _ _ e hc ▸ hi))
    · by_cases hcc : c' = c
      · subst hcc; exact ⟨_, hc'⟩
      · obtain ⟨w2, z2⟩ := I.cell y c' e
        exact ⟨w2, z2.sameBut hs hcc⟩
    · obtain ⟨e, n, ne, nf, d⟩ := I.pin p hp
      refine ⟨(hs.2 p.1 ?_).trans e, n, ne, nf, d⟩
      intro q
      rw [q, hoc] at e
      have q' : oc = p.2 := Option.some.inj e
      exact d w' (by rw [← q']; exact hocd)
theorem store_ok {M : Model} {A : Around} {E : Value → Shared → Prop} {i : Nat} {x : Str} {v : V} {u : Value} {Q : Unit → Shared → Prop} (I : Inv X pins σ H s) (hN : X.N.Nodup) (hi : X.N[i]? = some x) (hx : Loc X.env.scope x) (r : RelV v u)
    (h : ∀ s', Inv X pins (σ.set i (some v)) H s' → Q () s') (hf : X.fn x = true ∨ X.env.scope.names.lookup x = some .local := by first | exact .inl rfl | exact .inr rfl | assumption) : wpAny M A (storeName X.env x u) Q E s :=
  store_ok2 I hN hi hx r (fun s' I' _ => h s' I') hf
/-- behind a call or a block, the state as it is -/
theorem Inv.call' {s' : Shared} {ch : List Addr} (I : Inv X pins σ H s) (ho : s'.os = s.os) (u : Un (frs X.stack) ch H H' s.heap s'.heap) (hok : HOk X.prog X.w H' s'.heap) (hg : AllBare s'.gens)
    (hch : ∀ b ∈ ch, (b ∈ X.ex ∨ X.s₀.heap.objs.size ≤ b) ∧ b ≠ X.env.locals ∧ (∀ x c, X.env.cells.lookup x = some c → c ≠ b) ∧ ∀ p ∈ X.pn ++ pins, p.1 ≠ b) : Inv X pins σ H' s' := by
  obtain ⟨h', g', d', t', o'⟩ := s'
  have e : o' = s.os := ho
  subst e
  exact I.call (g' := g') (t' := t') (d' := d') u hok hg hch
end

/-! ### the judgements -/
/-- an exception: its class, its own dict's address (where it has one), the abstract heap behind it -/
abbrev XK := Value → Option Addr → Hp → Prop
abbrev St := List (Option V)
abbrev VK := V → Hp → Prop
/-- an expression's reading; a test's; an argument list's -/
abbrev TE := St → Hp → VK → Prop
abbrev TT := St → Hp → (Bool → Hp → Prop) → Prop
abbrev TA := St → Hp → (List V → Hp → Prop) → Prop
/-- what is wanted behind a statement -/
structure Ends where
  nx : St → Hp → Prop
  rt : VK
  bk : St → Hp → Prop := fun _ _ => False
  ct : St → Hp → Prop := fun _ _ => False
abbrev TS := Ends → St → Hp → Prop

def EP (X : Cx) (pins : List (Addr × Obj)) (σ : St) (Q : VK) (u : Value) (s' : Shared) : Prop := ∃ v H', Inv X pins σ H' s' ∧ RelV v u ∧ Q v H'
def TP (X : Cx) (pins : List (Addr × Obj)) (σ : St) (Q : Bool → Hp → Prop) (b : Bool) (s' : Shared) : Prop := ∃ H', Inv X pins σ H' s' ∧ Q b H'
def AP (X : Cx) (pins : List (Addr × Obj)) (σ : St) (Q : List V → Hp → Prop) (us : List Value) (s' : Shared) : Prop := ∃ vs H', Inv X pins σ H' s' ∧ Vals vs us ∧ Q vs H'
def SP (X : Cx) (pins : List (Addr × Obj)) (D : Ends) (f : Flow) (s' : Shared) : Prop :=
  match f with
  | .next => ∃ σ' H', Inv X pins σ' H' s' ∧ D.nx σ' H'
  | .brk => ∃ σ' H', Inv X pins σ' H' s' ∧ D.bk σ' H'
  | .cont => ∃ σ' H', Inv X pins σ' H' s' ∧ D.ct σ' H'
  | .ret u => ∃ v σ' H', Inv X pins σ' H' s' ∧ RelV v u ∧ D.rt v H'

def PE (X : Cx) (e : Expr) (t : TE) : Prop :=
  ∀ (pins : List (Addr × Obj)) (s : Shared) (σ : St) (H : Hp) (Q : VK), Inv X pins σ H s → t σ H Q → wpAny (model X.prog X.w) X.A (eval e X.env) (EP X pins σ Q) X.xe s
def PT (X : Cx) (e : Expr) (t : TT) : Prop :=
  ∀ (pins : List (Addr × Obj)) (s : Shared) (σ : St) (H : Hp) (Q : Bool → Hp → Prop), Inv X pins σ H s → t σ H Q → wpAny (model X.prog X.w) X.A (isTrue e X.env (eval e X.env)) (TP X pins σ Q) X.xe s
/-- a test whatever its 'whole' is (and, or) -/
def PW (X : Cx) (e : Expr) (t : TT) : Prop :=
  ∀ (whole : Sem Value) (pins : List (Addr × Obj)) (s : Shared) (σ : St) (H : Hp) (Q : Bool → Hp → Prop), Inv X pins σ H s → t σ H Q → wpAny (model X.prog X.w) X.A (isTrue e X.env whole) (TP X pins σ Q) X.xe s
theorem PW.pt {X : Cx} {e : Expr} {t : TT} (h : PW X e t) : PT X e t := h _
/-- an argument list (no star), from the left -/
def PA (X : Cx) (es : List Expr) (t : TA) : Prop :=
  ∀ (pos : Pos) (pins : List (Addr × Obj)) (s : Shared) (σ : St) (H : Hp) (Q : List V → Hp → Prop), Inv X pins σ H s → t σ H Q → wpAny (model X.prog X.w) X.A (spliced (backTo pos (starEach es X.env))) (AP X pins σ Q) X.xe s
def PS (X : Cx) (st : Stmt) (t : TS) : Prop :=
  ∀ (pins : List (Addr × Obj)) (s : Shared) (σ : St) (H : Hp) (D : Ends), Inv X pins σ H s → t D σ H → wpAny (model X.prog X.w) X.A (exec st X.env) (SP X pins D) X.xe s
def PSs (X : Cx) (st : List Stmt) (t : TS) : Prop :=
  ∀ (pins : List (Addr × Obj)) (s : Shared) (σ : St) (H : Hp) (D : Ends), Inv X pins σ H s → t D σ H → wpAny (model X.prog X.w) X.A (execs st X.env) (SP X pins D) X.xe s
/-- weaken the end -/
theorem thn {α : Type} {t : Sem α} {Q Q' : α → Shared → Prop} {M : Model} {A : Around} {E : Value → Shared → Prop} {s : Shared} (h : wpAny M A t Q E s) (hQ : ∀ a s, Q a s → Q' a s) : wpAny M A t Q' E s := wpAny_mono h hQ fun _ _ x => x
end L2

namespace L2
open PySem PySem.Spec PyProof.Rows
section
variable {X : Cx}

/-- two expressions in a row -/
theorem bin {a b : Expr} {ta tb : TE} (ha : PE X a ta) (hb : PE X b tb) {pins : List (Addr × Obj)} {s : Shared} {σ : St} {H : Hp} {R : V → V → Hp → Prop} (I : Inv X pins σ H s) (h : ta σ H fun x H1 => tb σ H1 fun y H2 => R x y H2)
    {α : Type} {Q : α → Shared → Prop} {f : Value → Value → Sem α}
    (hf : ∀ v u s2 x y H2, Inv X pins σ H2 s2 → RelV x v → RelV y u → R x y H2 → wpAny (model X.prog X.w) X.A (f v u) Q X.xe s2) :
    wpAny (model X.prog X.w) X.A (eval a X.env) (fun v s₁ => wpAny (model X.prog X.w) X.A (eval b X.env) (fun u s₂ => wpAny (model X.prog X.w) X.A (f v u) Q X.xe s₂) X.xe s₁) X.xe s := by
  refine thn (ha pins s σ H _ I h) fun v s1 ⟨x, H1, I1, r1, q1⟩ => ?_
  refine thn (hb pins s1 σ H1 _ I1 q1) fun u s2 ⟨y, H2, I2, r2, q2⟩ => ?_
  exact hf v u s2 x y H2 I2 r1 r2 q2

/-! ### names and constants -/
def tVar (i : Nat) : TE := fun σ H Q => ∃ v, σ[i]? = some (some v) ∧ Q v H
def tC (v : V) : TE := fun _ H Q => Q v H
theorem pe_var {i : Nat} {x : Str} {pos : Pos} (hN : X.N[i]? = some x) (hv : Vis X.env.scope x) (hd : (x == ("__debug__" : Str)) = false := by decide) (hcd : (x == ("__classdict__" : Str)) = false := by decide) : PE X (.Name x pos) (tVar i) := by
  intro pins s σ H Q I h
  obtain ⟨v, e, h⟩ := h
  obtain ⟨m, hn, hl⟩ := I.loc
  obtain ⟨u, r, l⟩ := hl i x v hN e hv
  have fin : EP X pins σ Q u s := ⟨v, H, I, r, h⟩
  rcases l with ⟨hk, hm⟩ | ⟨hk, c, hc, hcell⟩
  · exact wpAny_Name (wpAny_loadName_local I.ok.kind hk hn hm fin) hd
  · rcases hk with hk | hk
    · exact wpAny_Name (wpAny_loadName_cell I.ok.kind hk hc hcell fin) hd
    · exact wpAny_Name (wpAny_loadName_free I.ok.kind hk hc hcell fin hcd) hd
theorem pe_int {i j pos} : PE X (.Constant (.int i) j pos) (tC (.int i)) := fun _ _ _ H _ I h => wpAny_Constant_int ⟨.int i, H, I.tok _, ⟨_, rfl⟩, h⟩
theorem pe_bl {b j pos} : PE X (.Constant (.bool b) j pos) (tC (.bl b)) := fun _ _ _ H _ I h => Constant_bool ⟨.bl b, H, I, rfl, h⟩
theorem pe_non {j pos} : PE X (.Constant .none j pos) (tC .non) := fun _ _ _ H _ I h => Constant_none ⟨.non, H, I, rfl, h⟩
theorem pe_str {x j pos} : PE X (.Constant (.str x) j pos) (tC (.str x)) := fun _ _ _ H _ I h => Calls.Constant_str ⟨.str x, H, I.tok _, ⟨_, rfl⟩, h⟩

/-- a global name of the def -/
def Gl (X : Cx) (x : Str) : Prop := X.env.kindOf x = some .globalImplicit
theorem ld_glob {E : Value → Shared → Prop} {pins : List (Addr × Obj)} {s : Shared} {σ : St} {H : Hp} {x : Str} {u : Value} {pos : Pos} {Q : Value → Shared → Prop} (I : Inv X pins σ H s) (hg : Gl X x) (hm : X.mg x = some u) (h : Q u s)
    (hd : (x == ("__debug__" : Str)) = false := by decide) : wpAny (model X.prog X.w) X.A (eval (.Name x pos) X.env) Q E s :=
  Calls.Name_function_global I.ok.kind hg (Calls.loadGlobal_global (by rw [I.ok.glob]; exact I.mod.glob.keeps I.bk) hm h) hd
theorem ld_blt {E : Value → Shared → Prop} {pins : List (Addr × Obj)} {s : Shared} {σ : St} {H : Hp} {x : Str} {u : Value} {pos : Pos} {Q : Value → Shared → Prop} (I : Inv X pins σ H s) (hg : Gl X x) (hm : X.mg x = none) (hv : bootBuiltins x = some u) (h : Q u s)
    (hn : x ≠ "__name__" := by decide) (hd : (x == ("__debug__" : Str)) = false := by decide) : wpAny (model X.prog X.w) X.A (eval (.Name x pos) X.env) Q E s := by
  obtain ⟨mb, h1, h2⟩ := I.mod.blt
  exact Calls.Name_function_global I.ok.kind hg (Calls.loadGlobal_builtin (by rw [I.ok.glob]; exact I.mod.glob.keeps I.bk) hm (by rw [I.ok.blt]; exact h1.keeps I.bk) ((h2 x hn).trans hv) h) hd
/-- a module's constant, a class, a function, as a value -/
theorem pe_glob {x : Str} {v : V} {u : Value} {pos : Pos} (hg : Gl X x) (hm : X.mg x = some u) (r : RelV v u) (hd : (x == ("__debug__" : Str)) = false := by decide) : PE X (.Name x pos) (tC v) :=
  fun _ _ _ H _ I h => ld_glob I hg hm ⟨v, H, I, r, h⟩ hd
theorem pe_bltn {x : Str} {v : V} {u : Value} {pos : Pos} (hg : Gl X x) (hm : X.mg x = none) (hv : bootBuiltins x = some u) (r : RelV v u) (hn : x ≠ "__name__" := by decide) (hd : (x == ("__debug__" : Str)) = false := by decide) : PE X (.Name x pos) (tC v) :=
  fun _ _ _ H _ I h => ld_blt I hg hm hv ⟨v, H, I, r, h⟩ hn hd

/-! ### arithmetic -/
/-- two ints -/
def t2I (ta tb : TE) (k : Int → Int → Hp → Prop) : St → Hp → Prop := fun σ H => ta σ H fun x H1 => tb σ H1 fun y H2 => ∃ i j, x = .int i ∧ y = .int j ∧ k i j H2
def tAdd (ta tb : TE) : TE := fun σ H Q => t2I ta tb (fun i j H2 => Q (.int (i + j)) H2) σ H
def tSub (ta tb : TE) : TE := fun σ H Q => t2I ta tb (fun i j H2 => Q (.int (i - j)) H2) σ H
/-- the left factor below 2^64 -/
def tMul (ta tb : TE) : TE := fun σ H Q => t2I ta tb (fun i j H2 => (-(2 ^ 64) < i ∧ i < 2 ^ 64) ∧ Q (.int (i * j)) H2) σ H
variable {a b : Expr} {ta tb : TE} {pos : Pos}
theorem pe_add (ha : PE X a ta) (hb : PE X b tb) : PE X (.BinOp a .Add b pos) (tAdd ta tb) := by
  intro pins s σ H Q I h
  refine wpAny_BinOp (bin ha hb I h fun v u s2 x y H2 I2 rx ry q => ?_)
  obtain ⟨i, j, rfl, rfl, q⟩ := q
  obtain ⟨t, rfl⟩ := rx
  obtain ⟨t', rfl⟩ := ry
  exact add_int ⟨.int _, H2, I2.tok _, ⟨_, rfl⟩, q⟩
theorem pe_sub (ha : PE X a ta) (hb : PE X b tb) : PE X (.BinOp a .Sub b pos) (tSub ta tb) := by
  intro pins s σ H Q I h
  refine wpAny_BinOp (bin ha hb I h fun v u s2 x y H2 I2 rx ry q => ?_)
  obtain ⟨i, j, rfl, rfl, q⟩ := q
  obtain ⟨t, rfl⟩ := rx
  obtain ⟨t', rfl⟩ := ry
  exact sub_int ⟨.int _, H2, I2.tok _, ⟨_, rfl⟩, q⟩
theorem pe_mul (ha : PE X a ta) (hb : PE X b tb) : PE X (.BinOp a .Mult b pos) (tMul ta tb) := by
  intro pins s σ H Q I h
  refine wpAny_BinOp (bin ha hb I h fun v u s2 x y H2 I2 rx ry q => ?_)
  obtain ⟨i, j, rfl, rfl, ⟨q1, q2⟩, q⟩ := q
  obtain ⟨t, rfl⟩ := rx
  obtain ⟨t', rfl⟩ := ry
  exact mul_int ⟨.int _, H2, I2.tok _, ⟨_, rfl⟩, q⟩ (.of_left (intBits_le_64 q1 q2))

/-! ### comparisons -/
def PC (X : Cx) (op : CmpOp) (a b : Expr) (t : TE) : Prop :=
  ∀ (pins : List (Addr × Obj)) (s : Shared) (σ : St) (H : Hp) (Q : VK), Inv X pins σ H s → t σ H Q →
    wpAny (model X.prog X.w) X.A (eval a X.env) (fun v s₁ => wpAny (model X.prog X.w) X.A (eval b X.env) (fun u s₂ => wpAny (model X.prog X.w) X.A (compareOp op v u) (EP X pins σ Q) X.xe s₂) X.xe s₁) X.xe s
theorem nobehind (b : Expr) {op : CmpOp} (h : op ≠ .In) (h2 : op ≠ .NotIn) : behindInMarks op b = false := by
  have e1 : (op == CmpOp.In) = false := by cases op <;> first | rfl | exact absurd rfl h
  have e2 : (op == CmpOp.NotIn) = false := by cases op <;> first | rfl | exact absurd rfl h2
  cases b <;> simp [behindInMarks, e1, e2]
def tCmp (p : Int → Int → Bool) (ta tb : TE) : TE := fun σ H Q => t2I ta tb (fun i j H2 => Q (.bl (p i j)) H2) σ H
abbrev tLt : TE → TE → TE := tCmp fun i j => decide (i < j)
abbrev tLe : TE → TE → TE := tCmp fun i j => decide (i ≤ j)
abbrev tGt : TE → TE → TE := tCmp fun i j => decide (j < i)
abbrev tGe : TE → TE → TE := tCmp fun i j => decide (j ≤ i)
abbrev tEqI : TE → TE → TE := tCmp fun i j => decide (i = j)
abbrev tNeI : TE → TE → TE := tCmp fun i j => !decide (i = j)
/-- a comparison of two ints, by its rule -/
theorem pc_int {op : CmpOp} {p : Int → Int → Bool} (ha : PE X a ta) (hb : PE X b tb)
    (rule : ∀ (i j : Int) (t u : Tok) (Q : Value → Shared → Prop) (s : Shared), Q (.bool (p i j)) s → wpAny (model X.prog X.w) X.A (compareOp op (.int i t) (.int j u)) Q X.xe s) : PC X op a b (tCmp p ta tb) := by
  intro pins s σ H Q I h
  refine bin ha hb I h fun v u s2 x y H2 I2 rx ry q => ?_
  obtain ⟨i, j, rfl, rfl, q⟩ := q
  obtain ⟨t, rfl⟩ := rx
  obtain ⟨t', rfl⟩ := ry
  exact rule i j t t' _ s2 ⟨.bl _, H2, I2, rfl, q⟩
theorem pc_lt (ha : PE X a ta) (hb : PE X b tb) : PC X .Lt a b (tLt ta tb) := pc_int ha hb fun _ _ _ _ _ _ h => lt_int h
theorem pc_le (ha : PE X a ta) (hb : PE X b tb) : PC X .LtE a b (tLe ta tb) := pc_int ha hb fun _ _ _ _ _ _ h => le_int h
theorem pc_gt (ha : PE X a ta) (hb : PE X b tb) : PC X .Gt a b (tGt ta tb) := pc_int ha hb fun _ _ _ _ _ _ h => gt_int h
theorem pc_ge (ha : PE X a ta) (hb : PE X b tb) : PC X .GtE a b (tGe ta tb) := pc_int ha hb fun _ _ _ _ _ _ h => ge_int h
theorem pc_eqI (ha : PE X a ta) (hb : PE X b tb) : PC X .Eq a b (tEqI ta tb) := pc_int ha hb fun _ _ _ _ _ _ h => eq_int (by rw [Bool.beq_eq_decide_eq]; exact h)
theorem pc_neI (ha : PE X a ta) (hb : PE X b tb) : PC X .NotEq a b (tNeI ta tb) := pc_int ha hb fun _ _ _ _ _ _ h => ne_int (by rw [bne, Bool.beq_eq_decide_eq]; exact h)
/-- is None -/
def tIsN (ta : TE) : TE := fun σ H Q => ta σ H fun x H1 => Q (.bl (decide (x = .non))) H1
def tNotN (ta : TE) : TE := fun σ H Q => ta σ H fun x H1 => Q (.bl (!decide (x = .non))) H1
theorem RelV.none_iff {x : V} {v : Value} (r : RelV x v) : (v == Value.none) = decide (x = .non) := by
  cases x with
  | non => cases r; rfl
  | bl _ => cases r; rfl
  | int _ => obtain ⟨t, rfl⟩ := r; rfl
  | str _ => obtain ⟨t, rfl⟩ := r; rfl
  | byt _ => obtain ⟨t, rfl⟩ := r; rfl
  | flt _ => obtain ⟨t, rfl⟩ := r; rfl
  | ref _ => cases r; rfl
  | ty _ => cases r; rfl
theorem pc_isN {j pos'} (ha : PE X a ta) : PC X .Is a (.Constant .none j pos') (tIsN ta) := by
  intro pins s σ H Q I h
  refine thn (ha pins s σ H _ I h) fun v s1 ⟨x, H1, I1, r1, q1⟩ => ?_
  exact Constant_none (is_none_gen ⟨.bl _, H1, I1, by rw [r1.none_iff]; rfl, q1⟩)
theorem pc_notN {j pos'} (ha : PE X a ta) : PC X .IsNot a (.Constant .none j pos') (tNotN ta) := by
  intro pins s σ H Q I h
  refine thn (ha pins s σ H _ I h) fun v s1 ⟨x, H1, I1, r1, q1⟩ => ?_
  exact Constant_none (isnot_none_gen ⟨.bl _, H1, I1, by rw [r1.none_iff]; rfl, q1⟩)
/-- a comparison as a value, as a test -/
def tB (t : TE) : TT := fun σ H Q => t σ H fun x H1 => ∃ c, x = .bl c ∧ Q c H1
theorem pe_cmp {op : CmpOp} {t : TE} (h : PC X op a b t) (h1 : behindInMarks op b = false := by first | exact nobehind _ (by decide) (by decide) | rfl) : PE X (.Compare a [op] [b] pos) t := fun pins s σ H Q I hw => wpAny_Compare1 (h pins s σ H Q I hw) h1
theorem pt_cmp {op : CmpOp} {t : TE} (h : PC X op a b t) (h1 : behindInMarks op b = false := by first | exact nobehind _ (by decide) (by decide) | rfl) : PT X (.Compare a [op] [b] pos) (tB t) := by
  intro pins s σ H Q I hw
  refine wpAny_isTrue_Compare1 (thn (h pins s σ H _ I hw) fun v s1 h1 => thn h1 fun u s2 h2 => thn h2 fun c s3 ⟨x, H1, I1, r1, q1⟩ => ?_) h1
  obtain ⟨d, rfl, q⟩ := q1
  cases r1
  exact wpAny_truthy_bool ⟨H1, I1, q⟩
/-- an expression whose value is a bool, as a test -/
theorem pt_val {e : Expr} {t : TE} (h : PE X e t) (he : ∀ whole, isTrue e X.env whole = (do let v ← whole; standAt e.pos; holding [v] (truthy v)) := by intro _; rfl) : PT X e (tB t) := by
  intro pins s σ H Q I hw
  refine isTrue_plain (thn (h pins s σ H _ I hw) fun v s1 ⟨x, H1, I1, r1, q1⟩ => ?_) (he _)
  obtain ⟨d, rfl, q⟩ := q1
  cases r1
  exact wpAny_truthy_bool ⟨H1, I1, q⟩

/-! ### and, or, not -/
variable {tA tB' : TT} {rest : List Expr}
def tAnd (t u : TT) : TT := fun σ H Q => t σ H fun c H1 => if c = true then u σ H1 Q else Q false H1
def tOr (t u : TT) : TT := fun σ H Q => t σ H fun c H1 => if c = true then Q true H1 else u σ H1 Q
def tNot (t : TT) : TT := fun σ H Q => t σ H fun c H1 => Q (!c) H1
theorem pw_and1 (ha : PT X a tA) : PW X (.BoolOp .And [a] pos) tA := by
  intro wh pins s σ H Q I h
  refine isTrue_and (thn (ha pins s σ H Q I h) fun c s1 e => ?_)
  cases c with
  | true => exact isTrue_and_nil e
  | false => exact e
theorem pw_or1 (ha : PT X a tA) : PW X (.BoolOp .Or [a] pos) tA := by
  intro wh pins s σ H Q I h
  refine isTrue_or (thn (ha pins s σ H Q I h) fun c s1 e => ?_)
  cases c with
  | false => exact isTrue_or_nil e
  | true => exact e
theorem pw_and (ha : PT X a tA) (hb : PW X (.BoolOp .And (b :: rest) pos) tB') : PW X (.BoolOp .And (a :: b :: rest) pos) (tAnd tA tB') := by
  intro wh pins s σ H Q I h
  refine isTrue_and (thn (ha pins s σ H _ I h) fun c s1 ⟨H1, I1, q1⟩ => ?_)
  cases c with
  | true => exact hb wh pins s1 σ H1 Q I1 q1
  | false => exact ⟨H1, I1, q1⟩
theorem pw_or (ha : PT X a tA) (hb : PW X (.BoolOp .Or (b :: rest) pos) tB') : PW X (.BoolOp .Or (a :: b :: rest) pos) (tOr tA tB') := by
  intro wh pins s σ H Q I h
  refine isTrue_or (thn (ha pins s σ H _ I h) fun c s1 ⟨H1, I1, q1⟩ => ?_)
  cases c with
  | true => exact ⟨H1, I1, q1⟩
  | false => exact hb wh pins s1 σ H1 Q I1 q1
theorem pt_not (ha : PT X a tA) : PT X (.UnaryOp .Not a pos) (tNot tA) := by
  intro pins s σ H Q I h
  exact isTrue_not (ha pins s σ H (fun c H1 => Q (!c) H1) I h)
/-- .. as values (bools) -/
def tAndV (ta tb : TE) : TE := fun σ H Q => ta σ H fun x H1 => ∃ c, x = .bl c ∧ if c = true then tb σ H1 Q else Q (.bl false) H1
def tOrV (ta tb : TE) : TE := fun σ H Q => ta σ H fun x H1 => ∃ c, x = .bl c ∧ if c = true then Q (.bl true) H1 else tb σ H1 Q
def tNotV (ta : TE) : TE := fun σ H Q => ta σ H fun x H1 => ∃ c, x = .bl c ∧ Q (.bl (!c)) H1
theorem pe_one {op} {t : TE} (h : PE X a t) : PE X (.BoolOp op [a] pos) t := fun pins s σ H Q I hw => BoolOp_one (h pins s σ H Q I hw)
theorem pe_and (ha : PE X a ta) (hb : PE X (.BoolOp .And (b :: rest) pos) tb) : PE X (.BoolOp .And (a :: b :: rest) pos) (tAndV ta tb) := by
  intro pins s σ H Q I h
  refine BoolOp_and (thn (ha pins s σ H _ I h) fun v s1 ⟨x, H1, I1, r1, q1⟩ => ?_)
  obtain ⟨c, rfl, q1⟩ := q1
  cases r1
  refine wpAny_truthy_bool ?_
  cases c with
  | true => exact hb pins s1 σ H1 Q I1 q1
  | false => exact ⟨.bl false, H1, I1, rfl, q1⟩
theorem pe_or (ha : PE X a ta) (hb : PE X (.BoolOp .Or (b :: rest) pos) tb) : PE X (.BoolOp .Or (a :: b :: rest) pos) (tOrV ta tb) := by
  intro pins s σ H Q I h
  refine BoolOp_or (thn (ha pins s σ H _ I h) fun v s1 ⟨x, H1, I1, r1, q1⟩ => ?_)
  obtain ⟨c, rfl, q1⟩ := q1
  cases r1
  refine wpAny_truthy_bool ?_
  cases c with
  | false => exact hb pins s1 σ H1 Q I1 q1
  | true => exact ⟨.bl true, H1, I1, rfl, q1⟩
theorem pe_not (ha : PE X a ta) : PE X (.UnaryOp .Not a pos) (tNotV ta) := by
  intro pins s σ H Q I h
  refine UnaryOp_ (thn (ha pins s σ H _ I h) fun v s1 ⟨x, H1, I1, r1, q1⟩ => ?_)
  obtain ⟨c, rfl, q1⟩ := q1
  cases r1
  exact not_of (wpAny_truthy_bool ⟨.bl (!c), H1, I1, rfl, q1⟩)
/-- a if t else b -/
def tIf (t : TT) (ta tb : TE) : TE := fun σ H Q => t σ H fun c H1 => if c = true then ta σ H1 Q else tb σ H1 Q
theorem pe_ifExp {c : Expr} (hc : PT X c tA) (ha : PE X a ta) (hb : PE X b tb) : PE X (.IfExp c a b pos) (tIf tA ta tb) := by
  intro pins s σ H Q I h
  refine wpAny_IfExp (thn (hc pins s σ H _ I h) fun d s1 ⟨H1, I1, q1⟩ => ?_)
  cases d with
  | true => exact ha pins s1 σ H1 Q I1 q1
  | false => exact hb pins s1 σ H1 Q I1 q1
end
end L2

namespace L2
open PySem PySem.Spec PyProof.Rows

/-! ### a list, a tuple that is read: tracked, frozen, or an object of the module -/
def SqL (K : PySem.W.Frag) (H : Hp) (a : Addr) (xs : List V) : Prop :=
  Rd H a (.lst xs) ∨
    ∃ (o : Obj) (its : Array Value) (n : Nat), K.lookup a = some o ∧ o.cls = .type "list" ∧ o.dict = none ∧ o.data = .seq its n ∧ its.size ≤ sizeLine ∧ Vals xs its.toList
def SqT (K : PySem.W.Frag) (H : Hp) (a : Addr) (xs : List V) : Prop :=
  Rd H a (.tup xs) ∨
    ∃ (o : Obj) (its : Array Value) (n : Nat), K.lookup a = some o ∧ o.cls = .type "tuple" ∧ o.data = .seq its n ∧ its.size ≤ sizeLine ∧ Vals xs its.toList
def absV : Value → Option V
  | .none => some .non
  | .bool b => some (.bl b)
  | .int i _ => some (.int i)
  | .str x _ => some (.str x)
  | .bytes b _ => some (.byt b)
  | .float b _ => some (.flt b)
  | .ref a => some (.ref a)
  | .type n => some (.ty n)
  | _ => none
theorem RelV.abs {x : V} {u : Value} (r : RelV x u) : absV u = some x := by
  cases x with
  | non => cases r; rfl
  | bl _ => cases r; rfl
  | int _ => obtain ⟨t, rfl⟩ := r; rfl
  | str _ => obtain ⟨t, rfl⟩ := r; rfl
  | byt _ => obtain ⟨t, rfl⟩ := r; rfl
  | flt _ => obtain ⟨t, rfl⟩ := r; rfl
  | ref _ => cases r; rfl
  | ty _ => cases r; rfl
theorem RelV.inj {x y : V} {u : Value} (r : RelV x u) (q : RelV y u) : x = y := Option.some.inj (r.abs.symm.trans q.abs)
theorem Vals.inj : ∀ {xs ys : List V} {us : List Value}, Vals xs us → Vals ys us → xs = ys
  | _, _, _, .nil, .nil => rfl
  | _, _, _, .cons r t, .cons r' t' => by rw [r.inj r', Vals.inj t t']
section
variable {X : Cx} {pins : List (Addr × Obj)} {σ : St} {H : Hp} {s : Shared} {a : Addr} {xs ys : List V}
theorem SqL.of {K : PySem.W.Frag} (h : H a = some (.lst xs)) : SqL K H a xs := .inl (.inl h)
theorem SqT.of {K : PySem.W.Frag} (h : H a = some (.tup xs)) : SqT K H a xs := .inl (.inl h)
theorem Inv.list (I : Inv X pins σ H s) (h : SqL X.K H a xs) : ∃ its : List Value, Vals xs its ∧ PlainL s.heap a its.toArray ∧ xs.length ≤ sizeLine := by
  rcases h with h | ⟨o, its, n, hk, hc, hd, hs, hz, r⟩
  · obtain ⟨z, its, n, r, e⟩ := h.ok I.hok
    exact ⟨its, r, ⟨_, n, e, rfl, rfl, rfl⟩, z⟩
  · refine ⟨its.toList, r, ⟨o, n, I.kIn a o hk, hc, hd, by simpa using hs⟩, ?_⟩
    have e := r.length
    simp only [Array.length_toList] at e
    omega
theorem Inv.tuple (I : Inv X pins σ H s) (h : SqT X.K H a xs) : ∃ its : List Value, Vals xs its ∧ IsTup s.heap a its.toArray ∧ xs.length ≤ sizeLine := by
  rcases h with h | ⟨o, its, n, hk, hc, hs, hz, r⟩
  · obtain ⟨z, its, r, p⟩ := h.ok I.hok
    exact ⟨its, r, p, z⟩
  · refine ⟨its.toList, r, ⟨o, I.kIn a o hk, hc, n, by simpa using hs⟩, ?_⟩
    have e := r.length
    simp only [Array.length_toList] at e
    omega
theorem Inv.list_inj (I : Inv X pins σ H s) (h : SqL X.K H a xs) (h' : SqL X.K H a ys) : xs = ys := by
  obtain ⟨its, r, ⟨o, n, e, _, _, d⟩, _⟩ := I.list h
  obtain ⟨its', r', ⟨o', n', e', _, _, d'⟩, _⟩ := I.list h'
  rw [e] at e'; cases e'
  rw [d] at d'
  injection d' with d1 _
  have : its = its' := by simpa using congrArg Array.toList d1
  subst this
  exact r.inj r'
theorem Inv.tuple_inj (I : Inv X pins σ H s) (h : SqT X.K H a xs) (h' : SqT X.K H a ys) : xs = ys := by
  obtain ⟨its, r, ⟨o, e, _, n, d⟩, _⟩ := I.tuple h
  obtain ⟨its', r', ⟨o', e', _, n', d'⟩, _⟩ := I.tuple h'
  rw [e] at e'; cases e'
  rw [d] at d'
  injection d' with d1 _
  have : its = its' := by simpa using congrArg Array.toList d1
  subst this
  exact r.inj r'
end

/-! ### another wish about exceptions -/
abbrev Cx.wish (X : Cx) (E : Value → Shared → Prop) : Cx := { X with xe := E }
/-- no exception leaves -/
abbrev Cx.nox (X : Cx) : Cx := X.wish fun _ _ => False
theorem Cx.Ok.wish {X : Cx} (ok : X.Ok) (E : Value → Shared → Prop) : (X.wish E).Ok :=
  ⟨ok.mod, ok.kind, ok.glob, ok.blt, ok.above, ok.inj, ok.has, ok.cab, ok.hd, ok.frames, ok.stk, ok.exf, ok.bs, ok.bsz, ok.noex, ok.exfs, ok.funs, ok.frf⟩
theorem Cx.Ok.unwish {X : Cx} {E : Value → Shared → Prop} (ok : (X.wish E).Ok) : X.Ok :=
  ⟨ok.mod, ok.kind, ok.glob, ok.blt, ok.above, ok.inj, ok.has, ok.cab, ok.hd, ok.frames, ok.stk, ok.exf, ok.bs, ok.bsz, ok.noex, ok.exfs, ok.funs, ok.frf⟩
section
variable {X : Cx} {pins : List (Addr × Obj)} {σ : St} {H : Hp} {s : Shared} {E : Value → Shared → Prop}
theorem Inv.wish (I : Inv X pins σ H s) (E : Value → Shared → Prop) : Inv (X.wish E) pins σ H s := ⟨I.ok.wish E, I.os, I.bare, I.base, I.loc, I.cell, I.free, I.freeC, I.pin, I.hok, I.len⟩
theorem Inv.unwish (I : Inv (X.wish E) pins σ H s) : Inv X pins σ H s := ⟨I.ok.unwish, I.os, I.bare, I.base, I.loc, I.cell, I.free, I.freeC, I.pin, I.hok, I.len⟩
theorem SP.unwish {D : Ends} {f : Flow} {s' : Shared} (h : SP (X.wish E) pins D f s') : SP X pins D f s' := by
  cases f with
  | next => obtain ⟨σ', H', I, q⟩ := h; exact ⟨σ', H', I.unwish, q⟩
  | brk => obtain ⟨σ', H', I, q⟩ := h; exact ⟨σ', H', I.unwish, q⟩
  | cont => obtain ⟨σ', H', I, q⟩ := h; exact ⟨σ', H', I.unwish, q⟩
  | ret u => obtain ⟨v, σ', H', I, r, q⟩ := h; exact ⟨v, σ', H', I.unwish, r, q⟩
theorem PE.nox {e : Expr} {t : TE} (h : PE X.nox e t) : PE X e t := fun pins s σ H Q I hw =>
  wpAny_mono (h pins s σ H Q (I.wish _) hw) (fun _ _ ⟨v, H', I', r, q⟩ => ⟨v, H', I'.unwish, r, q⟩) fun _ _ z => False.elim z
theorem PT.nox {e : Expr} {t : TT} (h : PT X.nox e t) : PT X e t := fun pins s σ H Q I hw =>
  wpAny_mono (h pins s σ H Q (I.wish _) hw) (fun _ _ ⟨H', I', q⟩ => ⟨H', I'.unwish, q⟩) fun _ _ z => False.elim z
theorem PSs.nox {st : List Stmt} {t : TS} (h : PSs X.nox st t) : PSs X st t := fun pins s σ H D I hw =>
  wpAny_mono (h pins s σ H D (I.wish _) hw) (fun _ _ q => q.unwish) fun _ _ z => False.elim z
end

/-! ### blocks and small statements -/
section
variable {X : Cx} {st : Stmt} {rest : List Stmt} {t u : TS} {e : Expr} {te : TE} {pos : Pos}
def tNext : TS := fun D σ H => D.nx σ H
def tSeq (t u : TS) : TS := fun D σ H => t { D with nx := u D } σ H
theorem pss_nil : PSs X [] tNext := fun _ _ σ H _ I h => wpAny_execs_nil ⟨σ, H, I, h⟩
theorem pss_cons (h1 : PS X st t) (h2 : PSs X rest u) : PSs X (st :: rest) (tSeq t u) := by
  intro pins s σ H D I h
  refine wpAny_execs_cons (thn (h1 pins s σ H { D with nx := u D } I h) fun f s1 q => ?_)
  cases f with
  | next =>
    obtain ⟨σ', H', I', q⟩ := q
    exact h2 pins s1 σ' H' D I' q
  | ret v => exact q
  | brk => exact q
  | cont => exact q
theorem pss_one (h1 : PS X st t) : PSs X [st] t := by
  intro pins s σ H D I h
  refine wpAny_execs_cons (thn (h1 pins s σ H D I h) fun f s1 q => ?_)
  cases f with
  | next => exact wpAny_execs_nil q
  | ret v => exact q
  | brk => exact q
  | cont => exact q
def tBreak : TS := fun D σ H => D.bk σ H
def tCont : TS := fun D σ H => D.ct σ H
theorem ps_pass : PS X (.Pass pos) tNext := fun _ _ σ H _ I h => wpAny_Pass ⟨σ, H, I, h⟩
theorem ps_break : PS X (.Break pos) tBreak := fun _ _ σ H _ I h => wpAny_Break ⟨σ, H, I, h⟩
theorem ps_continue : PS X (.Continue pos) tCont := fun _ _ σ H _ I h => wpAny_Continue ⟨σ, H, I, h⟩
/-- in a def's body nothing is shown -/
theorem Inv.quiet {pins : List (Addr × Obj)} {σ : St} {H : Hp} {s : Shared} (I : Inv X pins σ H s) : interactive X.env = false := by simp [interactive, I.ok.kind]
/-- a docstring -/
theorem ps_doc {x j pos pos'} : PS X (.Expr (.Constant (.str x) j pos) pos') tNext := fun _ s σ H _ I h => wpAny_Expr (Calls.Constant_str (show SP X _ _ .next { s with toks := s.toks + 1 } from ⟨σ, H, I.tok _, h⟩)) I.quiet
/-- an expression whose value is dropped -/
def tDrop (te : TE) : TS := fun D σ H => te σ H fun _ H1 => D.nx σ H1
theorem ps_expr (he : PE X e te) (hs : swapsWith e none pos.line X.env = pure false := by rfl) : PS X (.Expr e pos) (tDrop te) := by
  intro pins s σ H D I h
  exact wpAny_Expr_any (thn (he pins s σ H _ I h) fun v s1 ⟨x, H1, I1, r1, q1⟩ => ⟨σ, H1, I1, q1⟩) I.quiet hs
def tRet (te : TE) : TS := fun D σ H => te σ H D.rt
theorem ps_ret (he : PE X e te) : PS X (.Return (some e) pos) (tRet te) := by
  intro pins s σ H D I h
  exact wpAny_Return_some (thn (he pins s σ H _ I h) fun v s1 ⟨x, H1, I1, r1, q1⟩ => ⟨x, σ, H1, I1, r1, q1⟩)
def tRetN : TS := fun D _ H => D.rt .non H
theorem ps_retN : PS X (.Return none pos) tRetN := fun _ _ σ H _ I h => wpAny_Return_none ⟨.non, σ, H, I, rfl, h⟩
def tIfS (c : TT) (t u : TS) : TS := fun D σ H => c σ H fun b H1 => if b = true then t D σ H1 else u D σ H1
theorem ps_if {c : Expr} {a b : List Stmt} {tc : TT} (hc : PT X c tc) (ha : PSs X a t) (hb : PSs X b u) : PS X (.If c a b pos) (tIfS tc t u) := by
  intro pins s σ H D I h
  refine wpAny_If (thn (hc pins s σ H _ I h) fun d s1 ⟨H1, I1, q1⟩ => ?_)
  cases d with
  | true => exact ha pins s1 σ H1 D I1 q1
  | false => exact hb pins s1 σ H1 D I1 q1
/-- code that the proof never comes to -/
def tNever : TS := fun _ _ _ => False
theorem ps_never : PS X st tNever := fun _ _ _ _ _ _ h => h.elim
theorem pss_never {sts : List Stmt} : PSs X sts tNever := fun _ _ _ _ _ _ h => h.elim
end

/-! ### targets -/
abbrev TG := V → St → Hp → (St → Hp → Prop) → Prop
abbrev TGs := List V → St → Hp → (St → Hp → Prop) → Prop
def PG (X : Cx) (target : Expr) (t : TG) : Prop :=
  ∀ (pins : List (Addr × Obj)) (s : Shared) (σ : St) (H : Hp) (v : V) (u : Value) (Q : St → Hp → Prop), Inv X pins σ H s → RelV v u → t v σ H Q →
    wpAny (model X.prog X.w) X.A (assign target X.env u) (fun _ s' => ∃ σ' H', Inv X pins σ' H' s' ∧ Q σ' H') X.xe s
/-- several targets, one after another -/
def PGs (X : Cx) (ts : List Expr) (t : TGs) : Prop :=
  ∀ (pins : List (Addr × Obj)) (s : Shared) (σ : St) (H : Hp) (vs : List V) (us : List Value) (Q : St → Hp → Prop), Inv X pins σ H s → Vals vs us → t vs σ H Q →
    wpAny (model X.prog X.w) X.A (assignInOrder ((assignEach ts X.env).map (·.2)) us) (fun _ s' => ∃ σ' H', Inv X pins σ' H' s' ∧ Q σ' H') X.xe s
/-- o[i] = v, by values -/
abbrev TSet := V → V → V → Hp → (Hp → Prop) → Prop
def PSet (X : Cx) (t : TSet) : Prop :=
  ∀ (pins : List (Addr × Obj)) (s : Shared) (σ : St) (H : Hp) (o i v : V) (ov iv u : Value) (Q : Hp → Prop), Inv X pins σ H s → RelV o ov → RelV i iv → RelV v u → t o i v H Q →
    wpAny (model X.prog X.w) X.A (setItem ov iv u) (fun _ s' => ∃ H', Inv X pins σ H' s' ∧ Q H') X.xe s
/-- a op= b, by values -/
abbrev TIp := V → V → Hp → VK → Prop
def PIp (X : Cx) (op : Operator) (t : TIp) : Prop :=
  ∀ (pins : List (Addr × Obj)) (s : Shared) (σ : St) (H : Hp) (x y : V) (v u : Value) (Q : VK), Inv X pins σ H s → RelV x v → RelV y u → t x y H Q →
    wpAny (model X.prog X.w) X.A (inplaceOp op v u) (EP X pins σ Q) X.xe s
section
variable {X : Cx} {pos : Pos}
def gName (i : Nat) : TG := fun v σ H Q => Q (σ.set i (some v)) H
theorem pg_name {i : Nat} {x : Str} (hN : X.N.Nodup) (hi : X.N[i]? = some x) (hx : Loc X.env.scope x) (hf : X.fn x = true ∨ X.env.scope.names.lookup x = some .local := by first | exact .inl rfl | exact .inr rfl | assumption) : PG X (.Name x pos) (gName i) := by
  intro pins s σ H v u Q I r h
  exact wpAny_assign_Name (store_ok I hN hi hx r (fun s' I' => ⟨_, H, I', h⟩) hf)
def gNil : TGs := fun vs σ H Q => vs = [] ∧ Q σ H
def gCons (t : TG) (u : TGs) : TGs := fun vs σ H Q => ∃ v r, vs = v :: r ∧ t v σ H fun σ' H' => u r σ' H' Q
theorem pgs_nil : PGs X [] gNil := by
  intro pins s σ H vs us Q I r h
  obtain ⟨e, h⟩ := h
  subst e
  cases r
  exact assignInOrder_nil ⟨σ, H, I, h⟩
theorem pgs_cons {e : Expr} {es : List Expr} {t : TG} {u : TGs} (h1 : PG X e t) (h2 : PGs X es u)
    (hs : (assignEach (e :: es) X.env).map (·.2) = assign e X.env :: (assignEach es X.env).map (·.2) := by rfl) : PGs X (e :: es) (gCons t u) := by
  intro pins s σ H vs us Q I r h
  obtain ⟨v, vr, e1, h⟩ := h
  subst e1
  cases r with
  | cons r rr =>
    rw [hs]
    refine assignInOrder_cons (thn (h1 pins s σ H _ _ _ I r h) fun _ s1 ⟨σ1, H1, I1, q1⟩ => ?_)
    exact h2 pins s1 σ1 H1 _ _ Q I1 rr q1
/-- (a, b, ..) = a tuple of that length -/
def gTup (K : PySem.W.Frag) (n : Nat) (t : TGs) : TG := fun v σ H Q => ∃ a xs, v = .ref a ∧ SqT K H a xs ∧ xs.length = n ∧ t xs σ H Q
theorem pg_tup {es : List Expr} {k : Nat} {t : TGs} {n : Nat} (hc : X.calm = true) (h : PGs X es t)
    (hn : (assignEach es X.env).length = n := by rfl) (hst : (assignEach es X.env).findIdx? (·.1) = none := by rfl) : PG X (.Tuple es k pos) (gTup X.K n t) := by
  intro pins s σ H v u Q I r hw
  obtain ⟨a, xs, e1, hq, hl, hw⟩ := hw
  subst e1
  cases r
  obtain ⟨its, rv, ht, hz⟩ := I.tuple hq
  refine assign_Tuple_tuple (I.ok.hd hc) ht (by simp [hn, ← hl, rv.length]) hst fun h' hx => ?_
  have I1 : Inv X pins σ H { s with heap := h' } := I.kept (t' := s.toks) fun b o e => hx b o (Nat.ne_of_lt (Heap.lt_size e)) e
  exact h pins _ σ H xs _ Q I1 (by simpa using rv) hw
/-- o[i] = .. -/
def gSub (to ti : TE) (t : TSet) : TG := fun v σ H Q => to σ H fun o H1 => ti σ H1 fun i H2 => t o i v H2 fun H3 => Q σ H3
theorem pg_sub {o i : Expr} {to ti : TE} {t : TSet} (ho : PE X o to) (hi : PE X i ti) (hs : PSet X t)
    (ha : ∀ v, assign (.Subscript o i pos) X.env v = (do
      let ov ← holding [v] (eval o X.env)
      let iv ← holding [v, ov] (eval i X.env)
      standAt pos
      holding [v, ov, iv] (setItem ov iv v)
      release [v, ov, iv] []) := by intro _; rfl) : PG X (.Subscript o i pos) (gSub to ti t) := by
  intro pins s σ H v u Q I r h
  rw [ha]
  refine wpAny_bind (wpAny_holding (thn (ho pins s σ H _ I h) fun ov s1 ⟨x, H1, I1, r1, q1⟩ => ?_))
  refine wpAny_bind (wpAny_holding (thn (hi pins s1 σ H1 _ I1 q1) fun iv s2 ⟨y, H2, I2, r2, q2⟩ => ?_))
  refine wpAny_bind (wpAny_standAt (wpAny_bind (wpAny_holding (thn (hs pins s2 σ H2 x y v ov iv u _ I2 r1 r2 r q2) fun _ s3 ⟨H3, I3, q3⟩ => ?_))))
  exact wpAny_release ⟨σ, H3, I3, q3⟩
/-- target = value -/
def tAsg (te : TE) (g : TG) : TS := fun D σ H => te σ H fun x H1 => g x σ H1 D.nx
theorem ps_asg {tg e : Expr} {te : TE} {g : TG} (he : PE X e te) (hg : PG X tg g) (hs : swapsWithSole [tg] e pos.line X.env = pure false := by rfl) (hw : swappedStores [tg] e X.env = pure none := by rfl)
    (h1 : (assignEach [tg] X.env).map (·.2) = [assign tg X.env] := by rfl) : PS X (.Assign [tg] e pos) (tAsg te g) := by
  intro pins s σ H D I h
  refine wpAny_Assign_stores (thn (he pins s σ H _ I h) fun v s1 ⟨x, H1, I1, r1, q1⟩ => ?_) hs hw
  rw [h1]
  exact thn (hg pins s1 σ H1 x v _ I1 r1 q1) fun _ s2 q => q
/-- name = value -/
theorem ps_set {i : Nat} {x : Str} {e : Expr} {te : TE} {pos' : Pos} (hN : X.N.Nodup) (hi : X.N[i]? = some x) (hx : Loc X.env.scope x) (he : PE X e te) (hs : swapsWith e (some (.Name x pos')) pos.line X.env = pure false := by rfl) (hf : X.fn x = true ∨ X.env.scope.names.lookup x = some .local := by first | exact .inl rfl | exact .inr rfl | assumption) :
    PS X (.Assign [.Name x pos'] e pos) (tAsg te (gName i)) := by
  intro pins s σ H D I h
  refine wpAny_Assign_Name (thn (he pins s σ H _ I h) fun v s1 ⟨y, H1, I1, r1, q1⟩ => ?_) hs
  exact store_ok I1 hN hi hx r1 (fun s2 I2 => ⟨_, H1, I2, q1⟩) hf
/-- a, b = x, y with plain local names: stored from the right; the pair itself is not tracked (the opening rows as in PyProof/Rows/TupAssign.lean:23) -/
def tPar (i j : Nat) (ta : TA) : TS := fun D σ H => ta σ H fun vs H1 => ∃ v w, vs = [v, w] ∧ D.nx ((σ.set i (some v)).set j (some w)) H1
theorem ps_par {i j : Nat} {x y : Str} {a b : Expr} {ta : TA} {px py pt : Pos} {kt k2 pt2} (hc : X.calm = true) (hN : X.N.Nodup) (hi : X.N[i]? = some x) (hj : X.N[j]? = some y) (hij : i ≠ j)
    (hx : X.env.scope.names.lookup x = some .local) (hy : X.env.scope.names.lookup y = some .local) (ha : PA X [a, b] ta)
    (hw : swappedStores [.Tuple [.Name x px, .Name y py] kt pt] (.Tuple [a, b] k2 pt2) X.env = pure (some [x, y]))
    (hs : swapsWithSole [.Tuple [.Name x px, .Name y py] kt pt] (.Tuple [a, b] k2 pt2) pos.line X.env = pure false := by rfl) :
    PS X (.Assign [.Tuple [.Name x px, .Name y py] kt pt] (.Tuple [a, b] k2 pt2) pos) (tPar i j ta) := by
  intro pins s σ H D I h
  rw [exec_Assign_arm]
  refine wpAny_bind (wpAny_standAt ?_)
  rw [hs]
  refine wpAny_bind (wpAny_pure ?_)
  rw [if_neg (by decide)]
  refine wpAny_bind (Tuple_ (thn (ha _ pins s σ H _ I h) fun us s1 ⟨vs, H1, I1, r1, q1⟩ => ?_))
  obtain ⟨v, w, e1, q1⟩ := q1
  subst e1
  obtain ⟨u1, u2, rfl, rv, rw'⟩ : ∃ u1 u2, us = [u1, u2] ∧ RelV v u1 ∧ RelV w u2 := by
    cases r1 with
    | cons p q =>
      cases q with
      | cons p' q' =>
        cases q'
        exact ⟨_, _, rfl, p, p'⟩
  refine wpAny_newObj_type ?_ (by show 2 ≤ sizeLine; decide)
  have I2 : Inv X pins σ H1 { s1 with heap := s1.heap.push { cls := .type "tuple", data := .seq [u1, u2].toArray } } := I1.kept (t' := s1.toks) fun b o e => Heap.get?_push_of_some _ e
  rw [hw]
  refine wpAny_bind (wpAny_pure ?_)
  show wpAny (model X.prog X.w) X.A (do rule "assign.swapped-stores"; let items ← unpackItems (.ref s1.heap.objs.size) 2 none; assignInOrder [fun v => bindName X.env y v, fun v => bindName X.env x v] items.reverse; pure Flow.next) _ _ _
  refine wpAny_bind (wpAny_rule (wpAny_bind (unpackItems_tuple (items := #[u1, u2]) (I.ok.hd hc) (IsTup.new s1.heap _) fun h' hx' => ?_)))
  have I3 := I2.kept (h' := h') (t' := s1.toks) fun b o e => hx' b o (Nat.ne_of_lt (Heap.lt_size e)) e
  show wpAny _ _ (assignInOrder [fun v => bindName X.env y v, fun v => bindName X.env x v] [u2, u1] >>= fun _ => pure Flow.next) _ _ _
  refine wpAny_bind (assignInOrder_cons (wpAny_bindName (store_ok I3 hN hj (.inl hy) rw' (fun s2 I4 => ?_) (.inr hy))))
  refine assignInOrder_cons (wpAny_bindName (store_ok I4 hN hi (.inl hx) rv (fun s3 I5 => assignInOrder_nil (wpAny_pure ?_)) (.inr hx)))
  rw [List.set_comm _ _ (Ne.symm hij)] at I5
  exact ⟨_, H1, I5, q1⟩
/-- name op= e -/
def tAug (i : Nat) (te : TE) (ti : TIp) : TS := fun D σ H => ∃ x, σ[i]? = some (some x) ∧ te σ H fun y H1 => ti x y H1 fun z H2 => D.nx (σ.set i (some z)) H2
theorem ps_aug {i : Nat} {x : Str} {e : Expr} {te : TE} {op : Operator} {ti : TIp} {pos' : Pos} (hN : X.N.Nodup) (hi : X.N[i]? = some x) (hx : Loc X.env.scope x) (he : PE X e te) (ho : PIp X op ti) (hf : X.fn x = true ∨ X.env.scope.names.lookup x = some .local := by first | exact .inl rfl | exact .inr rfl | assumption) :
    PS X (.AugAssign (.Name x pos') op e pos) (tAug i te ti) := by
  intro pins s σ H D I h
  obtain ⟨v, e1, h⟩ := h
  obtain ⟨m, hn, hl⟩ := I.loc
  have vis : Vis X.env.scope x := by rcases hx with k | k; exact .inl k; exact .inr (.inl k)
  obtain ⟨u, r, l⟩ := hl i x v hi e1 vis
  refine wpAny_AugAssign_Name ?_
  have go : wpAny (model X.prog X.w) X.A (eval e X.env) (fun w s₂ => wpAny (model X.prog X.w) X.A (inplaceOp op u w) (fun r s₃ => wpAny (model X.prog X.w) X.A (storeName X.env x r) (fun _ => SP X pins D .next) X.xe s₃) X.xe s₂) X.xe s := by
    refine thn (he pins s σ H _ I h) fun w s1 ⟨y, H1, I1, r1, q1⟩ => ?_
    refine thn (ho pins s1 σ H1 v y u w _ I1 r r1 q1) fun z s2 ⟨zv, H2, I2, r2, q2⟩ => ?_
    exact store_ok I2 hN hi hx r2 (fun s3 I3 => ⟨_, H2, I3, q2⟩) hf
  rcases l with ⟨hk, hm⟩ | ⟨hk, c, hc, hcell⟩
  · exact wpAny_loadName_local I.ok.kind hk hn hm go
  · rcases hk with hk | hk
    · exact wpAny_loadName_cell I.ok.kind hk hc hcell go
    · rcases hx with k | k
      · have : X.env.scope.names.lookup x = some .free := hk
        rw [k] at this; cases this
      · have : X.env.scope.names.lookup x = some .free := hk
        rw [k] at this; cases this
/-- o[i] op= e -/
def tAugS (to ti te : TE) (tget : V → V → Hp → VK → Prop) (tip : TIp) (tset : TSet) : TS := fun D σ H => to σ H fun o H1 => ti σ H1 fun i H2 => tget o i H2 fun x H3 => te σ H3 fun y H4 => tip x y H4 fun z H5 => tset o i z H5 fun H6 => D.nx σ H6
/-- o[i], by values -/
def PGet (X : Cx) (t : V → V → Hp → VK → Prop) : Prop :=
  ∀ (pins : List (Addr × Obj)) (s : Shared) (σ : St) (H : Hp) (o i : V) (ov iv : Value) (Q : VK), Inv X pins σ H s → RelV o ov → RelV i iv → t o i H Q →
    wpAny (model X.prog X.w) X.A (getItem ov iv) (EP X pins σ Q) X.xe s
theorem ps_augS {o i e : Expr} {to ti te : TE} {tget : V → V → Hp → VK → Prop} {tip : TIp} {tset : TSet} {op : Operator} {tpos : Pos} (ho : PE X o to) (hi : PE X i ti) (hg : PGet X tget) (he : PE X e te) (hp : PIp X op tip) (hs : PSet X tset)
    (ha : ∀ ov iv new, augStore i ov iv new = (do holding [new, ov, iv] (setItem ov iv new); release [new, ov, iv] []; pure .next) := by intros; rfl) : PS X (.AugAssign (.Subscript o i tpos) op e pos) (tAugS to ti te tget tip tset) := by
  intro pins s σ H D I h
  refine wpAny_AugAssign_SubscriptAny (thn (ho pins s σ H _ I h) fun ov s1 ⟨x1, H1, I1, r1, q1⟩ => ?_) ha
  refine thn (hi pins s1 σ H1 _ I1 q1) fun iv s2 ⟨x2, H2, I2, r2, q2⟩ => ?_
  refine thn (hg pins s2 σ H2 x1 x2 ov iv _ I2 r1 r2 q2) fun old s3 ⟨x3, H3, I3, r3, q3⟩ => ?_
  refine thn (he pins s3 σ H3 _ I3 q3) fun v s4 ⟨x4, H4, I4, r4, q4⟩ => ?_
  refine thn (hp pins s4 σ H4 x3 x4 old v _ I4 r3 r4 q4) fun new s5 ⟨x5, H5, I5, r5, q5⟩ => ?_
  exact thn (hs pins s5 σ H5 x1 x2 x5 ov iv new _ I5 r1 r2 r5 q5) fun _ s6 ⟨H6, I6, q6⟩ => ⟨σ, H6, I6, q6⟩
/-- ints -/
def ipI (f : Int → Int → Int) : TIp := fun x y H Q => ∃ i j, x = .int i ∧ y = .int j ∧ Q (.int (f i j)) H
theorem ip_add : PIp X .Add (ipI fun i j => i + j) := by
  intro pins s σ H x y v u Q I r1 r2 h
  obtain ⟨i, j, e1, e2, q⟩ := h
  subst e1; subst e2
  obtain ⟨t, rfl⟩ := r1
  obtain ⟨t', rfl⟩ := r2
  exact iadd_int ⟨.int _, H, I.tok _, ⟨_, rfl⟩, q⟩
theorem ip_sub : PIp X .Sub (ipI fun i j => i - j) := by
  intro pins s σ H x y v u Q I r1 r2 h
  obtain ⟨i, j, e1, e2, q⟩ := h
  subst e1; subst e2
  obtain ⟨t, rfl⟩ := r1
  obtain ⟨t', rfl⟩ := r2
  exact isub_int ⟨.int _, H, I.tok _, ⟨_, rfl⟩, q⟩
end

/-! ### while -/
section
variable {X : Cx} {pos : Pos}
/-- the invariant W with its measure -/
def tWhile (c : TT) (tb : TS) : TS := fun D σ H => ∃ W : Nat → St → Hp → Prop, (∃ m, W m σ H) ∧ ∀ m σ H, W m σ H →
  c σ H fun b H1 => if b = true then ∃ N : St → Hp → Prop, (∀ σ' H', N σ' H' → ∃ m', m' < m ∧ W m' σ' H') ∧ tb { D with nx := N, ct := N, bk := D.nx } σ H1 else D.nx σ H1
theorem ps_while {c : Expr} {body : List Stmt} {tc : TT} {tb : TS} (hp : PassesOwn (model X.prog X.w) X.A X.env X.xe) (hc : PT X c tc) (hb : PSs X body tb) : PS X (.While c body [] pos) (tWhile tc tb) := by
  intro pins s σ H D I h
  obtain ⟨W, ⟨m0, w0⟩, turn⟩ := h
  refine wpAny_While (codeAny_whileLoop (fun n s' => ∃ σ' H', Inv X pins σ' H' s' ∧ W n σ' H') ?_ m0 ⟨σ, H, I, w0⟩)
  rintro n s1 ⟨σ1, H1, I1, w1⟩
  refine wpAny_passesOwn hp (thn (hc pins s1 σ1 H1 _ I1 (turn n σ1 H1 w1)) fun b s2 ⟨H2, I2, q2⟩ => ?_)
  cases b with
  | true =>
    obtain ⟨N, hN, q2⟩ := q2
    rw [if_pos rfl]
    refine wpAny_passesOwn hp (thn (hb pins s2 σ1 H2 _ I2 q2) fun f s3 q3 => ?_)
    cases f with
    | next =>
      obtain ⟨σ3, H3, I3, n3⟩ := q3
      obtain ⟨m', hm, w3⟩ := hN σ3 H3 n3
      exact ⟨m', hm, σ3, H3, I3, w3⟩
    | cont =>
      obtain ⟨σ3, H3, I3, n3⟩ := q3
      obtain ⟨m', hm, w3⟩ := hN σ3 H3 n3
      exact ⟨m', hm, σ3, H3, I3, w3⟩
    | brk => exact q3
    | ret v => exact q3
  | false =>
    rw [if_neg Bool.false_ne_true]
    exact wpAny_execs_nil ⟨σ1, H2, I2, q2⟩
end

/-! ### what a loop or a comprehension walks -/
/-- at turn i: it yields x (the heap may grow), or it stops -/
structure It where
  go : Nat → Hp → Prop
  yld : Nat → Hp → V → Hp → Prop
  stop : Nat → Hp → Prop
/-- the iterator's own objects may turn: they are not the frame's, not pinned, younger than the entry (or a comprehension's own) -/
def FpOk (X : Cx) (pins : List (Addr × Obj)) (H : Hp) (b : Addr) : Prop :=
  H b = none ∧ b ≠ X.env.locals ∧ b ∉ X.fs ∧ (b ∈ X.ex ∨ X.s₀.heap.objs.size ≤ b) ∧ (∀ x c, X.env.cells.lookup x = some c → c ≠ b) ∧ ∀ p ∈ X.pn ++ pins, p.1 ≠ b
theorem Inv.fpOk {X : Cx} {pins : List (Addr × Obj)} {σ : St} {H H' : Hp} {s : Shared} {b : Addr} (I : Inv X pins σ H s) (hb : s.heap.objs.size ≤ b) (hn : H' b = none) : FpOk X pins H' b := by
  refine ⟨hn, Nat.ne_of_gt (Nat.lt_of_lt_of_le I.lt hb), I.nofs hb, .inr (Nat.le_trans I.sz hb), fun x c e z => ?_, fun p hp z => ?_⟩
  · obtain ⟨v, q⟩ := I.cell x c e
    exact absurd (Nat.lt_of_lt_of_le q.lt (by rw [z]; exact hb)) (Nat.lt_irrefl _)
  · exact absurd (Nat.lt_of_lt_of_le (Heap.lt_size (I.pin p hp).1) (by rw [z]; exact hb)) (Nat.lt_irrefl _)
structure Turn (P : Program) (w : World) (K : PySem.W.Frag) (tg : Expr) (J : It) (fp : List Addr) (it : Addr) (tn : Nat → Heap → Prop) : Prop where
  mem : it ∈ fp
  obj : ∀ i h, tn i h → ∀ b ∈ fp, ∃ o, h.get? b = some o ∧ ∀ v, o.data ≠ .cell v
  keep : ∀ i h h', tn i h → (∀ b ∈ fp, ∀ o, h.get? b = some o → h'.get? b = some o) → tn i h'
  item : ∀ (X : Cx), X.prog = P → X.w = w → X.K = K → X.calm = true → ∀ (i : Nat) (pins : List (Addr × Obj)) (s : Shared) (σ : St) (H : Hp) (E : Value → Shared → Prop), Inv X pins σ H s → (∀ b ∈ fp, FpOk X pins H b) → tn i s.heap → J.go i H →
    wpAny (model P w) X.A (pyNext (.ref it)) (fun r s1 => ∃ u, r = some u ∧
      wpAny (model P w) X.A (letOwnedTupleGo tg (.ref it) u) (fun _ s2 => ∃ x H', Inv X pins σ H' s2 ∧ RelV x u ∧ J.yld i H x H' ∧ tn (i + 1) s2.heap ∧ ∀ b ∈ fp, H' b = none) E s1) E s
  done : ∀ (X : Cx), X.prog = P → X.w = w → X.K = K → X.calm = true → ∀ (i : Nat) (pins : List (Addr × Obj)) (s : Shared) (σ : St) (H : Hp) (E : Value → Shared → Prop), Inv X pins σ H s → (∀ b ∈ fp, FpOk X pins H b) → tn i s.heap → J.stop i H →
    wpAny (model P w) X.A (pyNext (.ref it)) (fun r s1 => r = none ∧ Inv X pins σ H s1) E s
  self : ∀ (A : Around) (i : Nat) (s : Shared) (Q : Value → Shared → Prop) (E : Value → Shared → Prop), tn i s.heap → Q (.ref it) s → wpAny (model P w) A (pyIter (.ref it)) Q E s
abbrev TI := St → Hp → (It → Hp → Prop) → Prop
/-- an iterator has come -/
def PIE (X : Cx) (pins : List (Addr × Obj)) (σ : St) (tg : Expr) (R : It → Hp → Prop) (itv : Value) (s2 : Shared) : Prop :=
  ∃ (it : Addr) (fp : List Addr) (tn : Nat → Heap → Prop) (J : It) (H' : Hp), itv = .ref it ∧ Inv X pins σ H' s2 ∧ Turn X.prog X.w X.K tg J fp it tn ∧ tn 0 s2.heap ∧ (∀ b ∈ fp, FpOk X pins H' b) ∧ R J H'
def PI (X : Cx) (tg iter : Expr) (wi : TI) : Prop :=
  ∀ (pins : List (Addr × Obj)) (s : Shared) (σ : St) (H : Hp) (R : It → Hp → Prop), Inv X pins σ H s → wi σ H R →
    wpAny (model X.prog X.w) X.A (eval iter X.env) (fun v s1 => wpAny (model X.prog X.w) X.A (pyIter v) (PIE X pins σ tg R) X.xe s1) X.xe s

/-- the step ahead of the store is nothing for an iterator that keeps no tuple -/
theorem go_of {M : Model} {A : Around} {E : Value → Shared → Prop} {s : Shared} {tg : Expr} {it : Addr} {u : Value} {o : Obj} {n : String} {vs : Array Value} {Q : Unit → Shared → Prop} (ho : s.heap.get? it = some o) (hc : o.cls = .type n) (hd : o.data = .fields vs)
    (hn : ["enumerate", "zip", "dict_itemiterator", "dict_reverseitemiterator", "odict_iterator", "itertools.zip_longest", "itertools.pairwise"].contains n = false) (hQ : Q () s) : wpAny M A (letOwnedTupleGo tg (.ref it) u) Q E s := by
  unfold letOwnedTupleGo
  cases tg <;> first
    | exact wpAny_pure hQ
    | (cases u <;> first
        | exact wpAny_pure hQ
        | (refine wpAny_bind (wpAny_load ho ?_)
           rw [hc, hd]
           show wpAny M A (if (["enumerate", "zip", "dict_itemiterator", "dict_reverseitemiterator", "odict_iterator", "itertools.zip_longest", "itertools.pairwise"].contains n && vs[0]? == some (rawInt _)) = true then _ else _) Q E s
           rw [if_neg (by intro h; rw [hn, Bool.false_and] at h; cases h)]
           exact wpAny_pure hQ))

/-- the list at a, as it stands at each turn (a loop may append to it) -/
def Itl (K : PySem.W.Frag) (a : Addr) : It :=
  ⟨fun i H => ∃ xs x, SqL K H a xs ∧ xs[i]? = some x, fun i H x H' => H' = H ∧ ∀ xs, SqL K H a xs → xs[i]? = some x, fun i H => ∃ xs, SqL K H a xs ∧ xs.length ≤ i⟩
def Itt (K : PySem.W.Frag) (a : Addr) : It :=
  ⟨fun i H => ∃ xs x, SqT K H a xs ∧ xs[i]? = some x, fun i H x H' => H' = H ∧ ∀ xs, SqT K H a xs → xs[i]? = some x, fun i H => ∃ xs, SqT K H a xs ∧ xs.length ≤ i⟩
/-- lo, lo + 1, .. (n of them) -/
def Itr (lo : Int) (n : Nat) : It := ⟨fun i _ => i < n, fun i H x H' => H' = H ∧ x = .int (lo + i), fun i _ => n ≤ i⟩
theorem turn_list {P : Program} {w : World} {K : PySem.W.Frag} {tg : Expr} (a it : Addr) : Turn P w K tg (Itl K a) [it] it (fun i h => h.IsListIter it a i) where
  mem := by simp
  obj := fun i h st b hb => by
    have e : b = it := by simpa using hb
    subst e
    obtain ⟨o, e, c, d⟩ := st
    exact ⟨o, e, fun v z => by rw [d] at z; cases z⟩
  keep := fun i h h' st k => st.at fun o e => k it (by simp) o e
  item := by
    intro X hP hw hK hc i pins s σ H E I hf st hg
    subst hP hw hK
    obtain ⟨xs, x, hq, hx⟩ := hg
    obtain ⟨its, rv, p, hz⟩ := I.list hq
    obtain ⟨u, hu, ru⟩ := rv.get hx
    obtain ⟨f0, f1, f2, f3, f4, f5⟩ := hf it (by simp)
    refine wpAny_pyNext_list_item st p.isList (x := u) (by simpa using hu) fun h' st' sb => ?_
    have I1 : Inv X pins σ H { s with heap := h' } := I.turned (t' := s.toks) (fun b o hb e => (sb.2 b hb).trans e) f0 f1 f3 f4 f5
    obtain ⟨o, e, c, d⟩ := id st'
    exact ⟨u, rfl, go_of (s := { s with heap := h' }) e c d (by decide) ⟨x, H, I1, ru, ⟨rfl, fun ys hy => by rw [I.list_inj hy hq]; exact hx⟩, st', fun b hb => (hf b hb).1⟩⟩
  done := by
    intro X hP hw hK hc i pins s σ H E I hf st hg
    subst hP hw hK
    obtain ⟨xs, hq, hx⟩ := hg
    obtain ⟨its, rv, p, hz⟩ := I.list hq
    obtain ⟨f0, f1, f2, f3, f4, f5⟩ := hf it (by simp)
    have hl := rv.length
    exact wpAny_pyNext_list_end (I.ok.hd hc) st p.isList (by simp; omega) fun h' eb => ⟨rfl, I.turned (t' := s.toks) (fun b o hb e => eb b o hb e) f0 f1 f3 f4 f5⟩
  self := fun _ _ _ _ _ st h => wpAny_pyIter_listiter st h
theorem turn_tuple {P : Program} {w : World} {K : PySem.W.Frag} {tg : Expr} (a it : Addr) : Turn P w K tg (Itt K a) [it] it (fun i h => h.IsTupleIter it a i) where
  mem := by simp
  obj := fun i h st b hb => by
    have e : b = it := by simpa using hb
    subst e
    obtain ⟨o, e, c, d⟩ := st
    exact ⟨o, e, fun v z => by rw [d] at z; cases z⟩
  keep := fun i h h' st k => st.at fun o e => k it (by simp) o e
  item := by
    intro X hP hw hK hc i pins s σ H E I hf st hg
    subst hP hw hK
    obtain ⟨xs, x, hq, hx⟩ := hg
    obtain ⟨its, rv, p, hz⟩ := I.tuple hq
    obtain ⟨u, hu, ru⟩ := rv.get hx
    obtain ⟨f0, f1, f2, f3, f4, f5⟩ := hf it (by simp)
    refine wpAny_pyNext_tuple_item st (show s.heap.IsTuple a its.toArray from p) (x := u) (by simpa using hu) fun h' st' sb => ?_
    have I1 : Inv X pins σ H { s with heap := h' } := I.turned (t' := s.toks) (fun b o hb e => (sb.2 b hb).trans e) f0 f1 f3 f4 f5
    obtain ⟨o, e, c, d⟩ := id st'
    exact ⟨u, rfl, go_of (s := { s with heap := h' }) e c d (by decide) ⟨x, H, I1, ru, ⟨rfl, fun ys hy => by rw [I.tuple_inj hy hq]; exact hx⟩, st', fun b hb => (hf b hb).1⟩⟩
  done := by
    intro X hP hw hK hc i pins s σ H E I hf st hg
    subst hP hw hK
    obtain ⟨xs, hq, hx⟩ := hg
    obtain ⟨its, rv, p, hz⟩ := I.tuple hq
    obtain ⟨f0, f1, f2, f3, f4, f5⟩ := hf it (by simp)
    have hl := rv.length
    exact wpAny_pyNext_tuple_end (I.ok.hd hc) st (show s.heap.IsTuple a its.toArray from p) (by simp; omega) fun h' eb => ⟨rfl, I.turned (t' := s.toks) (fun b o hb e => eb b o hb e) f0 f1 f3 f4 f5⟩
  self := fun _ _ _ _ _ st h => wpAny_pyIter_tupleiter st h
theorem turn_range {P : Program} {w : World} {K : PySem.W.Frag} {tg : Expr} (it : Addr) (lo : Int) (n : Nat) : Turn P w K tg (Itr lo n) [it] it (fun i h => IsRangeIter h it (lo + (i : Nat) * 1) ((n : Int) - (i : Nat)) 1) where
  mem := by simp
  obj := fun i h st b hb => by
    have e : b = it := by simpa using hb
    subst e
    exact ⟨_, st, fun v z => by
      have z' : Data.fields _ = Data.cell v := z
      cases z'⟩
  keep := fun i h h' st k => k it (by simp) _ st
  item := by
    intro X hP hw hK hc i pins s σ H E I hf st hg
    subst hP hw hK
    obtain ⟨f0, f1, f2, f3, f4, f5⟩ := hf it (by simp)
    have W := Walks.range (prog := X.prog) (w := X.w) (I.ok.hd hc) it lo 1 n
    refine W.item i s _ _ hg st fun v h' tk hv st' kk => ?_
    obtain ⟨t, rfl⟩ := hv
    have I1 : Inv X pins σ H { s with heap := h', toks := tk } := I.turned (fun b o hb e => kk b o (by simpa using hb) e) f0 f1 f3 f4 f5
    refine ⟨_, rfl, go_of (s := { s with heap := h', toks := tk }) (n := "range_iterator") st' rfl rfl (by decide) ⟨.int (lo + i), H, I1, ⟨t, ?_⟩, ⟨rfl, rfl⟩, st', fun b hb => (hf b hb).1⟩⟩
    rw [Int.mul_one]
  done := by
    intro X hP hw hK hc i pins s σ H E I hf st hg
    subst hP hw hK
    obtain ⟨f0, f1, f2, f3, f4, f5⟩ := hf it (by simp)
    exact wpAny_pyNext_range_end (I.ok.hd hc) st (by have : n ≤ i := hg; omega) fun h' eb => ⟨rfl, I.turned (t' := s.toks) (fun b o hb e => eb b o hb e) f0 f1 f3 f4 f5⟩
  self := fun _ _ _ _ _ st h => wpAny_pyIter_rangeiter st h
end L2

namespace L2
open PySem PySem.Spec PyProof.Rows
section
variable {X : Cx} {tg : Expr}
def iList (K : PySem.W.Frag) (tl : TE) : TI := fun σ H R => tl σ H fun x H1 => ∃ a, x = .ref a ∧ (∃ xs, SqL K H1 a xs) ∧ R (Itl K a) H1
def iTup (K : PySem.W.Frag) (tl : TE) : TI := fun σ H R => tl σ H fun x H1 => ∃ a, x = .ref a ∧ (∃ xs, SqT K H1 a xs) ∧ R (Itt K a) H1
theorem pi_list {l : Expr} {tl : TE} (hl : PE X l tl) : PI X tg l (iList X.K tl) := by
  intro pins s σ H R I h
  refine thn (hl pins s σ H _ I h) fun v s1 ⟨x, H1, I1, r1, q1⟩ => ?_
  obtain ⟨a, e, ⟨xs, hq⟩, q⟩ := q1
  subst e
  cases r1
  obtain ⟨its, rv, p, hz⟩ := I1.list hq
  refine wpAny_pyIter_list p.isList ?_
  refine ⟨s1.heap.objs.size, [s1.heap.objs.size], _, _, H1, rfl, I1.kept (t' := s1.toks) fun b o e => Heap.get?_push_of_some _ e, turn_list a _, ⟨_, Heap.get?_push_size _ rfl, rfl, rfl⟩, fun b hb => ?_, q⟩
  have e : b = s1.heap.objs.size := by simpa using hb
  subst e
  exact I1.fpOk (Nat.le_refl _) (I1.hok.fresh (Nat.le_refl _))
theorem pi_tup {l : Expr} {tl : TE} (hl : PE X l tl) : PI X tg l (iTup X.K tl) := by
  intro pins s σ H R I h
  refine thn (hl pins s σ H _ I h) fun v s1 ⟨x, H1, I1, r1, q1⟩ => ?_
  obtain ⟨a, e, ⟨xs, hq⟩, q⟩ := q1
  subst e
  cases r1
  obtain ⟨its, rv, p, hz⟩ := I1.tuple hq
  refine wpAny_pyIter_tuple (show s1.heap.IsTuple a its.toArray from p) ?_
  refine ⟨s1.heap.objs.size, [s1.heap.objs.size], _, _, H1, rfl, I1.kept (t' := s1.toks) fun b o e => Heap.get?_push_of_some _ e, turn_tuple a _, ⟨_, Heap.get?_push_size _ rfl, rfl, rfl⟩, fun b hb => ?_, q⟩
  have e : b = s1.heap.objs.size := by simpa using hb
  subst e
  exact I1.fpOk (Nat.le_refl _) (I1.hok.fresh (Nat.le_refl _))
/-- a range object just made, walked -/
theorem range_it {pins : List (Addr × Obj)} {σ : St} {H : Hp} {s : Shared} {R : It → Hp → Prop} {E : Value → Shared → Prop} {lo hi : Int} {t u v : Tok} {tk : Nat} (I : Inv X pins σ H s) (h1 : -(2 ^ 62) ≤ lo) (h2 : lo < 2 ^ 62) (h3 : -(2 ^ 62) ≤ hi) (h4 : hi < 2 ^ 62)
    (q : R (Itr lo (hi - lo).toNat) H) : wpAny (model X.prog X.w) X.A (pyIter (.ref s.heap.objs.size)) (PIE X pins σ tg R) E { s with heap := s.heap.push { cls := .type "range", data := .fields #[.int lo t, .int hi u, .int 1 v] }, toks := tk } := by
  refine wpAny_pyIter_range (IsRange.new ..) (small_one h1 h2 h3 h4) ?_
  have I1 : Inv X pins σ H { s with heap := s.heap.push { cls := .type "range", data := .fields #[.int lo t, .int hi u, .int 1 v] }, toks := tk } := I.kept fun b o e => Heap.get?_push_of_some _ e
  refine ⟨(s.heap.push { cls := .type "range", data := .fields #[.int lo t, .int hi u, .int 1 v] }).objs.size, [(s.heap.push { cls := .type "range", data := .fields #[.int lo t, .int hi u, .int 1 v] }).objs.size], _, _, H, rfl,
    I1.kept (t' := tk) fun b o e => Heap.get?_push_of_some _ e, turn_range _ lo (hi - lo).toNat, ?_, fun b hb => ?_, q⟩
  · have e1 : lo + ((0 : Nat) : Int) * 1 = lo := by simp
    have e2 : (((hi - lo).toNat : Nat) : Int) - ((0 : Nat) : Int) = Builtin.Range.rangeSize lo hi 1 := by rw [rangeSize_one]; split <;> omega
    show IsRangeIter _ _ (lo + ((0 : Nat) : Int) * 1) ((((hi - lo).toNat : Nat) : Int) - ((0 : Nat) : Int)) 1
    rw [e1, e2]
    exact Heap.get?_push_size _ rfl
  · have e : b = (s.heap.push { cls := .type "range", data := .fields #[.int lo t, .int hi u, .int 1 v] }).objs.size := by simpa using hb
    subst e
    exact I1.fpOk (Nat.le_refl _) (I1.hok.fresh (Nat.le_refl _))
def iRng1 (ta : TA) : TI := fun σ H R => ta σ H fun vs H1 => ∃ j : Int, vs = [.int j] ∧ -(2 ^ 62) ≤ j ∧ j < 2 ^ 62 ∧ R (Itr 0 j.toNat) H1
def iRng2 (ta : TA) : TI := fun σ H R => ta σ H fun vs H1 => ∃ i j : Int, vs = [.int i, .int j] ∧ (-(2 ^ 62) ≤ i ∧ i < 2 ^ 62 ∧ -(2 ^ 62) ≤ j ∧ j < 2 ^ 62) ∧ R (Itr i (j - i).toNat) H1
theorem pi_range1 {a : Expr} {ta : TA} {p pos : Pos} (hg : Gl X "range") (hm : X.mg "range" = none) (ha : PA X [a] ta) (hs : starEach [a] X.env = [(false, eval a X.env)] := by rfl) : PI X tg (.Call (.Name "range" p) [a] [] pos) (iRng1 ta) := by
  intro pins s σ H R I h
  refine Call_ (ld_blt I hg hm boot_range (PyProof.Rows.callWith_type1 (thn (ha pos pins s σ H _ I h) fun us s1 ⟨vs, H1, I1, r1, q1⟩ => ?_) hs rfl))
  obtain ⟨j, e, q1, q2, q⟩ := q1
  subst e
  cases r1 with
  | cons r rr =>
    cases rr
    obtain ⟨t, rfl⟩ := r
    exact call_range_1 (range_it I1 (by omega) (by omega) q1 q2 (by simpa using q))
theorem pi_range2 {a b : Expr} {ta : TA} {p pos : Pos} (hg : Gl X "range") (hm : X.mg "range" = none) (ha : PA X [a, b] ta) (hs : starEach [a, b] X.env = [(false, eval a X.env), (false, eval b X.env)] := by rfl) (hs2 : starEach [b] X.env = [(false, eval b X.env)] := by rfl) :
    PI X tg (.Call (.Name "range" p) [a, b] [] pos) (iRng2 ta) := by
  intro pins s σ H R I h
  refine Call_ (ld_blt I hg hm boot_range (PyProof.Rows.callWith_type1 (thn (ha pos pins s σ H _ I h) fun us s1 ⟨vs, H1, I1, r1, q1⟩ => ?_) (by rw [hs, hs2]) (by rw [hs2]; rfl)))
  obtain ⟨i, j, e, ⟨q1, q2, q3, q4⟩, q⟩ := q1
  subst e
  cases r1 with
  | cons r rr =>
    cases rr with
    | cons r' rr =>
      cases rr
      obtain ⟨t, rfl⟩ := r
      obtain ⟨t', rfl⟩ := r'
      exact call_range_2 (range_it I1 q1 q2 q3 q4 q)

/-! ### for -/
/-- W: the invariant by the turn and a measure; N: what the body is to reach -/
def tFor (wi : TI) (g : TG) (tb : TS) : TS := fun D σ H => wi σ H fun J H1 => ∃ W : Nat → Nat → St → Hp → Prop, (∃ m, W 0 m σ H1) ∧ ∀ i m σ H, W i m σ H →
  (J.stop i H ∧ D.nx σ H) ∨ (J.go i H ∧ ∃ N : St → Hp → Prop, (∀ σ' H', N σ' H' → ∃ m', m' < m ∧ W (i + 1) m' σ' H') ∧ ∀ x H', J.yld i H x H' → g x σ H' fun σ2 H2 => tb { D with nx := N, ct := N, bk := D.nx } σ2 H2)
/-- the records at fp as they stand -/
def pinsAt (fp : List Addr) (h : Heap) : List (Addr × Obj) := fp.filterMap fun b => (h.get? b).map fun o => (b, o)
theorem mem_pinsAt {fp : List Addr} {h : Heap} {b : Addr} {o : Obj} (hb : b ∈ fp) (e : h.get? b = some o) : (b, o) ∈ pinsAt fp h := List.mem_filterMap.mpr ⟨b, hb, by rw [e]; rfl⟩
theorem of_pinsAt {fp : List Addr} {h : Heap} {p : Addr × Obj} (hp : p ∈ pinsAt fp h) : p.1 ∈ fp ∧ h.get? p.1 = some p.2 := by
  obtain ⟨b, hb, e⟩ := List.mem_filterMap.mp hp
  cases q : h.get? b with
  | none => rw [q] at e; cases e
  | some o =>
    rw [q] at e
    have e' : (b, o) = p := Option.some.inj e
    subst e'
    exact ⟨hb, q⟩
theorem Inv.pinned {pins : List (Addr × Obj)} {σ : St} {H : Hp} {s : Shared} {fp : List Addr} (I : Inv X pins σ H s) (hf : ∀ b ∈ fp, FpOk X pins H b) (ho : ∀ b ∈ fp, ∃ o, s.heap.get? b = some o ∧ ∀ v, o.data ≠ .cell v) : Inv X (pins ++ pinsAt fp s.heap) σ H s :=
  I.pins_of fun p hp => (List.mem_append.mp hp).elim (fun z => I.pin p (List.mem_append_right _ z)) fun z => by
    obtain ⟨hb, e⟩ := of_pinsAt z
    obtain ⟨f0, f1, f2, _⟩ := hf p.1 hb
    obtain ⟨o, e', d⟩ := ho p.1 hb
    rw [e] at e'; cases e'
    exact ⟨e, f0, f1, f2, d⟩
theorem Inv.unpinned {pins pl : List (Addr × Obj)} {σ : St} {H : Hp} {s : Shared} (I : Inv X (pins ++ pl) σ H s) : Inv X pins σ H s := I.pins_of fun p hp => I.pin p (List.mem_append_right _ (List.mem_append_left _ hp))
theorem ps_for {iter : Expr} {body : List Stmt} {wi : TI} {g : TG} {tb : TS} {pos : Pos} (hp : PassesOwn (model X.prog X.w) X.A X.env X.xe) (hc : X.calm = true) (hi : PI X tg iter wi) (hg : PG X tg g) (hb : PSs X body tb)
    (hs : ∀ x, foldedSetIterable iter X.env x = pure x := by intro _; rfl) : PS X (.For tg iter body [] pos) (tFor wi g tb) := by
  intro pins s σ H D I h
  refine wpAny_For (thn (hi pins s σ H _ I h) fun v s1 h1 => thn h1 fun itv s2 h2 => ?_) hs
  obtain ⟨it, fp, tn, J, H2, e, I2, T, st2, f2, W, ⟨m0, w0⟩, turn⟩ := h2
  subst e
  -- what stays true of the iterator's objects through the loop
  have stat : ∀ {H' : Hp}, (∀ b ∈ fp, H' b = none) → ∀ b ∈ fp, FpOk X pins H' b := fun hn b hb => ⟨hn b hb, (f2 b hb).2⟩
  refine codeAny_forLoop_any (fun n s' => ∃ i σ' H', Inv X pins σ' H' s' ∧ tn i s'.heap ∧ (∀ b ∈ fp, H' b = none) ∧ W i n σ' H') ?_ m0 ⟨0, σ, H2, I2, st2, fun b hb => (f2 b hb).1, w0⟩
  rintro n s3 ⟨i, σ3, H3, I3, st3, fr3, w3⟩
  rcases turn i n σ3 H3 w3 with ⟨stop, qn⟩ | ⟨go, N, hN, step⟩
  · refine wpAny_passesOwn hp (thn (T.done X rfl rfl rfl hc i pins s3 σ3 H3 X.xe I3 (stat fr3) st3 stop) fun r s4 ⟨hr, I4⟩ => ?_)
    subst hr
    exact wpAny_execs_nil ⟨σ3, H3, I4, qn⟩
  · refine wpAny_passesOwn hp (thn (T.item X rfl rfl rfl hc i pins s3 σ3 H3 X.xe I3 (stat fr3) st3 go) fun r s4 ⟨u, hr, h4⟩ => ?_)
    subst hr
    refine wpAny_passesOwn hp (thn h4 fun _ s5 ⟨x, H5, I5, r5, y5, st5, fr5⟩ => ?_)
    have I5' := I5.pinned (stat fr5) (T.obj _ _ st5)
    refine wpAny_passesOwn hp (thn (hg _ s5 σ3 H5 x u _ I5' r5 (step x H5 y5)) fun _ s6 ⟨σ6, H6, I6, q6⟩ => ?_)
    refine wpAny_passesOwn hp (thn (hb _ s6 σ6 H6 _ I6 q6) fun f s7 q7 => ?_)
    have again : ∀ {σ7 : St} {H7 : Hp}, Inv X (pins ++ pinsAt fp s5.heap) σ7 H7 s7 → N σ7 H7 → ∃ m, m < n ∧ ∃ i σ' H', Inv X pins σ' H' s7 ∧ tn i s7.heap ∧ (∀ b ∈ fp, H' b = none) ∧ W i m σ' H' := fun {σ7 H7} I7 n7 => by
      obtain ⟨m', hm, w7⟩ := hN σ7 H7 n7
      refine ⟨m', hm, i + 1, σ7, H7, I7.unpinned, T.keep _ _ _ st5 fun b hb o e => (I7.pin (b, o) (List.mem_append_right _ (List.mem_append_right _ (mem_pinsAt hb e)))).1, fun b hb => ?_, w7⟩
      obtain ⟨o, e, d⟩ := T.obj _ _ st5 b hb
      exact (I7.pin (b, o) (List.mem_append_right _ (List.mem_append_right _ (mem_pinsAt hb e)))).2.1
    cases f with
    | next => obtain ⟨σ7, H7, I7, n7⟩ := q7; exact again I7 n7
    | cont => obtain ⟨σ7, H7, I7, n7⟩ := q7; exact again I7 n7
    | brk => obtain ⟨σ7, H7, I7, q7⟩ := q7; exact ⟨σ7, H7, I7.unpinned, q7⟩
    | ret v => obtain ⟨x7, σ7, H7, I7, r7, q7⟩ := q7; exact ⟨x7, σ7, H7, I7.unpinned, r7, q7⟩
end

/-! ### the forms one uses -/
/-- over a list that the body leaves as it is -/
theorem for_list {K : PySem.W.Frag} {a : Addr} {xs : List V} {g : TG} {tb : TS} {D : Ends} {σ : St} {H : Hp} (Pv : Nat → St → Hp → Prop) (h0 : Pv 0 σ H) (hl : ∀ i σ H, i ≤ xs.length → Pv i σ H → SqL K H a xs)
    (hs : ∀ i x σ H, xs[i]? = some x → Pv i σ H → g x σ H fun σ2 H2 => tb { D with nx := Pv (i + 1), ct := Pv (i + 1), bk := D.nx } σ2 H2) (hd : ∀ σ H, Pv xs.length σ H → D.nx σ H) :
    ∃ W : Nat → Nat → St → Hp → Prop, (∃ m, W 0 m σ H) ∧ ∀ i m σ H, W i m σ H →
      ((Itl K a).stop i H ∧ D.nx σ H) ∨ ((Itl K a).go i H ∧ ∃ N : St → Hp → Prop, (∀ σ' H', N σ' H' → ∃ m', m' < m ∧ W (i + 1) m' σ' H') ∧ ∀ x H', (Itl K a).yld i H x H' → g x σ H' fun σ2 H2 => tb { D with nx := N, ct := N, bk := D.nx } σ2 H2) := by
  refine ⟨fun i m σ H => m = xs.length - i ∧ i ≤ xs.length ∧ Pv i σ H, ⟨xs.length, by simp, Nat.zero_le _, h0⟩, ?_⟩
  rintro i m σ H ⟨rfl, hi, p⟩
  have q := hl i σ H hi p
  by_cases hlt : i < xs.length
  · refine .inr ⟨⟨xs, xs[i], q, by simp [hlt]⟩, Pv (i + 1), fun σ' H' p' => ⟨xs.length - (i + 1), by omega, rfl, hlt, p'⟩, fun x H' y => ?_⟩
    obtain ⟨e, y⟩ := y
    subst e
    exact hs i x σ _ (y xs q) p
  · have e : i = xs.length := by omega
    subst e
    exact .inl ⟨⟨xs, q, Nat.le_refl _⟩, hd σ H p⟩
theorem for_tup {K : PySem.W.Frag} {a : Addr} {xs : List V} {g : TG} {tb : TS} {D : Ends} {σ : St} {H : Hp} (Pv : Nat → St → Hp → Prop) (h0 : Pv 0 σ H) (hl : ∀ i σ H, i ≤ xs.length → Pv i σ H → SqT K H a xs)
    (hs : ∀ i x σ H, xs[i]? = some x → Pv i σ H → g x σ H fun σ2 H2 => tb { D with nx := Pv (i + 1), ct := Pv (i + 1), bk := D.nx } σ2 H2) (hd : ∀ σ H, Pv xs.length σ H → D.nx σ H) :
    ∃ W : Nat → Nat → St → Hp → Prop, (∃ m, W 0 m σ H) ∧ ∀ i m σ H, W i m σ H →
      ((Itt K a).stop i H ∧ D.nx σ H) ∨ ((Itt K a).go i H ∧ ∃ N : St → Hp → Prop, (∀ σ' H', N σ' H' → ∃ m', m' < m ∧ W (i + 1) m' σ' H') ∧ ∀ x H', (Itt K a).yld i H x H' → g x σ H' fun σ2 H2 => tb { D with nx := N, ct := N, bk := D.nx } σ2 H2) := by
  refine ⟨fun i m σ H => m = xs.length - i ∧ i ≤ xs.length ∧ Pv i σ H, ⟨xs.length, by simp, Nat.zero_le _, h0⟩, ?_⟩
  rintro i m σ H ⟨rfl, hi, p⟩
  have q := hl i σ H hi p
  by_cases hlt : i < xs.length
  · refine .inr ⟨⟨xs, xs[i], q, by simp [hlt]⟩, Pv (i + 1), fun σ' H' p' => ⟨xs.length - (i + 1), by omega, rfl, hlt, p'⟩, fun x H' y => ?_⟩
    obtain ⟨e, y⟩ := y
    subst e
    exact hs i x σ _ (y xs q) p
  · have e : i = xs.length := by omega
    subst e
    exact .inl ⟨⟨xs, q, Nat.le_refl _⟩, hd σ H p⟩
theorem for_range {lo : Int} {n : Nat} {g : TG} {tb : TS} {D : Ends} {σ : St} {H : Hp} (Pv : Nat → St → Hp → Prop) (h0 : Pv 0 σ H)
    (hs : ∀ i σ H, i < n → Pv i σ H → g (.int (lo + i)) σ H fun σ2 H2 => tb { D with nx := Pv (i + 1), ct := Pv (i + 1), bk := D.nx } σ2 H2) (hd : ∀ σ H, Pv n σ H → D.nx σ H) :
    ∃ W : Nat → Nat → St → Hp → Prop, (∃ m, W 0 m σ H) ∧ ∀ i m σ H, W i m σ H →
      ((Itr lo n).stop i H ∧ D.nx σ H) ∨ ((Itr lo n).go i H ∧ ∃ N : St → Hp → Prop, (∀ σ' H', N σ' H' → ∃ m', m' < m ∧ W (i + 1) m' σ' H') ∧ ∀ x H', (Itr lo n).yld i H x H' → g x σ H' fun σ2 H2 => tb { D with nx := N, ct := N, bk := D.nx } σ2 H2) := by
  refine ⟨fun i m σ H => m = n - i ∧ i ≤ n ∧ Pv i σ H, ⟨n, by simp, Nat.zero_le _, h0⟩, ?_⟩
  rintro i m σ H ⟨rfl, hi, p⟩
  by_cases hlt : i < n
  · refine .inr ⟨hlt, Pv (i + 1), fun σ' H' p' => ⟨n - (i + 1), by omega, rfl, hlt, p'⟩, fun x H' y => ?_⟩
    obtain ⟨e, y⟩ := y
    subst e y
    exact hs i σ _ hlt p
  · have e : i = n := by omega
    subst e
    exact .inl ⟨Nat.le_refl _, hd σ H p⟩
/-- while, by a word and a measure of the state -/
theorem while_by {c : TT} {tb : TS} {D : Ends} {σ : St} {H : Hp} (Pv : St → Hp → Prop) (μ : St → Hp → Nat) (h0 : Pv σ H)
    (hs : ∀ σ H, Pv σ H → c σ H fun b H1 => if b = true then tb { D with nx := fun σ' H' => Pv σ' H' ∧ μ σ' H' < μ σ H, ct := fun σ' H' => Pv σ' H' ∧ μ σ' H' < μ σ H, bk := D.nx } σ H1 else D.nx σ H1)
    (mono : ∀ σ H Q Q', (∀ b H1, Q b H1 → Q' b H1) → c σ H Q → c σ H Q') : tWhile c tb D σ H := by
  refine ⟨fun m σ H => m = μ σ H ∧ Pv σ H, ⟨_, rfl, h0⟩, ?_⟩
  rintro m σ H ⟨rfl, p⟩
  refine mono σ H _ _ (fun b H1 q => ?_) (hs σ H p)
  cases b with
  | true => exact ⟨_, fun σ' H' ⟨p', l⟩ => ⟨_, l, rfl, p'⟩, q⟩
  | false => exact q
end L2

namespace L2
open PySem PySem.Spec PyProof.Rows

abbrev R2 := V → V → Hp → VK → Prop
/-- a two-place operation on values: f is binaryOp op, inplaceOp op or compareOp op -/
def OpR (X : Cx) (f : Value → Value → Sem Value) (r : R2) : Prop :=
  ∀ (pins : List (Addr × Obj)) (s : Shared) (σ : St) (H : Hp) (x y : V) (v u : Value) (Q : VK), Inv X pins σ H s → RelV x v → RelV y u → r x y H Q →
    wpAny (model X.prog X.w) X.A (f v u) (EP X pins σ Q) X.xe s
/-- a one-place operation -/
def UnR (X : Cx) (f : Value → Sem Value) (r : V → Hp → VK → Prop) : Prop :=
  ∀ (pins : List (Addr × Obj)) (s : Shared) (σ : St) (H : Hp) (x : V) (v : Value) (Q : VK), Inv X pins σ H s → RelV x v → r x H Q →
    wpAny (model X.prog X.w) X.A (f v) (EP X pins σ Q) X.xe s
/-- a call of a value that is known (a builtin, a type) with values -/
def CallR (X : Cx) (f : Value) (r : List V → Hp → VK → Prop) : Prop :=
  ∀ (pins : List (Addr × Obj)) (s : Shared) (σ : St) (H : Hp) (xs : List V) (us : List Value) (Q : VK), Inv X pins σ H s → Vals xs us → r xs H Q →
    wpAny (model X.prog X.w) X.A (call f us) (EP X pins σ Q) X.xe s
/-- a value's truth -/
def TruR (X : Cx) (r : V → Hp → (Bool → Hp → Prop) → Prop) : Prop :=
  ∀ (pins : List (Addr × Obj)) (s : Shared) (σ : St) (H : Hp) (x : V) (v : Value) (Q : Bool → Hp → Prop), Inv X pins σ H s → RelV x v → r x H Q →
    wpAny (model X.prog X.w) X.A (truthy v) (TP X pins σ Q) X.xe s

def tOp (r : R2) (ta tb : TE) : TE := fun σ H Q => ta σ H fun x H1 => tb σ H1 fun y H2 => r x y H2 Q
def tUn (r : V → Hp → VK → Prop) (ta : TE) : TE := fun σ H Q => ta σ H fun x H1 => r x H1 Q
/-- ints in, under C, and a value out -/
def rI (C : Int → Int → Prop) (g : Int → Int → V) : R2 := fun x y H Q => ∃ i j, x = .int i ∧ y = .int j ∧ C i j ∧ Q (g i j) H
def rI0 (g : Int → Int → V) : R2 := fun x y H Q => ∃ i j, x = .int i ∧ y = .int j ∧ Q (g i j) H
def rU (g : Int → V) : V → Hp → VK → Prop := fun x H Q => ∃ i, x = .int i ∧ Q (g i) H

section
variable {X : Cx} {a b c : Expr} {ta tb tc : TE} {pos : Pos}

theorem binT (ha : PE X a ta) (hb : PE X b tb) {pins : List (Addr × Obj)} {s : Shared} {σ : St} {H : Hp} {R : V → V → Hp → Prop} (I : Inv X pins σ H s)
    (h : ta σ H fun x H1 => tb σ H1 fun y H2 => R x y H2) {Q : Value → Shared → Prop} {f : Value → Value → Sem Value}
    (hf : ∀ v u s2 x y H2, Inv X pins σ H2 s2 → RelV x v → RelV y u → R x y H2 → wpAny (model X.prog X.w) X.A (f v u) Q X.xe s2) :
    wpAny (model X.prog X.w) X.A (eval a X.env) (fun v s₁ => wpAny (model X.prog X.w) X.A (eval b X.env) (fun u s₂ => wpAny (model X.prog X.w) X.A (f v u) Q X.xe s₂) X.xe s₁) X.xe s := by
  refine thn (ha pins s σ H _ I h) fun v s1 ⟨x, H1, I1, r1, q1⟩ => ?_
  refine thn (hb pins s1 σ H1 _ I1 q1) fun u s2 ⟨y, H2, I2, r2, q2⟩ => ?_
  exact hf v u s2 x y H2 I2 r1 r2 q2

theorem pe_op {op : Operator} {r : R2} (ho : OpR X (binaryOp op) r) (ha : PE X a ta) (hb : PE X b tb) : PE X (.BinOp a op b pos) (tOp r ta tb) := by
  intro pins s σ H Q I h
  exact wpAny_BinOp (binT ha hb I h fun v u s2 x y H2 I2 rx ry q => ho pins s2 σ H2 x y v u Q I2 rx ry q)
theorem pe_un {op : UnaryOp} {r : V → Hp → VK → Prop} (ho : UnR X (unaryOp op) r) (ha : PE X a ta) : PE X (.UnaryOp op a pos) (tUn r ta) := by
  intro pins s σ H Q I h
  exact UnaryOp_ (thn (ha pins s σ H _ I h) fun v s1 ⟨x, H1, I1, r1, q1⟩ => ho pins s1 σ H1 x v Q I1 r1 q1)
/-- a op= e at a name: the name's slot i -/
theorem augR {op : Operator} {r : R2} (ho : OpR X (inplaceOp op) r) {pins : List (Addr × Obj)} {s : Shared} {σ : St} {H : Hp} {x y : V} {v u : Value} {Q : VK} (I : Inv X pins σ H s)
    (rx : RelV x v) (ry : RelV y u) (q : r x y H Q) : wpAny (model X.prog X.w) X.A (inplaceOp op v u) (EP X pins σ Q) X.xe s := ho pins s σ H x y v u Q I rx ry q

/-! ### ints -/
theorem opI {f : Value → Value → Sem Value} {C : Int → Int → Prop} {g : Int → Int → Int}
    (rule : ∀ (i j : Int) (t u : Tok) (s : Shared) (Q : Value → Shared → Prop) (E : Value → Shared → Prop), C i j → Q (.int (g i j) s.toks) { s with toks := s.toks + 1 } → wpAny (model X.prog X.w) X.A (f (.int i t) (.int j u)) Q E s) :
    OpR X f (rI C fun i j => .int (g i j)) := by
  intro pins s σ H x y v u Q I rx ry h
  obtain ⟨i, j, rfl, rfl, hc, q⟩ := h
  obtain ⟨t, rfl⟩ := rx
  obtain ⟨t', rfl⟩ := ry
  exact rule i j t t' s _ _ hc ⟨.int (g i j), H, I.tok _, ⟨_, rfl⟩, q⟩
theorem opI0 {f : Value → Value → Sem Value} {g : Int → Int → Int}
    (rule : ∀ (i j : Int) (t u : Tok) (s : Shared) (Q : Value → Shared → Prop) (E : Value → Shared → Prop), Q (.int (g i j) s.toks) { s with toks := s.toks + 1 } → wpAny (model X.prog X.w) X.A (f (.int i t) (.int j u)) Q E s) :
    OpR X f (rI0 fun i j => .int (g i j)) := by
  intro pins s σ H x y v u Q I rx ry h
  obtain ⟨i, j, rfl, rfl, q⟩ := h
  obtain ⟨t, rfl⟩ := rx
  obtain ⟨t', rfl⟩ := ry
  exact rule i j t t' s _ _ ⟨.int (g i j), H, I.tok _, ⟨_, rfl⟩, q⟩
theorem opB0 {f : Value → Value → Sem Value} {g : Int → Int → Bool}
    (rule : ∀ (i j : Int) (t u : Tok) (s : Shared) (Q : Value → Shared → Prop) (E : Value → Shared → Prop), Q (.bool (g i j)) s → wpAny (model X.prog X.w) X.A (f (.int i t) (.int j u)) Q E s) :
    OpR X f (rI0 fun i j => .bl (g i j)) := by
  intro pins s σ H x y v u Q I rx ry h
  obtain ⟨i, j, rfl, rfl, q⟩ := h
  obtain ⟨t, rfl⟩ := rx
  obtain ⟨t', rfl⟩ := ry
  exact rule i j t t' s _ _ ⟨.bl (g i j), H, I, rfl, q⟩

def CDiv (i j : Int) : Prop := 0 < j ∧ j < 1073741824
def CDivN (i j : Int) : Prop := j ≠ 0 ∧ j.natAbs < 1073741824
def CPow (i j : Int) : Prop := 0 ≤ j ∧ j ≤ 1000000 ∧ i.natAbs < 2 ^ 64
def CMul (i j : Int) : Prop := (-(2 ^ 64) < i ∧ i < 2 ^ 64) ∨ (-(2 ^ 64) < j ∧ j < 2 ^ 64)
theorem CMul.ok {i j : Int} (h : CMul i j) : IntMulOk i j := by
  rcases h with ⟨h1, h2⟩ | ⟨h1, h2⟩
  · exact .of_left (intBits_le_64 h1 h2)
  · exact .of_right (intBits_le_64 h1 h2)
theorem two_pow_nn (k : Nat) : (0 : Int) ≤ 2 ^ k := by
  rw [two_pow_cast]
  exact Int.natCast_nonneg _

theorem op_add : OpR X (binaryOp .Add) (rI0 fun i j => .int (i + j)) := opI0 fun _ _ _ _ _ _ _ q => add_int q
theorem op_sub : OpR X (binaryOp .Sub) (rI0 fun i j => .int (i - j)) := opI0 fun _ _ _ _ _ _ _ q => sub_int q
theorem op_mul : OpR X (binaryOp .Mult) (rI CMul fun i j => .int (i * j)) := opI fun _ _ _ _ _ _ _ hc q => mul_int q hc.ok
/-- // by a positive divisor -/
theorem op_fdiv : OpR X (binaryOp .FloorDiv) (rI CDiv fun i j => .int (i / j)) := opI fun i j _ _ _ _ _ hc q => by
  have h1 : (0 : Int) < j := hc.1
  have h2 : j < 1073741824 := hc.2
  exact floordiv_int (by omega) (by rw [Int.fdiv_eq_ediv_of_nonneg i (by omega)]; exact q) (.inl (PyProof.noPylong_small (by omega)))
theorem op_fdivN : OpR X (binaryOp .FloorDiv) (rI CDivN fun i j => .int (i.fdiv j)) := opI fun _ _ _ _ _ _ _ hc q => floordiv_int hc.1 q (.inl (PyProof.noPylong_small hc.2))
/-- % by a positive divisor of any size -/
theorem op_mod : OpR X (binaryOp .Mod) (rI (fun _ j => 0 < j) fun i j => .int (i % j)) := opI fun i j _ _ _ _ _ hc q => by
  have h1 : (0 : Int) < j := hc
  exact mod_int' (by omega) (by rw [Int.fmod_eq_emod_of_nonneg i (by omega)]; exact q)
theorem op_modN : OpR X (binaryOp .Mod) (rI (fun _ j => j ≠ 0) fun i j => .int (i.fmod j)) := opI fun _ _ _ _ _ _ _ hc q => mod_int' hc q
theorem op_pow : OpR X (binaryOp .Pow) (rI CPow fun i j => .int (i ^ j.toNat)) := opI fun _ _ _ _ _ _ _ hc q => pow_int_small hc.1 hc.2.1 hc.2.2 q
theorem op_shl : OpR X (binaryOp .LShift) (rI CPow fun i j => .int (i * 2 ^ j.toNat)) := opI fun _ _ _ _ _ _ _ hc q => lshift_int_small hc.1 hc.2.1 hc.2.2 q
theorem op_shr : OpR X (binaryOp .RShift) (rI (fun _ j => 0 ≤ j) fun i j => .int (i / 2 ^ j.toNat)) := opI fun i j _ _ _ _ _ hc q =>
  rshift_int hc (by rw [Int.fdiv_eq_ediv_of_nonneg i (two_pow_nn _)]; exact q)
theorem op_and : OpR X (binaryOp .BitAnd) (rI0 fun i j => .int (Builtin.bitAnd i j)) := opI0 fun _ _ _ _ _ _ _ q => and_int q
theorem op_or : OpR X (binaryOp .BitOr) (rI0 fun i j => .int (Builtin.bitOr i j)) := opI0 fun _ _ _ _ _ _ _ q => or_int q
theorem op_xor : OpR X (binaryOp .BitXor) (rI0 fun i j => .int (Builtin.bitXor i j)) := opI0 fun _ _ _ _ _ _ _ q => xor_int q

theorem iop_add : OpR X (inplaceOp .Add) (rI0 fun i j => .int (i + j)) := opI0 fun _ _ _ _ _ _ _ q => iadd_int q
theorem iop_sub : OpR X (inplaceOp .Sub) (rI0 fun i j => .int (i - j)) := opI0 fun _ _ _ _ _ _ _ q => isub_int q
theorem iop_mul : OpR X (inplaceOp .Mult) (rI CMul fun i j => .int (i * j)) := opI fun _ _ _ _ _ _ _ hc q => imul_int q hc.ok
theorem iop_fdiv : OpR X (inplaceOp .FloorDiv) (rI CDiv fun i j => .int (i / j)) := opI fun i j _ _ _ _ _ hc q => by
  have h1 : (0 : Int) < j := hc.1
  have h2 : j < 1073741824 := hc.2
  exact ifloordiv_int (by omega) (by rw [Int.fdiv_eq_ediv_of_nonneg i (by omega)]; exact q) (.inl (PyProof.noPylong_small (by omega)))
theorem iop_mod : OpR X (inplaceOp .Mod) (rI (fun _ j => 0 < j) fun i j => .int (i % j)) := opI fun i j _ _ _ _ _ hc q => by
  have h1 : (0 : Int) < j := hc
  exact imod_int (by omega) (by rw [Int.fmod_eq_emod_of_nonneg i (by omega)]; exact q)
theorem iop_shl : OpR X (inplaceOp .LShift) (rI CPow fun i j => .int (i * 2 ^ j.toNat)) := opI fun _ _ _ _ _ _ _ hc q => ilshift_int_small hc.1 hc.2.1 hc.2.2 q
theorem iop_shr : OpR X (inplaceOp .RShift) (rI (fun _ j => 0 ≤ j) fun i j => .int (i / 2 ^ j.toNat)) := opI fun i j _ _ _ _ _ hc q =>
  irshift_int hc (by rw [Int.fdiv_eq_ediv_of_nonneg i (two_pow_nn _)]; exact q)
theorem iop_and : OpR X (inplaceOp .BitAnd) (rI0 fun i j => .int (Builtin.bitAnd i j)) := opI0 fun _ _ _ _ _ _ _ q => iand_int q
theorem iop_or : OpR X (inplaceOp .BitOr) (rI0 fun i j => .int (Builtin.bitOr i j)) := opI0 fun _ _ _ _ _ _ _ q => ior_int q
theorem iop_xor : OpR X (inplaceOp .BitXor) (rI0 fun i j => .int (Builtin.bitXor i j)) := opI0 fun _ _ _ _ _ _ _ q => ixor_int q

theorem unI {f : Value → Sem Value} {g : Int → Int}
    (rule : ∀ (i : Int) (t : Tok) (s : Shared) (Q : Value → Shared → Prop) (E : Value → Shared → Prop), Q (.int (g i) s.toks) { s with toks := s.toks + 1 } → wpAny (model X.prog X.w) X.A (f (.int i t)) Q E s) :
    UnR X f (rU fun i => .int (g i)) := by
  intro pins s σ H x v Q I rx h
  obtain ⟨i, rfl, q⟩ := h
  obtain ⟨t, rfl⟩ := rx
  exact rule i t s _ _ ⟨.int (g i), H, I.tok _, ⟨_, rfl⟩, q⟩
theorem un_neg : UnR X (unaryOp .USub) (rU fun i => .int (-i)) := unI fun _ _ _ _ _ q => neg_int q
theorem un_inv : UnR X (unaryOp .Invert) (rU fun i => .int (Builtin.bitNot i)) := unI fun _ _ _ _ _ q => invert_int q

/-! ### bools among ints: n += (a < b) -/
theorem op_add_ib : OpR X (binaryOp .Add) (fun x y H Q => ∃ i k, x = .int i ∧ y = .bl k ∧ Q (.int (i + b2i k)) H) := by
  intro pins s σ H x y v u Q I rx ry h
  obtain ⟨i, k, rfl, rfl, q⟩ := h
  obtain ⟨t, rfl⟩ := rx
  cases ry
  exact add_int_bool ⟨.int (i + b2i k), H, I.tok _, ⟨_, rfl⟩, q⟩
end

/-! ### comparisons -/
/-- the scalars that == tells apart as data does -/
def scal : V → V → Bool
  | .non, .non => true | .non, .int _ => true | .int _, .non => true | .non, .bl _ => true | .bl _, .non => true | .non, .str _ => true | .str _, .non => true
  | .int _, .int _ => true | .bl _, .bl _ => true | .str _, .str _ => true | .byt _, .byt _ => true
  | .int _, .str _ => true | .str _, .int _ => true | .bl _, .str _ => true | .str _, .bl _ => true
  | _, _ => false
def rEq : R2 := fun x y H Q => scal x y = true ∧ Q (.bl (decide (x = y))) H
def rNe : R2 := fun x y H Q => scal x y = true ∧ Q (.bl (!decide (x = y))) H

theorem dec_int {i j : Int} : decide (V.int i = V.int j) = (i == j) := by
  rw [Bool.eq_iff_iff]
  simp
theorem dec_bl {i j : Bool} : decide (V.bl i = V.bl j) = (i == j) := by
  rw [Bool.eq_iff_iff]
  simp
theorem dec_str {i j : Str} : decide (V.str i = V.str j) = (i == j) := by
  rw [Bool.eq_iff_iff]
  simp
theorem dec_byt {i j : Array UInt8} : decide (V.byt i = V.byt j) = (i.toList == j.toList) := by
  rw [Bool.eq_iff_iff]
  cases i
  cases j
  simp

section
variable {X : Cx} {a b c : Expr} {ta tb tc : TE} {pos : Pos}
theorem fin_bl {pins : List (Addr × Obj)} {σ : St} {H : Hp} {s : Shared} {Q : VK} {k k' : Bool} (I : Inv X pins σ H s) (q : Q (.bl k) H) (e : k = k') : EP X pins σ Q (.bool k') s := by
  subst e
  exact ⟨.bl k, H, I, rfl, q⟩
theorem op_eq : OpR X (compareOp .Eq) rEq := by
  intro pins s σ H x y v u Q I rx ry h
  obtain ⟨hs, q⟩ := h
  cases x with
  | non =>
    cases rx
    cases y with
    | non => cases ry; exact PySem.EqNone.eq_none_none (fin_bl I q (by simp))
    | bl j => cases ry; exact PySem.EqNone.eq_none_bool (fin_bl I q (by simp))
    | int j => obtain ⟨t', rfl⟩ := ry; exact PySem.EqNone.eq_none_int (fin_bl I q (by simp))
    | str j => obtain ⟨t', rfl⟩ := ry; exact PySem.EqNone.eq_none_str (fin_bl I q (by simp))
    | _ => exact absurd (show false = true from hs) Bool.false_ne_true
  | bl i =>
    cases rx
    cases y with
    | non => cases ry; exact PySem.EqNone.eq_bool_none (fin_bl I q (by simp))
    | bl j => cases ry; exact eq_bool (fin_bl I q dec_bl)
    | str j => obtain ⟨t', rfl⟩ := ry; exact PySem.EqMixed.eq_bool_str (fin_bl I q (by simp))
    | _ => exact absurd (show false = true from hs) Bool.false_ne_true
  | int i =>
    obtain ⟨t, rfl⟩ := rx
    cases y with
    | non => cases ry; exact PySem.EqNone.eq_int_none (fin_bl I q (by simp))
    | int j => obtain ⟨t', rfl⟩ := ry; exact eq_int (fin_bl I q dec_int)
    | str j => obtain ⟨t', rfl⟩ := ry; exact PySem.EqMixed.eq_int_str (fin_bl I q (by simp))
    | _ => exact absurd (show false = true from hs) Bool.false_ne_true
  | str i =>
    obtain ⟨t, rfl⟩ := rx
    cases y with
    | non => cases ry; exact PySem.EqNone.eq_str_none (fin_bl I q (by simp))
    | bl j => cases ry; exact PySem.EqMixed.eq_str_bool (fin_bl I q (by simp))
    | int j => obtain ⟨t', rfl⟩ := ry; exact PySem.EqMixed.eq_str_int (fin_bl I q (by simp))
    | str j => obtain ⟨t', rfl⟩ := ry; exact eq_str (fin_bl I q dec_str)
    | _ => exact absurd (show false = true from hs) Bool.false_ne_true
  | byt i =>
    obtain ⟨t, rfl⟩ := rx
    cases y with
    | byt j => obtain ⟨t', rfl⟩ := ry; exact PySem.W.eq_bytes (fin_bl I q dec_byt)
    | _ => exact absurd (show false = true from hs) Bool.false_ne_true
  | _ => cases y <;> exact absurd (show false = true from hs) Bool.false_ne_true
theorem op_ne : OpR X (compareOp .NotEq) rNe := by
  intro pins s σ H x y v u Q I rx ry h
  obtain ⟨hs, q⟩ := h
  cases x with
  | non =>
    cases rx
    cases y with
    | non => cases ry; exact PySem.EqNone.ne_none_none (fin_bl I q (by simp))
    | bl j => cases ry; exact PySem.EqNone.ne_none_bool (fin_bl I q (by simp))
    | int j => obtain ⟨t', rfl⟩ := ry; exact PySem.EqNone.ne_none_int (fin_bl I q (by simp))
    | str j => obtain ⟨t', rfl⟩ := ry; exact PySem.EqNone.ne_none_str (fin_bl I q (by simp))
    | _ => exact absurd (show false = true from hs) Bool.false_ne_true
  | bl i =>
    cases rx
    cases y with
    | non => cases ry; exact PySem.EqNone.ne_bool_none (fin_bl I q (by simp))
    | bl j => cases ry; exact ne_bool (fin_bl I q (congrArg not dec_bl))
    | str j => obtain ⟨t', rfl⟩ := ry; exact PySem.EqMixed.ne_bool_str (fin_bl I q (by simp))
    | _ => exact absurd (show false = true from hs) Bool.false_ne_true
  | int i =>
    obtain ⟨t, rfl⟩ := rx
    cases y with
    | non => cases ry; exact PySem.EqNone.ne_int_none (fin_bl I q (by simp))
    | int j => obtain ⟨t', rfl⟩ := ry; exact ne_int (fin_bl I q (congrArg not dec_int))
    | str j => obtain ⟨t', rfl⟩ := ry; exact PySem.EqMixed.ne_int_str (fin_bl I q (by simp))
    | _ => exact absurd (show false = true from hs) Bool.false_ne_true
  | str i =>
    obtain ⟨t, rfl⟩ := rx
    cases y with
    | non => cases ry; exact PySem.EqNone.ne_str_none (fin_bl I q (by simp))
    | bl j => cases ry; exact PySem.EqMixed.ne_str_bool (fin_bl I q (by simp))
    | int j => obtain ⟨t', rfl⟩ := ry; exact PySem.EqMixed.ne_str_int (fin_bl I q (by simp))
    | str j => obtain ⟨t', rfl⟩ := ry; exact ne_str (fin_bl I q (congrArg not dec_str))
    | _ => exact absurd (show false = true from hs) Bool.false_ne_true
  | byt i =>
    obtain ⟨t, rfl⟩ := rx
    cases y with
    | byt j => obtain ⟨t', rfl⟩ := ry; exact PySem.W.ne_bytes (fin_bl I q (congrArg not dec_byt))
    | _ => exact absurd (show false = true from hs) Bool.false_ne_true
  | _ => cases y <;> exact absurd (show false = true from hs) Bool.false_ne_true

theorem op_lt : OpR X (compareOp .Lt) (rI0 fun i j => .bl (decide (i < j))) := opB0 fun _ _ _ _ _ _ _ q => lt_int q
theorem op_le : OpR X (compareOp .LtE) (rI0 fun i j => .bl (decide (i ≤ j))) := opB0 fun _ _ _ _ _ _ _ q => le_int q
theorem op_gt : OpR X (compareOp .Gt) (rI0 fun i j => .bl (decide (j < i))) := opB0 fun _ _ _ _ _ _ _ q => gt_int q
theorem op_ge : OpR X (compareOp .GtE) (rI0 fun i j => .bl (decide (j ≤ i))) := opB0 fun _ _ _ _ _ _ _ q => ge_int q
theorem op_lt_str : OpR X (compareOp .Lt) (fun x y H Q => ∃ i j, x = .str i ∧ y = .str j ∧ Q (.bl (decide (i.cps.toList < j.cps.toList))) H) := by
  intro pins s σ H x y v u Q I rx ry h
  obtain ⟨i, j, rfl, rfl, q⟩ := h
  obtain ⟨t, rfl⟩ := rx
  obtain ⟨t', rfl⟩ := ry
  exact lt_str (fin_bl I q rfl)
/-- the one string within the other -/
theorem op_in_str : OpR X (compareOp .In) (fun x y H Q => ∃ i j, x = .str i ∧ y = .str j ∧ Q (.bl (!(Builtin.Str.occurrences j i 0 j.length 1).isEmpty)) H) := by
  intro pins s σ H x y v u Q I rx ry h
  obtain ⟨i, j, rfl, rfl, q⟩ := h
  obtain ⟨t, rfl⟩ := rx
  obtain ⟨t', rfl⟩ := ry
  exact in_str (fin_bl I q rfl)

/-- is None, is not None: the right side a value none -/
theorem op_isN : OpR X (compareOp .Is) (fun x y H Q => y = .non ∧ Q (.bl (decide (x = .non))) H) := by
  intro pins s σ H x y v u Q I rx ry h
  obtain ⟨rfl, q⟩ := h
  cases ry
  refine is_none_gen (fin_bl I q ?_)
  cases x <;> first
    | (cases rx; rfl)
    | (obtain ⟨t, rfl⟩ := rx; rfl)
theorem op_notN : OpR X (compareOp .IsNot) (fun x y H Q => y = .non ∧ Q (.bl (!decide (x = .non))) H) := by
  intro pins s σ H x y v u Q I rx ry h
  obtain ⟨rfl, q⟩ := h
  cases ry
  refine isnot_none_gen (fin_bl I q ?_)
  cases x <;> first
    | (cases rx; rfl)
    | (obtain ⟨t, rfl⟩ := rx; rfl)

theorem op_notin_str : OpR X (compareOp .NotIn) (fun x y H Q => ∃ i j, x = .str i ∧ y = .str j ∧ Q (.bl (!(!(Builtin.Str.occurrences j i 0 j.length 1).isEmpty))) H) := by
  intro pins s σ H x y v u Q I rx ry h
  obtain ⟨i, j, rfl, rfl, q⟩ := h
  obtain ⟨t, rfl⟩ := rx
  obtain ⟨t', rfl⟩ := ry
  exact notIn_str (fin_bl I q rfl)
/-- is, is not of two objects that are tracked lists or instances -/
def isObj : HO → Bool
  | .lst _ => true
  | .ins _ _ _ => true
  | _ => false
theorem obj_there {pins : List (Addr × Obj)} {s : Shared} {σ : St} {H : Hp} {a : Addr} {o : HO} (I : Inv X pins σ H s) (h : H a = some o) (p : isObj o = true) : ∃ ob, s.heap.get? a = some ob ∧ ob.cls ≠ .type "tuple" := by
  cases o with
  | lst xs =>
    obtain ⟨_, its, n, _, e⟩ : xs.length ≤ sizeLine ∧ ∃ (its : List Value) (n : Nat), Vals xs its ∧ s.heap.get? a = some { cls := .type "list", data := .seq its.toArray n } := I.hok a _ h
    exact ⟨_, e, (by show Value.type "list" ≠ .type "tuple"; decide +kernel)⟩
  | ins C dx fs =>
    have x := I.hok a _ h
    obtain ⟨_, _, _, e, _⟩ := x
    exact ⟨_, e, (by show Value.ref C ≠ .type "tuple"; exact fun z => by cases z)⟩
  | _ => exact absurd (show false = true from p) Bool.false_ne_true
theorem op_is_ref : OpR X (compareOp .Is) (fun x y H Q => ∃ a b oa ob, x = .ref a ∧ y = .ref b ∧ H a = some oa ∧ isObj oa = true ∧ H b = some ob ∧ isObj ob = true ∧ Q (.bl (decide (a = b))) H) := by
  intro pins s σ H x y v u Q I rx ry h
  obtain ⟨a, b, oa, ob, rfl, rfl, ha, pa, hb, pb, q⟩ := h
  cases rx
  cases ry
  obtain ⟨o1, e1, n1⟩ := obj_there I ha pa
  obtain ⟨o2, e2, _⟩ := obj_there I hb pb
  by_cases z : a = b
  · subst z
    exact wpAny_is_ref_self (fin_bl I q (by simp))
  · exact wpAny_is_ref_other z e1 e2 n1 (fin_bl I q (by simp [z]))
theorem op_isnot_ref : OpR X (compareOp .IsNot) (fun x y H Q => ∃ a b oa ob, x = .ref a ∧ y = .ref b ∧ H a = some oa ∧ isObj oa = true ∧ H b = some ob ∧ isObj ob = true ∧ Q (.bl (!decide (a = b))) H) := by
  intro pins s σ H x y v u Q I rx ry h
  obtain ⟨a, b, oa, ob, rfl, rfl, ha, pa, hb, pb, q⟩ := h
  cases rx
  cases ry
  obtain ⟨o1, e1, n1⟩ := obj_there I ha pa
  obtain ⟨o2, e2, _⟩ := obj_there I hb pb
  by_cases z : a = b
  · subst z
    exact wpAny_isNot_ref_self (fin_bl I q (by simp))
  · exact wpAny_isNot_ref_other z e1 e2 n1 (fin_bl I q (by simp [z]))

/-- two rules for one operation: by cases -/
theorem OpR.or {f : Value → Value → Sem Value} {r r' : R2} (h : OpR X f r) (h' : OpR X f r') : OpR X f (fun x y H Q => r x y H Q ∨ r' x y H Q) := by
  intro pins s σ H x y v u Q I rx ry q
  rcases q with q | q
  · exact h pins s σ H x y v u Q I rx ry q
  · exact h' pins s σ H x y v u Q I rx ry q

theorem nomark (b : Expr) {op : CmpOp} (h : op ≠ .In := by decide) (h2 : op ≠ .NotIn := by decide) : behindInMarks op b = false := by
  have e1 : (op == CmpOp.In) = false := by cases op <;> first | rfl | exact absurd rfl h
  have e2 : (op == CmpOp.NotIn) = false := by cases op <;> first | rfl | exact absurd rfl h2
  cases b <;> simp [behindInMarks, e1, e2]
/-- a comparison as a value; hm: nomark b, or (for in, not in) by with_unfolding_all rfl -/
theorem pe_cmpR {op : CmpOp} {r : R2} (ho : OpR X (compareOp op) r) (ha : PE X a ta) (hb : PE X b tb) (hm : behindInMarks op b = false) : PE X (.Compare a [op] [b] pos) (tOp r ta tb) := by
  intro pins s σ H Q I h
  exact wpAny_Compare1 (binT ha hb I h fun v u s2 x y H2 I2 rx ry q => ho pins s2 σ H2 x y v u Q I2 rx ry q) hm
/-- a reading of a value as a test -/
def tTest (t : TE) : TT := fun σ H Q => t σ H fun x H' => ∃ k, x = .bl k ∧ Q k H'
theorem pt_cmpR {op : CmpOp} {r : R2} (ho : OpR X (compareOp op) r) (ha : PE X a ta) (hb : PE X b tb) (hm : behindInMarks op b = false) : PT X (.Compare a [op] [b] pos) (tTest (tOp r ta tb)) := by
  intro pins s σ H Q I h
  refine wpAny_isTrue_Compare1 (thn (ha pins s σ H _ I h) fun v s1 ⟨x, H1, I1, r1, q1⟩ => thn (hb pins s1 σ H1 _ I1 q1) fun u s2 ⟨y, H2, I2, r2, q2⟩ =>
    thn (ho pins s2 σ H2 x y v u _ I2 r1 r2 q2) fun c s3 ⟨z, H3, I3, r3, k, e, q3⟩ => ?_) hm
  subst e
  cases r3
  exact wpAny_truthy_bool ⟨H3, I3, q3⟩
/-- a op1 b op2 c -/
def tChain (r r' : R2) (ta tb tc : TE) : TE := fun σ H Q => ta σ H fun x H1 => tb σ H1 fun y H2 => r x y H2 fun z H3 => ∃ k, z = .bl k ∧
  (if k = true then tc σ H3 fun w' H4 => r' y w' H4 Q else Q (.bl false) H3)
theorem pe_chain {op op' : CmpOp} {r r' : R2} (ho : OpR X (compareOp op) r) (ho' : OpR X (compareOp op') r') (ha : PE X a ta) (hb : PE X b tb) (hc : PE X c tc)
    (hm : lastMarks [op, op'] [b, c] = false := by with_unfolding_all rfl) : PE X (.Compare a [op, op'] [b, c] pos) (tChain r r' ta tb tc) := by
  intro pins s σ H Q I h
  refine Compare_chain (thn (ha pins s σ H _ I h) fun v s1 ⟨x, H1, I1, r1, q1⟩ => chain_link (thn (hb pins s1 σ H1 _ I1 q1) fun u s2 ⟨y, H2, I2, r2, q2⟩ =>
    thn (ho pins s2 σ H2 x y v u _ I2 r1 r2 q2) fun d s3 ⟨z, H3, I3, r3, k, e, q3⟩ => ?_)) hm
  subst e
  cases r3
  refine wpAny_truthy_bool ?_
  cases k with
  | false => exact ite_ff ⟨.bl false, H3, I3, rfl, q3⟩
  | true => exact ite_tt (chain_last (thn (hc pins s3 σ H3 _ I3 q3) fun w' s4 ⟨z', H4, I4, r4, q4⟩ => ho' pins s4 σ H4 y z' u w' Q I4 r2 r4 q4))
theorem pt_chain {op op' : CmpOp} {r r' : R2} (ho : OpR X (compareOp op) r) (ho' : OpR X (compareOp op') r') (ha : PE X a ta) (hb : PE X b tb) (hc : PE X c tc)
    (hm : lastMarks [op, op'] [b, c] = false := by with_unfolding_all rfl) : PT X (.Compare a [op, op'] [b, c] pos) (tTest (tChain r r' ta tb tc)) := by
  intro pins s σ H Q I h
  refine isTrue_chain (thn (ha pins s σ H _ I h) fun v s1 ⟨x, H1, I1, r1, q1⟩ => test_link (thn (hb pins s1 σ H1 _ I1 q1) fun u s2 ⟨y, H2, I2, r2, q2⟩ =>
    thn (ho pins s2 σ H2 x y v u _ I2 r1 r2 q2) fun d s3 ⟨z, H3, I3, r3, k, e, q3⟩ => ?_)) hm
  subst e
  cases r3
  refine wpAny_truthy_bool ?_
  cases k with
  | false =>
    obtain ⟨k', e', q'⟩ := q3
    cases e'
    exact ite_ff ⟨H3, I3, q'⟩
  | true =>
    refine ite_tt (test_last (thn (hc pins s3 σ H3 _ I3 q3) fun w' s4 ⟨z', H4, I4, r4, q4⟩ => thn (ho' pins s4 σ H4 y z' u w' _ I4 r2 r4 q4) fun d' s5 ⟨z2, H5, I5, r5, k2, e2, q5⟩ => ?_))
    subst e2
    cases r5
    exact wpAny_truthy_bool ⟨H5, I5, q5⟩

/-! ### truth -/
/-- a value's truth by the abstract heap -/
def TruV (K : PySem.W.Frag) (x : V) (H : Hp) (k : Bool) : Prop :=
  match x with
  | .non => k = false
  | .bl b => k = b
  | .int i => k = (i != 0)
  | .str y => y.length ≤ sizeLine ∧ k = ((y.length : Int) != 0)
  | .byt y => y.size ≤ sizeLine ∧ k = ((y.size : Int) != 0)
  | .ref p => (∃ xs, SqL K H p xs ∧ k = !xs.isEmpty) ∨ (∃ xs, SqT K H p xs ∧ k = !xs.isEmpty) ∨ ∃ kvs, H p = some (.dK kvs) ∧ k = !kvs.isEmpty
  | _ => False
theorem isEmpty_kv {κ : Type} {kvs : List (κ × V)} {vs : List (κ × Value)} (r : KV kvs vs) : (!vs.isEmpty) = !kvs.isEmpty := by
  cases r <;> rfl
theorem isEmpty_of {xs : List V} {its : List Value} (r : Vals xs its) : (!its.toArray.isEmpty) = !xs.isEmpty := by
  cases r <;> simp
theorem line63 : (sizeLine : Nat) < 2 ^ 63 := by rw [sizeLine_eq]; decide
theorem tru_ok : TruR X (fun x H Q => ∃ k, TruV X.K x H k ∧ Q k H) := by
  intro pins s σ H x v Q I rx h
  obtain ⟨k, e, q⟩ := h
  have hl := line63
  have hs : sizeLine = 16777216 := sizeLine_eq
  cases x with
  | non =>
    cases rx
    have e' : k = false := e
    subst e'
    exact truthy_none ⟨H, I, q⟩
  | bl b =>
    cases rx
    have e' : k = b := e
    subst e'
    exact wpAny_truthy_bool ⟨H, I, q⟩
  | int i =>
    obtain ⟨t, rfl⟩ := rx
    have e' : k = (i != 0) := e
    subst e'
    exact PySem.P.truthy_int ⟨H, I, q⟩
  | str y =>
    obtain ⟨t, rfl⟩ := rx
    obtain ⟨hy, e'⟩ : y.length ≤ sizeLine ∧ k = ((y.length : Int) != 0) := e
    subst e'
    exact PySem.P.truthy_str (by omega) ⟨H, I.tok _, q⟩
  | byt y =>
    obtain ⟨t, rfl⟩ := rx
    obtain ⟨hy, e'⟩ : y.size ≤ sizeLine ∧ k = ((y.size : Int) != 0) := e
    subst e'
    exact PySem.W.truthy_bytes (by omega) ⟨H, I.tok _, q⟩
  | ref p =>
    cases rx
    have e' : (∃ xs, SqL X.K H p xs ∧ k = !xs.isEmpty) ∨ (∃ xs, SqT X.K H p xs ∧ k = !xs.isEmpty) ∨ ∃ kvs, H p = some (.dK kvs) ∧ k = !kvs.isEmpty := e
    rcases e' with ⟨xs, hx, e'⟩ | ⟨xs, hx, e'⟩ | ⟨kvs, hx, e'⟩
    · subst e'
      obtain ⟨its, r, pl, hz⟩ := I.list hx
      have hlen := r.length
      exact wpAny_truthy_list pl.isList (by simp only [List.size_toArray]; omega) ⟨H, I.tok _, by rw [isEmpty_of r]; exact q⟩
    · subst e'
      obtain ⟨its, r, pl, hz⟩ := I.tuple hx
      have hlen := r.length
      exact truthy_tuple pl (by simp only [List.size_toArray]; omega) ⟨H, I.tok _, by rw [isEmpty_of r]; exact q⟩
    · subst e'
      obtain ⟨hz, hS, vs, r, m⟩ : kvs.length ≤ sizeLine ∧ (p == sysModules) = false ∧ ∃ vs, KV kvs vs ∧ s.heap.DictOf (mixKind X.prog X.w) p vs := I.hok p _ hx
      have hlen : kvs.length = vs.length := Paired.length r
      exact wpAny_truthy_dict hS m (by omega) ⟨H, I.tok _, by rw [isEmpty_kv r]; exact q⟩
  | _ => exact (show False from e).elim
/-- any expression whose test is its value's truth (a name, a call, a subscript, a field ..: he by fun _ => rfl) -/
theorem pt_truth (ha : PE X a ta) (he : ∀ whole, isTrue a X.env whole = (do let v ← whole; standAt a.pos; holding [v] (truthy v))) :
    PT X a (fun σ H Q => ta σ H fun x H' => ∃ k, TruV X.K x H' k ∧ Q k H') := by
  intro pins s σ H Q I h
  exact isTrue_plain (thn (ha pins s σ H _ I h) fun v s1 ⟨x, H1, I1, r1, q1⟩ => tru_ok pins s1 σ H1 x v Q I1 r1 q1) (he _)

/-! ### strs and bytes -/
theorem pe_byt {x : List UInt8} {k : Nat} : PE X (.Constant (.bytes x) k pos) (fun _ H Q => Q (.byt x.toArray) H) := fun _ _ _ H _ I h => PySem.W.Constant_bytes ⟨.byt x.toArray, H, I.tok _, ⟨_, rfl⟩, h⟩
theorem op_add_str : OpR X (binaryOp .Add) (fun x y H Q => ∃ i j, x = .str i ∧ y = .str j ∧ i.length + j.length ≤ sizeLine ∧ Q (.str (i ++ j)) H) := by
  intro pins s σ H x y v u Q I rx ry h
  obtain ⟨i, j, rfl, rfl, hz, q⟩ := h
  obtain ⟨t, rfl⟩ := rx
  obtain ⟨t', rfl⟩ := ry
  exact add_str (fun t' tk => ⟨.str (i ++ j), H, I.tok _, ⟨_, rfl⟩, q⟩) hz
theorem iop_add_str : OpR X (inplaceOp .Add) (fun x y H Q => ∃ i j, x = .str i ∧ y = .str j ∧ i.length + j.length ≤ sizeLine ∧ Q (.str (i ++ j)) H) := by
  intro pins s σ H x y v u Q I rx ry h
  obtain ⟨i, j, rfl, rfl, hz, q⟩ := h
  obtain ⟨t, rfl⟩ := rx
  obtain ⟨t', rfl⟩ := ry
  exact iadd_str (fun t' tk => ⟨.str (i ++ j), H, I.tok _, ⟨_, rfl⟩, q⟩) hz
theorem op_add_byt : OpR X (binaryOp .Add) (fun x y H Q => ∃ i j, x = .byt i ∧ y = .byt j ∧ i.size + j.size ≤ 16777216 ∧ Q (.byt (i ++ j)) H) := by
  intro pins s σ H x y v u Q I rx ry h
  obtain ⟨i, j, rfl, rfl, hz, q⟩ := h
  obtain ⟨t, rfl⟩ := rx
  obtain ⟨t', rfl⟩ := ry
  exact PySem.W.KBy.add_bytes hz (fun t' tk => ⟨.byt (i ++ j), H, I.tok _, ⟨_, rfl⟩, q⟩)

def PlainIxT (b : Expr) : Prop := ∀ o i, subscripted b false o i = operate [o, i] (getItem o i)
/-- s[i], 0 ≤ i < len -/
theorem pe_item_str (ha : PE X a ta) (hb : PE X b tb) (hs : PlainIxT b) :
    PE X (.Subscript a b pos) (tOp (fun x y H Q => ∃ z i c, x = .str z ∧ y = .int i ∧ 0 ≤ i ∧ i < 2 ^ 63 ∧ i < z.length ∧ z.cps[i.toNat]? = some c ∧ Q (.str ⟨#[c]⟩) H) ta tb) := by
  intro pins s σ H Q I h
  refine Subscript_ (binT ha hb I h fun v u s2 x y H2 I2 rx ry q => ?_)
  obtain ⟨z, i, c, rfl, rfl, h0, h63, h1, hc, q⟩ := q
  obtain ⟨t, rfl⟩ := rx
  obtain ⟨t', rfl⟩ := ry
  have e : seqIndex? i z.length = some i.toNat := PySem.StrLaws.seqIndex_nonneg h0 h1
  exact tail_any (typeIs_str s2 z t) slot_str_getitem.lookup (getItem_str (c := c) (by
    have e1 : decide (i < -(2 ^ 63 : Int)) = false := decide_eq_false (by omega)
    have e2 : decide (i ≥ 2 ^ 63) = false := decide_eq_false (by omega)
    rw [e1, e2] <;> rfl) (by rw [e]; exact hc) ⟨.str ⟨#[c]⟩, H2, I2.tok _, ⟨_, rfl⟩, q⟩) (hs _ _)
/-- b[i], 0 ≤ i < len -/
theorem pe_item_byt (ha : PE X a ta) (hb : PE X b tb) (hs : PlainIxT b) :
    PE X (.Subscript a b pos) (tOp (fun x y H Q => ∃ (z : List UInt8) (i : Int), x = .byt z.toArray ∧ y = .int i ∧ z.length ≤ sizeLine ∧ 0 ≤ i ∧ i < z.length ∧ Q (.int ((z.getD i.toNat 0).toNat : Nat)) H) ta tb) := by
  intro pins s σ H Q I h
  refine Subscript_ (binT ha hb I h fun v u s2 x y H2 I2 rx ry q => ?_)
  obtain ⟨z, i, rfl, rfl, hz, h0, h1, q⟩ := q
  obtain ⟨t, rfl⟩ := rx
  obtain ⟨t', rfl⟩ := ry
  have hl : sizeLine = 16777216 := sizeLine_eq
  exact tail_any (PySem.W.typeIs_bytes s2 z.toArray t) PySem.W.FB.slot_bytes_getitem.lookup (PySem.W.getItem_bytes (by omega) h0 h1 ⟨.int ((z.getD i.toNat 0).toNat : Nat), H2, I2.tok _, ⟨_, rfl⟩, q⟩) (hs _ _)

/-! ### scalar builtins, by CallR -/
theorem vals1 {x : V} {us : List Value} (r : Vals [x] us) : ∃ u, us = [u] ∧ RelV x u := by
  cases r with
  | cons r1 r2 => cases r2; exact ⟨_, rfl, r1⟩
theorem vals2 {x y : V} {us : List Value} (r : Vals [x, y] us) : ∃ u w', us = [u, w'] ∧ RelV x u ∧ RelV y w' := by
  cases r with
  | cons r1 r2 =>
    cases r2 with
    | cons r3 r4 => cases r4; exact ⟨_, _, rfl, r1, r3⟩
theorem call_abs : CallR X (.builtin "abs") (fun xs H Q => ∃ i, xs = [.int i] ∧ Q (.int (if i < 0 then -i else i)) H) := by
  intro pins s σ H xs us Q I r h
  obtain ⟨i, rfl, q⟩ := h
  obtain ⟨u, rfl, t, rfl⟩ := vals1 r
  exact call_abs_int fun u tk => ⟨.int (if i < 0 then -i else i), H, I.tok _, ⟨_, rfl⟩, q⟩
theorem call_max2 (hc : X.calm = true) : CallR X (.builtin "max") (fun xs H Q => ∃ i j, xs = [.int i, .int j] ∧ Q (.int (if j > i then j else i)) H) := by
  intro pins s σ H xs us Q I r h
  obtain ⟨i, j, rfl, q⟩ := h
  obtain ⟨u, w', rfl, ⟨t, rfl⟩, ⟨t', rfl⟩⟩ := vals2 r
  refine max_two_ints (I.ok.hd hc) fun h' tk k => ⟨_, H, I.kept k, ?_, q⟩
  by_cases hj : j > i
  · rw [if_pos hj, if_pos hj]; exact ⟨_, rfl⟩
  · rw [if_neg hj, if_neg hj]; exact ⟨_, rfl⟩
theorem call_min2 (hc : X.calm = true) : CallR X (.builtin "min") (fun xs H Q => ∃ i j, xs = [.int i, .int j] ∧ Q (.int (if j < i then j else i)) H) := by
  intro pins s σ H xs us Q I r h
  obtain ⟨i, j, rfl, q⟩ := h
  obtain ⟨u, w', rfl, ⟨t, rfl⟩, ⟨t', rfl⟩⟩ := vals2 r
  refine min_two_ints (I.ok.hd hc) fun h' tk k => ⟨_, H, I.kept k, ?_, q⟩
  by_cases hj : j < i
  · rw [if_pos hj, if_pos hj]; exact ⟨_, rfl⟩
  · rw [if_neg hj, if_neg hj]; exact ⟨_, rfl⟩
theorem call_int1 : CallR X (.type "int") (fun xs H Q => (∃ i, xs = [.int i] ∧ Q (.int i) H) ∨ ∃ k, xs = [.bl k] ∧ Q (.int (if k then 1 else 0)) H) := by
  intro pins s σ H xs us Q I r h
  rcases h with ⟨i, rfl, q⟩ | ⟨k, rfl, q⟩
  · obtain ⟨u, rfl, t, rfl⟩ := vals1 r
    exact call_int_int ⟨.int i, H, I, ⟨_, rfl⟩, q⟩
  · obtain ⟨u, rfl, r1⟩ := vals1 r
    cases r1
    exact call_int_bool ⟨.int (if k then 1 else 0), H, I.tok _, ⟨_, rfl⟩, q⟩
theorem call_bool1 : CallR X (.type "bool") (fun xs H Q => (∃ i, xs = [.int i] ∧ Q (.bl (i != 0)) H) ∨ ∃ k, xs = [.bl k] ∧ Q (.bl k) H) := by
  intro pins s σ H xs us Q I r h
  rcases h with ⟨i, rfl, q⟩ | ⟨k, rfl, q⟩
  · obtain ⟨u, rfl, t, rfl⟩ := vals1 r
    exact call_bool_int ⟨.bl (i != 0), H, I, rfl, q⟩
  · obtain ⟨u, rfl, r1⟩ := vals1 r
    cases r1
    exact call_bool_bool ⟨.bl k, H, I, rfl, q⟩
theorem call_str_int : CallR X (.type "str") (fun xs H Q => ∃ i, xs = [.int i] ∧ i.natAbs.log2 < 1920 ∧ Q (.str (toString i)) H) := by
  intro pins s σ H xs us Q I r h
  obtain ⟨i, rfl, hz, q⟩ := h
  obtain ⟨u, rfl, t, rfl⟩ := vals1 r
  exact PySem.P.str_of_int hz ⟨.str _, H, I.tok _, ⟨_, rfl⟩, q⟩
theorem call_ord : CallR X (.builtin "ord") (fun xs H Q => ∃ x, xs = [.str x] ∧ x.length = 1 ∧ Q (.int (x.cps.getD 0 0 : Nat)) H) := by
  intro pins s σ H xs us Q I r h
  obtain ⟨x, rfl, hz, q⟩ := h
  obtain ⟨u, rfl, t, rfl⟩ := vals1 r
  exact ord_of_one hz ⟨.int _, H, I.tok _, ⟨_, rfl⟩, q⟩
theorem call_chr : CallR X (.builtin "chr") (fun xs H Q => ∃ i, xs = [.int i] ∧ 0 ≤ i ∧ i ≤ 1114111 ∧ Q (.str ⟨#[i.toNat]⟩) H) := by
  intro pins s σ H xs us Q I r h
  obtain ⟨i, rfl, h0, h1, q⟩ := h
  obtain ⟨u, rfl, t, rfl⟩ := vals1 r
  exact chr_of_range h0 h1 ⟨.str _, H, I.tok _, ⟨_, rfl⟩, q⟩
/-- len of a str, a bytes, a list, a tuple -/
def LenV (K : PySem.W.Frag) (x : V) (H : Hp) (n : Nat) : Prop :=
  match x with
  | .str y => y.length ≤ sizeLine ∧ n = y.length
  | .byt y => y.size ≤ sizeLine ∧ n = y.size
  | .ref p => (∃ xs, SqL K H p xs ∧ n = xs.length) ∨ ∃ xs, SqT K H p xs ∧ n = xs.length
  | _ => False
theorem call_len : CallR X (.builtin "len") (fun xs H Q => ∃ x n, xs = [x] ∧ LenV X.K x H n ∧ Q (.int n) H) := by
  intro pins s σ H xs us Q I r h
  obtain ⟨x, n, rfl, e, q⟩ := h
  obtain ⟨u, rfl, rx⟩ := vals1 r
  have hl := line63
  have hs : sizeLine = 16777216 := sizeLine_eq
  cases x with
  | str y =>
    obtain ⟨t, rfl⟩ := rx
    obtain ⟨hy, e'⟩ : y.length ≤ sizeLine ∧ n = y.length := e
    subst e'
    exact len_str (by omega) ⟨.int _, H, I.tok _, ⟨_, rfl⟩, q⟩
  | byt y =>
    obtain ⟨t, rfl⟩ := rx
    obtain ⟨hy, e'⟩ : y.size ≤ sizeLine ∧ n = y.size := e
    subst e'
    exact PySem.W.len_bytes (by omega) ⟨.int _, H, I.tok _, ⟨_, rfl⟩, q⟩
  | ref p =>
    cases rx
    have e' : (∃ xs, SqL X.K H p xs ∧ n = xs.length) ∨ ∃ xs, SqT X.K H p xs ∧ n = xs.length := e
    rcases e' with ⟨xs, hx, e'⟩ | ⟨xs, hx, e'⟩
    · subst e'
      obtain ⟨its, r', pl, hz⟩ := I.list hx
      have hlen := r'.length
      exact Calls.call_len_list pl.isList (by simp only [List.size_toArray]; omega) ⟨.int xs.length, H, I.tok _, ⟨_, by simp only [List.size_toArray]; rw [hlen]⟩, q⟩
    · subst e'
      obtain ⟨its, r', pl, hz⟩ := I.tuple hx
      have hlen := r'.length
      exact len_tuple pl (by simp only [List.size_toArray]; omega) ⟨.int xs.length, H, I.tok _, ⟨_, by simp only [List.size_toArray]; rw [hlen]⟩, q⟩
  | _ => exact (show False from e).elim
/-- divmod: a new tuple -/
theorem call_divmod : CallR X (.builtin "divmod") (fun xs H Q => ∃ i j, xs = [.int i, .int j] ∧ CDiv i j ∧ ∀ p, H p = none → Q (.ref p) (upd H p (.tup [.int (i / j), .int (i % j)]))) := by
  intro pins s σ H xs us Q I r h
  obtain ⟨i, j, rfl, ⟨h1, h2⟩, q⟩ := h
  obtain ⟨u, w', rfl, ⟨t, rfl⟩, ⟨t', rfl⟩⟩ := vals2 r
  refine divmod_int (by omega) ?_ (.inl (PyProof.noPylong_small (by omega)))
  rw [Int.fdiv_eq_ediv_of_nonneg i (by omega), Int.fmod_eq_emod_of_nonneg i (by omega)]
  have hn : H s.heap.objs.size = none := I.hok.fresh (Nat.le_refl _)
  refine ⟨.ref s.heap.objs.size, _, ?_, rfl, q _ hn⟩
  refine I.laid (fun b o e => Heap.get?_push_of_some _ e) (Nat.le_refl _) ⟨by simp only [List.length_cons, List.length_nil]; rw [sizeLine_eq]; decide, [.int (i / j) s.toks, .int (i % j) (s.toks + 1)], .cons ⟨_, rfl⟩ (.cons ⟨_, rfl⟩ .nil), ?_⟩
  exact ⟨_, Heap.get?_push_size s.heap rfl, rfl, 0, rfl⟩
end
end L2

namespace L2
open PySem PySem.Spec PyProof.Rows

/-! ### an instance, its attributes a map -/
structure ObjM (h : Heap) (x dx C : Addr) (mA : Str → Option Value) : Prop where
  obj : h.get? x = some (PySem.W.instObj C dx)
  ns : h.Ns1 dx mA
  ne : dx ≠ x

theorem lookIn_ns {h : Heap} {dx : Addr} {mA : Str → Option Value} (n : h.Ns1 dx mA) : ∃ od, h.get? dx = some od ∧ ∀ name, PySem.W.lookIn name od = some (mA name) := by
  obtain ⟨o, es, ep, ho, hd, hk, _, hm⟩ := n
  refine ⟨o, ho, fun name => ?_⟩
  have e := hm name
  unfold nsFind findBy at e
  rw [← Array.find?_toList] at e
  unfold PySem.W.lookIn
  rw [hd]
  dsimp only
  split
  · rename_i y q
    rw [q] at e
    exact congrArg some e
  · rename_i q
    rw [q] at e
    have a : es.toList.any (·.refKey) = false := by
      rw [List.any_eq_false]
      intro y hy
      obtain ⟨z, t, hkey⟩ := hk y (Array.mem_toList_iff.mp hy)
      simp [DictEntry.refKey, hkey]
    have a' : ¬ es.toList.any (·.refKey) = true := by rw [a]; exact Bool.false_ne_true
    rw [if_neg a']
    exact congrArg some e

theorem ObjM.look {h : Heap} {x dx C : Addr} {mA : Str → Option Value} (I : ObjM h x dx C mA) : ∃ od, PySem.W.InstAt h x (PySem.W.instObj C dx) C (some od) ∧ ∀ name, PySem.W.lookIn name od = some (mA name) :=
  let ⟨od, ho, hl⟩ := lookIn_ns I.ns
  ⟨od, ⟨I.obj, rfl, rfl, ho⟩, hl⟩

section
variable {prog : Program} {w : World} {A : Around} {E : Value → Shared → Prop} {s : Shared} {K : PySem.W.Frag} {x dx C f : Addr} {mA : Str → Option Value} {name : Str} {v : Value}

theorem get_map {expr : Bool} {Q : Value → Shared → Prop} (X : K.In s.heap) (I : ObjM s.heap x dx C mA) (hg : PySem.W.plainGet K C name = true) (hh : PySem.W.hasDictIn K C = true)
    (ha : PySem.W.findIn K (.ref C) name = some none) (hv : mA name = some v) (hv' : PySem.W.handedIn v = true) (h : Q v { s with toks := s.toks + 1 }) :
    wpAny (model prog w) A (getAttr (.ref x) name expr) Q E s := by
  obtain ⟨od, J, hl⟩ := I.look
  exact PySem.W.get_value X J (PySem.W.plainGet_of hg).1 (PySem.W.findObj_own hh ha rfl (by rw [hl, hv])) hv' h

theorem get_const {expr : Bool} {a : Value} {Q : Value → Shared → Prop} (X : K.In s.heap) (I : ObjM s.heap x dx C mA) (hg : PySem.W.plainGet K C name = true) (hh : PySem.W.hasDictIn K C = true)
    (ha : PySem.W.findIn K (.ref C) name = some (some a)) (hn : PySem.W.specialIn K a "__get__" = some none) (hc : PySem.W.copiedNames.contains name = false) (hv : mA name = none) (hv' : PySem.W.handedIn a = true)
    (h : Q a { s with toks := s.toks + 1 }) : wpAny (model prog w) A (getAttr (.ref x) name expr) Q E s := by
  obtain ⟨od, J, hl⟩ := I.look
  exact PySem.W.get_value X J (PySem.W.plainGet_of hg).1 (PySem.W.findObj_cls hh ha hn hv' hc (by rw [hl, hv])) hv' h

theorem get_meth {pl : Sem Bool} {Q : Value × List Value → Shared → Prop} (X : K.In s.heap) (I : ObjM s.heap x dx C mA) (hg : PySem.W.plainGet K C name = true)
    (hf : PySem.W.findIn K (.ref C) name = some (some (.ref f))) (ht : PySem.W.isFn K (.ref f) = true) (hv : mA name = none) (h : Q (.ref f, [.ref x]) s) :
    wpAny (model prog w) A (getMethod (.ref x) name pl) Q E s := by
  obtain ⟨od, J, hl⟩ := I.look
  exact PySem.W.method_fn X J (PySem.W.plainGet_of hg).1 (PySem.W.plainGet_of hg).2 hf (beq_iff_eq.mp ht) (by show (PySem.W.lookIn name od).map (·.isSome) = some false; rw [hl, hv]; rfl) h

theorem set_map {ns : List Str} {Q : Unit → Shared → Prop} (X : K.In s.heap) (I : ObjM s.heap x dx C mA)
    (hs : PySem.W.findIn K (.ref C) "__setattr__" = some (some (.builtin "object.__setattr__"))) (hp : PySem.W.plainOver K C = true) (ht : PySem.W.takerIn K C name = some none) (hh : PySem.W.hasDictIn K C = true)
    (hw : PySem.Within mA ns) (hsz : ns.length ≤ sizeLine)
    (h : ∀ h', ObjM h' x dx C (fun y => if y = name then some v else mA y) → Heap.SameBut dx s.heap h' → Q () { s with heap := h', toks := s.toks + 2 }) :
    wpAny (model prog w) A (setAttr (.ref x) name v) Q E s := by
  obtain ⟨od, J, hl⟩ := I.look
  refine PySem.W.set_plain X J hs (PySem.W.osa_open (s := { s with toks := s.toks + 1 }) (r := none) X J hp ht fun b => ?_)
  obtain ⟨cd, hc, hd'⟩ := PySem.W.any_some hh
  have hx : s.heap.get? x = some ⟨.ref C, some dx, .plain, #[]⟩ := I.obj
  refine wpAny_bind (wpAny_pure (wpAny_bind (wpAny_bind (wpAny_loadPart hx (wpAny_bind (PySem.W.Looks.here (s := { s with toks := s.toks + 1 }) (PySem.W.looks_clsIn X hc) ?_))))))
  rw [hd']
  refine wpAny_pure (a := some dx) (wpAny_bind (wpAny_pure (wpAny_bind ?_)))
  refine wpAny_nsSet1 (s := { s with toks := s.toks + 1 }) I.ns fun h' hn2 hs2 => ?_
  obtain ⟨oD, esD, epD, hoD, hdD, hcD⟩ := hn2.count (PySem.Within.cons name v hw)
  refine wpAny_bind (wpAny_lookBehind hoD (by rw [hdD]; exact pastItsLine_dict (Nat.le_trans hcD (by rw [List.length_cons]; omega))) ?_)
  exact wpAny_pure (h _ ⟨(hs2.2 _ (Ne.symm I.ne)).trans I.obj, hn2, I.ne⟩ hs2)

/-- C(..): the dict at the heap's end, the instance behind it; then its __init__ -/
theorem make_map {R : Result → Shared → Prop} {vs : List Value} {kw : List (Str × Value)} (X : K.In s.heap) (hm : PySem.W.makesIn K C = true)
    (hi : PySem.W.findIn K (.ref C) "__init__" = some (some (.ref f))) (hf : PySem.W.typeIn K (.ref f) = some (.type "function"))
    (h : codeAny (model prog w) (A.under (.builtin "type.__call__" ⟨.ref C :: vs, kw⟩)) (.call (.ref f) ⟨.ref (s.heap.objs.size + 1) :: vs, kw⟩) (PySem.W.InitBack (s.heap.objs.size + 1) R)
      { s with heap := (s.heap.push PySem.W.emptyDict).push (PySem.W.instObj C s.heap.objs.size) }) :
    codeAny (model prog w) A (.call (.ref C) ⟨vs, kw⟩) R s := by
  obtain ⟨hh, g, d, t, os⟩ := s
  exact PySem.W.make_core (PySem.W.makes_of X hm) (PySem.W.looks_findIn X hi) (fun self => PySem.W.bind_fn X self hf) (.inl rfl) h
/-- C() where there is no __init__ but object's -/
theorem make_map0 {R : Result → Shared → Prop} (X : K.In s.heap) (hm : PySem.W.makesIn K C = true)
    (hi : PySem.W.findIn K (.ref C) "__init__" = some (some (.builtin "object.__init__")))
    (hb : ∀ self, PySem.W.Looks (model prog w) s.heap (bindSpecial (.builtin "object.__init__") self) (.builtin "object.__init__", [self]))
    (h : codeAny (model prog w) (A.under (.builtin "type.__call__" ⟨[.ref C], []⟩)) (.call (.builtin "object.__init__") ⟨[.ref (s.heap.objs.size + 1)], []⟩) (PySem.W.InitBack (s.heap.objs.size + 1) R)
      { s with heap := (s.heap.push PySem.W.emptyDict).push (PySem.W.instObj C s.heap.objs.size) }) :
    codeAny (model prog w) A (.call (.ref C) ⟨[], []⟩) R s := by
  obtain ⟨hh, g, d, t, os⟩ := s
  exact PySem.W.make_core (PySem.W.makes_of X hm) (PySem.W.looks_findIn X hi) hb (.inr ⟨rfl, rfl⟩) h
end

/-! ### the attributes as a list of pairs -/
def putF (f : Str) (v : V) : List (Str × V) → List (Str × V)
  | [] => [(f, v)]
  | (g, x) :: r => if g = f then (g, v) :: r else (g, x) :: putF f v r
theorem lookup_putF (f g : Str) (v : V) : ∀ fs : List (Str × V), (putF f v fs).lookup g = if g = f then some v else fs.lookup g
  | [] => by
    show List.lookup g [(f, v)] = _
    by_cases h : g = f
    · have hb : (g == f) = true := beq_iff_eq.mpr h
      simp only [List.lookup, hb, if_pos h]
    · have hb : (g == f) = false := beq_eq_false_iff_ne.mpr h
      simp only [List.lookup, hb, if_neg h]
  | (k, x) :: r => by
    have ih := lookup_putF f g v r
    rw [show putF f v ((k, x) :: r) = (if k = f then (k, v) :: r else (k, x) :: putF f v r) from rfl]
    by_cases hk : k = f
    · rw [if_pos hk]
      by_cases h : g = k
      · have hb : (g == k) = true := beq_iff_eq.mpr h
        simp only [List.lookup, hb, if_pos (h.trans hk)]
      · have hb : (g == k) = false := beq_eq_false_iff_ne.mpr h
        simp only [List.lookup, hb, if_neg (fun e : g = f => h (e.trans hk.symm))]
    · rw [if_neg hk]
      by_cases h : g = k
      · have hb : (g == k) = true := beq_iff_eq.mpr h
        simp only [List.lookup, hb, if_neg (fun e : g = f => hk (h.symm.trans e))]
      · have hb : (g == k) = false := beq_eq_false_iff_ne.mpr h
        simp only [List.lookup, hb]
        exact ih
theorem keys_putF (f : Str) (v : V) : ∀ fs : List (Str × V), f ∈ (putF f v fs).map (·.1) ∧ ∀ g, g ∈ fs.map (·.1) → g ∈ (putF f v fs).map (·.1)
  | [] => ⟨by simp [putF], fun g h => by simp at h⟩
  | (k, x) :: r => by
    obtain ⟨i1, i2⟩ := keys_putF f v r
    rw [show putF f v ((k, x) :: r) = (if k = f then (k, v) :: r else (k, x) :: putF f v r) from rfl]
    by_cases hk : k = f
    · rw [if_pos hk]
      subst hk
      exact ⟨by simp, fun g h => by simpa using h⟩
    · rw [if_neg hk]
      refine ⟨?_, fun g h => ?_⟩
      · rw [List.map_cons]
        exact List.mem_cons_of_mem _ i1
      · rw [List.map_cons] at h ⊢
        rcases List.mem_cons.mp h with e | e
        · exact List.mem_cons.mpr (.inl e)
        · exact List.mem_cons_of_mem _ (i2 g e)
theorem length_putF (f : Str) (v : V) : ∀ fs : List (Str × V), (putF f v fs).length ≤ fs.length + 1
  | [] => by simp [putF]
  | (k, x) :: r => by
    have ih := length_putF f v r
    rw [show putF f v ((k, x) :: r) = (if k = f then (k, v) :: r else (k, x) :: putF f v r) from rfl]
    by_cases hk : k = f
    · rw [if_pos hk, List.length_cons, List.length_cons]; omega
    · rw [if_neg hk, List.length_cons, List.length_cons]; omega

theorem RelO.some_of {v : V} {o : Option Value} (r : RelO (some v) o) : ∃ u, o = some u ∧ RelV v u := by
  cases o with
  | none => exact (show False from r).elim
  | some u => exact ⟨u, rfl, r⟩
theorem RelO.none_of {o : Option Value} (r : RelO none o) : o = none := by
  cases o with
  | none => rfl
  | some u => exact (show False from r).elim
theorem handed_of {v : V} {u : Value} (r : RelV v u) : PySem.W.handedIn u = true := by
  cases v with
  | non => cases (show u = Value.none from r); rfl
  | bl b => cases (show u = Value.bool b from r); rfl
  | int i => obtain ⟨t, e⟩ := (show ∃ t, u = Value.int i t from r); cases e; rfl
  | str x => obtain ⟨t, e⟩ := (show ∃ t, u = Value.str x t from r); cases e; rfl
  | byt b => obtain ⟨t, e⟩ := (show ∃ t, u = Value.bytes b t from r); cases e; rfl
  | flt b => obtain ⟨t, e⟩ := (show ∃ t, u = Value.float b t from r); cases e; rfl
  | ref a => cases (show u = Value.ref a from r); rfl
  | ty n => cases (show u = Value.type n from r); rfl

section
variable {P : Program} {w : World} {H H' : Hp} {h h' : Heap} {a C dx : Addr} {fs fs' : List (Str × V)}
theorem ins_get (hok : HOk P w H h) (e : H a = some (.ins C dx fs)) : ∃ mA, ObjM h a dx C mA ∧ (∀ f, RelO (fs.lookup f) (mA f)) ∧ PySem.Within mA (fs.map (·.1)) ∧ fs.length ≤ 1000 ∧ H dx = some (.own a) := by
  obtain ⟨d, z, ne, ob, mA, n, r, q⟩ := (show ObjOk P w H h a (.ins C dx fs) from hok a _ e)
  exact ⟨mA, ⟨ob, n, ne⟩, r, q, z, d⟩
end

/-! ### what of the text a class must have -/
structure Cls (K : PySem.W.Frag) (C : Addr) : Prop where
  pg : PySem.W.plainGet K C Str.empty = true
  hd : PySem.W.hasDictIn K C = true
  po : PySem.W.plainOver K C = true
  sa : PySem.W.findIn K (.ref C) "__setattr__" = some (some (.builtin "object.__setattr__"))
theorem Cls.get {K : PySem.W.Frag} {C : Addr} (c : Cls K C) (f : Str) : PySem.W.plainGet K C f = true := c.pg
/-- no class of it has the name -/
def NoAttr (K : PySem.W.Frag) (C : Addr) (f : Str) : Prop := PySem.W.findIn K (.ref C) f = some none
theorem NoAttr.taker {K : PySem.W.Frag} {C : Addr} {f : Str} (n : NoAttr K C f) : PySem.W.takerIn K C f = some none := by
  unfold PySem.W.takerIn
  rw [show PySem.W.findIn K (.ref C) f = some none from n]
  rfl
/-- a constant of the class -/
structure Con (K : PySem.W.Frag) (C : Addr) (f : Str) (v : V) (u : Value) : Prop where
  at_ : PySem.W.findIn K (.ref C) f = some (some u)
  rel : RelV v u
  get : PySem.W.specialIn K u "__get__" = some none
  cp : PySem.W.copiedNames.contains f = false
/-- a method: a plain def of the class or of one above it -/
structure Meth (K : PySem.W.Frag) (C : Addr) (m : Str) (f : Addr) : Prop where
  at_ : PySem.W.findIn K (.ref C) m = some (some (.ref f))
  fn : PySem.W.isFn K (.ref f) = true
  kp : PySem.W.keepIn K (.ref f) = true

section
variable {X : Cx} {pins : List (Addr × Obj)} {σ : St} {H : Hp} {s : Shared} {a C dx : Addr} {fs : List (Str × V)} {f : Str} {v : V} {A : Around} {E : Value → Shared → Prop}

theorem getattr_ok {b : Bool} {Q : Value → Shared → Prop} (I : Inv X pins σ H s) (e : H a = some (.ins C dx fs)) (c : Cls X.K C) (n : NoAttr X.K C f) (l : fs.lookup f = some v)
    (h : ∀ u s', Inv X pins σ H s' → RelV v u → Q u s') : wpAny (model X.prog X.w) A (getAttr (.ref a) f b) Q E s := by
  obtain ⟨mA, O, r, _, _, _⟩ := ins_get I.hok e
  obtain ⟨u, hu, ru⟩ := RelO.some_of (v := v) (o := mA f) (by rw [← l]; exact r f)
  exact get_map I.kIn O (c.get f) c.hd n hu (handed_of ru) (h u _ (I.tok _) ru)

theorem getcon_ok {b : Bool} {u : Value} {Q : Value → Shared → Prop} (I : Inv X pins σ H s) (e : H a = some (.ins C dx fs)) (c : Cls X.K C) (k : Con X.K C f v u) (l : fs.lookup f = none)
    (h : ∀ s', Inv X pins σ H s' → Q u s') : wpAny (model X.prog X.w) A (getAttr (.ref a) f b) Q E s := by
  obtain ⟨mA, O, r, _, _, _⟩ := ins_get I.hok e
  have hn : mA f = none := RelO.none_of (by rw [← l]; exact r f)
  exact get_const I.kIn O (c.get f) c.hd k.at_ k.get k.cp hn (handed_of k.rel) (h _ (I.tok _))

theorem getmeth_ok {m : Str} {g : Addr} {pl : Sem Bool} {Q : Value × List Value → Shared → Prop} (I : Inv X pins σ H s) (e : H a = some (.ins C dx fs)) (c : Cls X.K C) (k : Meth X.K C m g) (l : fs.lookup m = none)
    (h : Q (.ref g, [.ref a]) s) : wpAny (model X.prog X.w) A (getMethod (.ref a) m pl) Q E s := by
  obtain ⟨mA, O, r, _, _, _⟩ := ins_get I.hok e
  have hn : mA m = none := RelO.none_of (by rw [← l]; exact r m)
  exact get_meth I.kIn O (c.get m) k.at_ k.fn hn h

theorem setattr_ok {y : V} {u : Value} {Q : Unit → Shared → Prop} (I : Inv X pins σ H s) (e : H a = some (.ins C dx fs)) (c : Cls X.K C) (n : NoAttr X.K C f) (hl : fs.length < 1000) (ry : RelV y u)
    (h : ∀ s', Inv X pins σ (upd H a (.ins C dx (putF f y fs))) s' → Q () s') : wpAny (model X.prog X.w) A (setAttr (.ref a) f u) Q E s := by
  obtain ⟨mA, O, r, wi, _, ho⟩ := ins_get I.hok e
  have hz : (fs.map (·.1)).length ≤ sizeLine := by rw [List.length_map, sizeLine_eq]; omega
  refine set_map I.kIn O c.sa c.po n.taker c.hd wi hz fun h' O' sb => h _ ?_
  have hd : ∃ o, h'.get? dx = some o := let ⟨o, _, _, e', _⟩ := O'.ns; ⟨o, e'⟩
  refine I.write (x := a) (e := dx) (by rw [e]; exact True.intro) (.inr ho) (fun b q hb z => (sb.2 b hb).trans z) hd ?_
  refine ⟨by rw [upd_ne O.ne]; exact ho, ?_, O.ne, O'.obj, _, O'.ns, fun g => ?_, fun g hg => ?_⟩
  · have := length_putF f y fs; omega
  · show RelO ((putF f y fs).lookup g) (if g = f then some u else mA g)
    rw [lookup_putF]
    by_cases q : g = f
    · rw [if_pos q, if_pos q]; exact ry
    · rw [if_neg q, if_neg q]; exact r g
  · by_cases q : g = f
    · rw [q]; exact (keys_putF f y fs).1
    · refine (keys_putF f y fs).2 g (wi g fun z => hg ?_)
      show (if g = f then some u else mA g) = none
      rw [if_neg q]; exact z

/-- a new instance, tracked, without attributes -/
theorem Inv.made (I : Inv X pins σ H s) : Inv X pins σ (upd (upd H s.heap.objs.size (.own (s.heap.objs.size + 1))) (s.heap.objs.size + 1) (.ins C s.heap.objs.size []))
    { s with heap := (s.heap.push PySem.W.emptyDict).push (PySem.W.instObj C s.heap.objs.size) } := by
  have e1 : (s.heap.push PySem.W.emptyDict).get? s.heap.objs.size = some PySem.W.emptyDict := Heap.get?_push_size s.heap rfl
  have e2 : ((s.heap.push PySem.W.emptyDict).push (PySem.W.instObj C s.heap.objs.size)).get? (s.heap.objs.size + 1) = some (PySem.W.instObj C s.heap.objs.size) := by
    have := Heap.get?_push_size (s.heap.push PySem.W.emptyDict) (o := PySem.W.instObj C s.heap.objs.size) rfl
    rwa [Heap.size_push] at this
  have e3 : (s.heap.push PySem.W.emptyDict).Ns s.heap.objs.size (fun _ => none) := ⟨PySem.W.emptyDict, #[], _, e1, rfl, (fun e he => absurd he (by simp)), fun _ => rfl⟩
  have I1 := I.laid (a := s.heap.objs.size) (o := .own (s.heap.objs.size + 1)) (h' := s.heap.push PySem.W.emptyDict) (t' := s.toks) (fun b u q => Heap.get?_push_of_some _ q) (Nat.le_refl _) ⟨_, e1⟩
  refine I1.laid (a := s.heap.objs.size + 1) (o := .ins C s.heap.objs.size []) (t' := s.toks) (fun b u q => Heap.get?_push_of_some _ q) (Nat.le_of_eq (Heap.size_push _ _)) ?_
  have ne : s.heap.objs.size ≠ s.heap.objs.size + 1 := Nat.ne_of_lt (Nat.lt_succ_self _)
  refine ⟨by rw [upd_ne ne, upd_same], Nat.zero_le _, ne, e2, fun _ => none, (Heap.Ns1.of_empty e3).at fun o q => Heap.get?_push_of_some _ q, fun _ => True.intro, fun y hy => absurd rfl hy⟩

/-- e.f where nothing but the object is asked: through attributeBase (super) and the last hold -/
theorem attr_of {prog : Program} {w : World} {env : Env} {e : Expr} {f : Str} {pos : Pos} {s : Shared} {Q : Value → Shared → Prop} (hb : attributeBase e f env (eval e env) = eval e env)
    (h : wpAny (model prog w) A (eval e env) (fun o s₁ => wpAny (model prog w) A (getAttr o f true) Q E s₁) E s) : wpAny (model prog w) A (eval (.Attribute e f pos) env) Q E s :=
  Attribute_any_ h (by rw [arm_eval_Attribute, hb])
end

/-! ### readings and rules -/
/-- e.f, an attribute of the instance -/
def tFld (K : PySem.W.Frag) (ta : TE) (f : Str) : TE := fun σ H Q => ta σ H fun x H1 => ∃ a C dx fs v, x = .ref a ∧ H1 a = some (.ins C dx fs) ∧ Cls K C ∧ NoAttr K C f ∧ fs.lookup f = some v ∧ Q v H1
/-- e.f, a constant of the class -/
def tCon (K : PySem.W.Frag) (ta : TE) (f : Str) : TE := fun σ H Q => ta σ H fun x H1 => ∃ a C dx fs v u, x = .ref a ∧ H1 a = some (.ins C dx fs) ∧ Cls K C ∧ Con K C f v u ∧ fs.lookup f = none ∧ Q v H1
/-- e.f = value -/
def sFld (K : PySem.W.Frag) (ta tv : TE) (f : Str) : TS := fun D σ H => tv σ H fun y H1 => ta σ H1 fun x H2 => ∃ a C dx fs, x = .ref a ∧ H2 a = some (.ins C dx fs) ∧ Cls K C ∧ NoAttr K C f ∧ fs.length < 1000 ∧
  D.nx σ (upd H2 a (.ins C dx (putF f y fs)))
/-- an augmented operator on two values -/
def InOp (X : Cx) (op : Operator) (rd : V → V → Hp → VK → Prop) : Prop :=
  ∀ (pins : List (Addr × Obj)) (s : Shared) (σ : St) (H : Hp) (x y : V) (u v : Value) (Q : VK), Inv X pins σ H s → RelV x u → RelV y v → rd x y H Q → wpAny (model X.prog X.w) X.A (inplaceOp op u v) (EP X pins σ Q) X.xe s
/-- e.f op= value -/
def sFldAug (K : PySem.W.Frag) (ta tv : TE) (rd : V → V → Hp → VK → Prop) (f : Str) : TS := fun D σ H => ta σ H fun x H1 => ∃ a C dx fs v, x = .ref a ∧ H1 a = some (.ins C dx fs) ∧ Cls K C ∧ NoAttr K C f ∧ fs.lookup f = some v ∧
  tv σ H1 fun y H2 => rd v y H2 fun z H3 => ∃ dx' fs', H3 a = some (.ins C dx' fs') ∧ fs'.length < 1000 ∧ D.nx σ (upd H3 a (.ins C dx' (putF f z fs')))

section
variable {X : Cx} {o e value : Expr} {f : Str} {pos pos' tpos : Pos} {ta tv : TE}
theorem pe_fld (he : PE X e ta) (hb : attributeBase e f X.env (eval e X.env) = eval e X.env) : PE X (.Attribute e f pos) (tFld X.K ta f) := by
  intro pins s σ H Q I h
  refine attr_of hb (thn (he pins s σ H _ I h) fun u s1 ⟨x, H1, I1, rx, a, C, dx, fs, v, ex, ea, c, n, l, q⟩ => ?_)
  subst ex
  obtain rfl : u = Value.ref a := rx
  exact getattr_ok I1 ea c n l fun u' s2 I2 ru => ⟨v, H1, I2, ru, q⟩
theorem pe_con (he : PE X e ta) (hb : attributeBase e f X.env (eval e X.env) = eval e X.env) : PE X (.Attribute e f pos) (tCon X.K ta f) := by
  intro pins s σ H Q I h
  refine attr_of hb (thn (he pins s σ H _ I h) fun u s1 ⟨x, H1, I1, rx, a, C, dx, fs, v, u0, ex, ea, c, k, l, q⟩ => ?_)
  subst ex
  obtain rfl : u = Value.ref a := rx
  exact getcon_ok I1 ea c k l fun s2 I2 => ⟨v, H1, I2, k.rel, q⟩
theorem ps_fld (ha : PE X o ta) (hv : PE X value tv) (hs : swapsWith value (some (.Attribute o f pos')) pos.line X.env = pure false) : PS X (.Assign [.Attribute o f pos'] value pos) (sFld X.K ta tv f) := by
  intro pins s σ H D I h
  refine plainObj_wpAny_Assign_Attribute (thn (hv pins s σ H _ I h) fun u s1 ⟨y, H1, I1, ry, q⟩ => thn (ha pins s1 σ H1 _ I1 q) fun ov s2 ⟨x, H2, I2, rx, a, C, dx, fs, ex, ea, c, n, l, q2⟩ => ?_) hs
  subst ex
  obtain rfl : ov = Value.ref a := rx
  exact setattr_ok I2 ea c n l ry fun s3 I3 => ⟨σ, _, I3, q2⟩
theorem ps_fldaug {op : Operator} {rd : V → V → Hp → VK → Prop} (ha : PE X o ta) (hv : PE X value tv) (hop : InOp X op rd) : PS X (.AugAssign (.Attribute o f tpos) op value pos) (sFldAug X.K ta tv rd f) := by
  intro pins s σ H D I h
  refine wpAny_AugAssign_AttributeAny (thn (ha pins s σ H _ I h) fun ov s1 ⟨x, H1, I1, rx, a, C, dx, fs, v, ex, ea, c, n, l, q⟩ => ?_)
  subst ex
  obtain rfl : ov = Value.ref a := rx
  refine getattr_ok I1 ea c n l fun u s2 I2 ru => thn (hv pins s2 σ H1 _ I2 q) fun w3 s3 ⟨y, H2, I3, ry, q3⟩ => thn (hop pins s3 σ H2 v y u w3 _ I3 ru ry q3) fun w4 s4 ⟨z, H3, I4, rz, dx', fs', ea', l', q4⟩ => ?_
  exact setattr_ok I4 ea' c n l' rz fun s5 I5 => ⟨σ, _, I5, q4⟩
def rAdd : V → V → Hp → VK → Prop := fun x y H Q => ∃ i j, x = .int i ∧ y = .int j ∧ Q (.int (i + j)) H
def rSub : V → V → Hp → VK → Prop := fun x y H Q => ∃ i j, x = .int i ∧ y = .int j ∧ Q (.int (i - j)) H
theorem in_add : InOp X .Add rAdd := by
  rintro pins s σ H x y u v Q I rx ry ⟨i, j, rfl, rfl, q⟩
  obtain ⟨t, rfl⟩ := (show ∃ t, u = Value.int i t from rx)
  obtain ⟨t', rfl⟩ := (show ∃ t', v = Value.int j t' from ry)
  exact PyProof.Rows.iadd_int ⟨.int (i + j), H, I.tok _, ⟨_, rfl⟩, q⟩
theorem in_sub : InOp X .Sub rSub := by
  rintro pins s σ H x y u v Q I rx ry ⟨i, j, rfl, rfl, q⟩
  obtain ⟨t, rfl⟩ := (show ∃ t, u = Value.int i t from rx)
  obtain ⟨t', rfl⟩ := (show ∃ t', v = Value.int j t' from ry)
  exact PyProof.Rows.isub_int ⟨.int (i - j), H, I.tok _, ⟨_, rfl⟩, q⟩

/-- what is between an instance and its method: the tree of a method call -/
theorem methcall_of {pl : Sem Bool} {m : Str} {apos : Pos} {args : List Expr} {pins : List (Addr × Obj)} {s : Shared} {σ : St} {H : Hp} {Q : Value → Shared → Prop} {te : TE} (he : PE X e te) (I : Inv X pins σ H s)
    (h : te σ H fun x H1 => ∃ a C dx fs g, x = .ref a ∧ H1 a = some (.ins C dx fs) ∧ Cls X.K C ∧ Meth X.K C m g ∧ fs.lookup m = none ∧
      ∀ s1, Inv X pins σ H1 s1 → wpAny (model X.prog X.w) X.A (callWith pos (.ref g) [.ref a] (backTo pos (starEach args X.env)) (backToKw pos (keywordEach [] X.env))) Q X.xe s1)
    (ht : eval (.Call (.Attribute e m apos) args [] pos) X.env = (do
      let ov ← eval e X.env
      standAt apos.atName
      let (f, first) ← holding [ov] (getMethod ov m pl)
      callWith pos f first (backTo pos (starEach args X.env)) (backToKw pos (keywordEach [] X.env)))) :
    wpAny (model X.prog X.w) X.A (eval (.Call (.Attribute e m apos) args [] pos) X.env) Q X.xe s := by
  refine PySem.W.methodCall_KW (pl := pl) (thn (he pins s σ H _ I h) fun u s1 ⟨x, H1, I1, rx, a, C, dx, fs, g, ex, ea, c, k, l, q⟩ => ?_) ht
  subst ex
  obtain rfl : u = Value.ref a := rx
  exact getmeth_ok I1 ea c k l (q s1 I1)
end

/-! ### isinstance -/
section
variable {X : Cx} {pins : List (Addr × Obj)} {σ : St} {H : Hp} {s : Shared} {A : Around} {E : Value → Shared → Prop} {Q : Value → Shared → Prop} {c : Value} {b : Bool}
/-- the type of a value, as the fragment's deciders take it; for an instance its class -/
inductive TyOf (K : PySem.W.Frag) (H : Hp) : V → Value → Prop where
  | non : TyOf K H .non (.type "NoneType")
  | bl (x : Bool) : TyOf K H (.bl x) (.type "bool")
  | int (i : Int) : TyOf K H (.int i) (.type "int")
  | str (x : Str) : TyOf K H (.str x) (.type "str")
  | flt (x : UInt64) : TyOf K H (.flt x) (.type "float")
  | lst {a : Addr} {xs : List V} (e : H a = some (.lst xs)) : TyOf K H (.ref a) (.type "list")
  | frz {a : Addr} {o : Obj} {xs : List V} (e : H a = some (.frz o (.lst xs))) : TyOf K H (.ref a) (.type "list")
  | tup {a : Addr} {xs : List V} (e : H a = some (.tup xs)) : TyOf K H (.ref a) (.type "tuple")
  | dK {a : Addr} {kvs : List (Key × V)} (e : H a = some (.dK kvs)) : TyOf K H (.ref a) (.type "dict")
  | dT {a : Addr} {kvs : List (List Key × V)} (e : H a = some (.dT kvs)) : TyOf K H (.ref a) (.type "dict")
  | ins {a C dx : Addr} {fs : List (Str × V)} (e : H a = some (.ins C dx fs)) (cl : Cls K C) (ha : PySem.W.findIn K (.ref C) "__class__" = some (some (.builtin "object.__class__")))
      (hn : PySem.W.specialIn K (.builtin "object.__class__") "__get__" = some (some (.builtin "getset_descriptor.__get__"))) (htk : PySem.W.takesIn K (.builtin "object.__class__") = some true)
      (hm : PySem.W.mroIn K C (.type "object") = some true) : TyOf K H (.ref a) (.ref C)
/-- isinstance(x, c) for one class c, a built-in or an own one: kitOne's answer -/
theorem isinst_ok {x : V} {u t : Value} (I : Inv X pins σ H s) (rx : RelV x u) (ty : TyOf X.K H x t) (e : PySem.W.kitOne X.K t c = some b) (h : ∀ tk, Q (.bool b) { s with toks := tk }) :
    wpAny (model X.prog X.w) A (call (.builtin "isinstance") [u, c]) Q E s := by
  cases ty with
  | non => cases (show u = Value.none from rx); exact PySem.W.kia_one PySem.W.kitx_none I.kIn True.intro e (fun z => nomatch z) h
  | bl y => cases (show u = Value.bool y from rx); exact PySem.W.kia_one PySem.W.kitx_bool I.kIn True.intro e (fun z => nomatch z) h
  | int i => obtain ⟨t, q⟩ := (show ∃ t, u = Value.int i t from rx); cases q; exact PySem.W.kia_one PySem.W.kitx_int I.kIn True.intro e (fun z => nomatch z) h
  | str y => obtain ⟨t, q⟩ := (show ∃ t, u = Value.str y t from rx); cases q; exact PySem.W.kia_one PySem.W.kitx_str I.kIn True.intro e (fun z => nomatch z) h
  | flt y => obtain ⟨t, q⟩ := (show ∃ t, u = Value.float y t from rx); cases q; exact PySem.W.kia_one PySem.W.kitx_float I.kIn True.intro e (fun z => nomatch z) h
  | @lst a xs ea =>
    cases (show u = Value.ref a from rx)
    obtain ⟨_, _, n, _, h1⟩ := (show ObjOk X.prog X.w H s.heap a (.lst xs) from I.hok a _ ea)
    exact PySem.W.kia_one PySem.W.kitx_list I.kIn ⟨_, h1, rfl⟩ e (fun z => nomatch z) h
  | @frz a ob xs ea =>
    cases (show u = Value.ref a from rx)
    obtain ⟨_, _, _, n, _, h1⟩ := (show ObjOk X.prog X.w H s.heap a (.frz ob (.lst xs)) from I.hok a _ ea)
    exact PySem.W.kia_one PySem.W.kitx_list I.kIn ⟨_, h1, rfl⟩ e (fun z => nomatch z) h
  | @tup a xs ea =>
    cases (show u = Value.ref a from rx)
    obtain ⟨_, _, _, p⟩ := (show ObjOk X.prog X.w H s.heap a (.tup xs) from I.hok a _ ea)
    obtain ⟨o, h1, h2, _⟩ := p
    exact PySem.W.kia_one PySem.W.kitx_tuple I.kIn ⟨o, h1, h2⟩ e (fun z => nomatch z) h
  | @dK a kvs ea =>
    cases (show u = Value.ref a from rx)
    obtain ⟨_, _, vs, _, p⟩ := (show ObjOk X.prog X.w H s.heap a (.dK kvs) from I.hok a _ ea)
    obtain ⟨o, es, ep, h1, h2, _⟩ := p
    exact PySem.W.kia_one PySem.W.kitx_dict I.kIn ⟨o, h1, h2.1⟩ e (fun z => nomatch z) h
  | @dT a kvs ea =>
    cases (show u = Value.ref a from rx)
    obtain ⟨_, _, xs, _, o, es, ep, h1, h2, _⟩ := (show ObjOk X.prog X.w H s.heap a (.dT kvs) from I.hok a _ ea)
    exact PySem.W.kia_one PySem.W.kitx_dict I.kIn ⟨o, h1, h2.1⟩ e (fun z => nomatch z) h
  | @ins a C dx fs ea cl ha hn htk hm =>
    cases (show u = Value.ref a from rx)
    obtain ⟨mA, O, _⟩ := ins_get I.hok ea
    obtain ⟨od, J, _⟩ := O.look
    exact PySem.W.kia_one (PySem.W.kitx_own (cl.get _) cl.hd ha hn htk hm) I.kIn J e (fun z => nomatch z) h
end
end L2

namespace L2
open PySem PySem.Spec PyProof.Rows

/-! ### room -/
structure Room (k : Nat) (A : Around) : Prop where
  hd : A.handled = none
  dp : A.depth + 3 * k + 5 < recursionLimit
  un : A.units + 16 * k + 200 < cLine
theorem Room.mono {j k : Nat} {A : Around} (r : Room k A) (h : j ≤ k) : Room j A := ⟨r.hd, by have := r.dp; omega, by have := r.un; omega⟩
theorem Room.deeper {k : Nat} {A : Around} (r : Room (k + 1) A) (env : Env) : Room k (A.deeper env) :=
  ⟨r.hd, by have := r.dp; show A.depth + 1 + 3 * k + 5 < _; omega, by have := r.un; show A.units + 3 + 16 * k + 200 < _; omega⟩
theorem Room.in1 {k : Nat} {A : Around} (r : Room (k + 1) A) : Room k A.in1 :=
  ⟨r.hd, by have := r.dp; show A.depth + 3 * k + 5 < _; omega, by have := r.un; show A.units + 1 + 16 * k + 200 < _; omega⟩
theorem make_depth {A : Around} {C : Addr} {us : List Value} {kw : List (Str × Value)} : (A.under (.builtin "type.__call__" ⟨.ref C :: us, kw⟩)).depth = A.depth + 1 := by
  first | rfl | simp [Around.under, Code.weight, Code.isCreation, Code.isGuard, Code.isCaller, Code.frames, Code.isFrame, guardIds]
theorem make_units {A : Around} {C : Addr} {us : List Value} {kw : List (Str × Value)} : (A.under (.builtin "type.__call__" ⟨.ref C :: us, kw⟩)).units = A.units + 1 := by
  first | rfl | simp [Around.under, Code.cUnits, Code.frames, Code.isFrame]
theorem Room.make {k : Nat} {A : Around} (r : Room (k + 1) A) (C : Addr) (us : List Value) (kw : List (Str × Value)) : Room k (A.under (.builtin "type.__call__" ⟨.ref C :: us, kw⟩)) :=
  ⟨r.hd, by have := r.dp; rw [make_depth]; omega, by have := r.un; rw [make_units]; omega⟩
theorem Room.depth {k : Nat} {A : Around} (r : Room k A) : A.depth < recursionLimit := by have := r.dp; omega
theorem Room.units {k : Nat} {A : Around} (r : Room k A) : A.units + 64 < cLine := by have := r.un; omega
theorem Room.units0 {k : Nat} {A : Around} (r : Room k A) : A.units < cLine := by have := r.un; omega

/-! ### argument lists and displays -/
def tNil : TA := fun _ H Q => Q [] H
def tCons (ta : TE) (tr : TA) : TA := fun σ H Q => ta σ H fun x H1 => tr σ H1 fun xs H2 => Q (x :: xs) H2
section
variable {X : Cx} {e : Expr} {es : List Expr} {te : TE} {t : TA} {pos : Pos}
theorem pa_nil : PA X [] tNil := fun _ _ _ _ H Q I h => Calls.spliced_nil ⟨[], H, I, .nil, h⟩
theorem pa_cons (ha : PE X e te) (hr : PA X es t) (hs : starEach (e :: es) X.env = (false, eval e X.env) :: starEach es X.env := by rfl) : PA X (e :: es) (tCons te t) := by
  intro pos pins s σ H Q I h
  rw [hs]
  show wpAny _ _ (spliced ((false, eval e X.env) :: backTo pos (starEach es X.env))) _ _ s
  refine Calls.spliced_cons (thn (ha pins s σ H _ I h) fun u s1 ⟨x, H1, I1, r1, q1⟩ => ?_)
  exact thn (hr pos pins s1 σ H1 _ I1 q1) fun us s2 ⟨xs, H2, I2, r2, q2⟩ => ⟨x :: xs, H2, I2, .cons r1 r2, q2⟩

/-- a tuple, a list of written items -/
def tTup (t : TA) : TE := fun σ H Q => t σ H fun xs H1 => xs.length ≤ sizeLine ∧ ∀ p, H1 p = none → Q (.ref p) (upd H1 p (.tup xs))
def tLst (t : TA) : TE := fun σ H Q => t σ H fun xs H1 => xs.length ≤ sizeLine ∧ ∀ p, H1 p = none → Q (.ref p) (upd H1 p (.lst xs))
theorem pe_tup {x1} (h : PA X es t) : PE X (.Tuple es x1 pos) (tTup t) := by
  intro pins s σ H Q I hq
  refine wpAny_Tuple_spliced (thn (h pos pins s σ H _ I hq) fun us s1 ⟨xs, H1, I1, r, z, q⟩ => ⟨by rw [← r.length]; exact z, ?_⟩)
  have hf : H1 s1.heap.objs.size = none := I1.hok.fresh (Nat.le_refl _)
  refine ⟨.ref s1.heap.objs.size, upd H1 s1.heap.objs.size (.tup xs), I1.laid (t' := s1.toks) (fun b u e => Heap.get?_push_of_some _ e) (Nat.le_refl _) ?_, rfl, q _ hf⟩
  exact ⟨z, us, r, ⟨_, Heap.get?_push_size _ rfl, rfl, _, rfl⟩⟩
theorem pe_lst (h : PA X es t) : PE X (.List es pos) (tLst t) := by
  intro pins s σ H Q I hq
  refine wpAny_List_spliced (thn (h pos pins s σ H _ I hq) fun us s1 ⟨xs, H1, I1, r, z, q⟩ => ⟨by rw [← r.length]; exact z, ?_⟩)
  have hf : H1 s1.heap.objs.size = none := I1.hok.fresh (Nat.le_refl _)
  refine ⟨.ref s1.heap.objs.size, upd H1 s1.heap.objs.size (.lst xs), I1.laid (t' := s1.toks) (fun b u e => Heap.get?_push_of_some _ e) (Nat.le_refl _) ?_, rfl, q _ hf⟩
  exact ⟨z, us, 0, r, Heap.get?_push_size _ rfl⟩
end

/-! ### what a def promises -/
/-- a def's promise: the bound arguments in the parameters' order, the heap, the wanted end, the wanted exception -/
abbrev Sp := List V → Hp → VK → XK → Prop
/-- how an exception lies behind a call (file 08 gives it): the callers' frames, abstract heap and state ahead of the call, the wish, the exception, the state -/
abbrev CXT := List Env → Hp → Shared → XK → Value → Shared → Prop

/-- the state at a call -/
structure Env0 (P : Program) (w : World) (K : PySem.W.Frag) (mg : Str → Option Value) (base : Heap) (A : Around) (outer : List Env) (s : Shared) (H : Hp) : Prop where
  frames : A.frames = some outer
  mod : Mod K mg base
  bs : ∀ b o, base.get? b = some o → s.heap.get? b = some o ∧ H b = none
  bsz : base.objs.size ≤ s.heap.objs.size
  funs : s.heap.FunFrames base outer
  frf : ∀ b ∈ frs outer, H b = none
  hok : HOk P w H s.heap
  bare : AllBare s.gens
/-- a call's end -/
def CE (outer : List Env) (P : Program) (w : World) (H : Hp) (s : Shared) (Q : VK) (u : Value) (s' : Shared) : Prop :=
  ∃ v H', s'.os = s.os ∧ AllBare s'.gens ∧ Un (frs outer) [] H H' s.heap s'.heap ∧ HOk P w H' s'.heap ∧ RelV v u ∧ Q v H'
def CR (CX : CXT) (outer : List Env) (P : Program) (w : World) (H : Hp) (s : Shared) (Q : VK) (E : XK) (r : Result) (s' : Shared) : Prop :=
  match r with
  | .ok (.ret u) => CE outer P w H s Q u s'
  | .ok _ => False
  | .error e => CX outer H s E e s'
structure FnOk (P : Program) (w : World) (K : PySem.W.Frag) (mg : Str → Option Value) (base : Heap) (CX : CXT) (k : Nat) (f : Addr) (fd : FuncData) (ps : List Str) (sp : Sp) : Prop where
  len : ∀ vs H Q E, sp vs H Q E → vs.length = ps.length
  run : ∀ (A : Around) (outer : List Env) (s : Shared) (H : Hp) (args : Args) (us : List Value) (vs : List V) (Q : VK) (E : XK), Room k A → Env0 P w K mg base A outer s H → BindsTo s fd args (ps.zip us) → Vals vs us → sp vs H Q E →
    codeAny (model P w) A (.call (.ref f) args) (CR CX outer P w H s Q E) s
theorem FnOk.mono {P : Program} {w : World} {K : PySem.W.Frag} {mg : Str → Option Value} {base : Heap} {CX : CXT} {j k : Nat} {f : Addr} {fd : FuncData} {ps : List Str} {sp : Sp} (F : FnOk P w K mg base CX j f fd ps sp) (h : j ≤ k) :
    FnOk P w K mg base CX k f fd ps sp := ⟨F.len, fun A outer s H args us vs Q E hr => F.run A outer s H args us vs Q E (hr.mono h)⟩
/-- a weaker promise -/
theorem FnOk.imp {P : Program} {w : World} {K : PySem.W.Frag} {mg : Str → Option Value} {base : Heap} {CX : CXT} {k : Nat} {f : Addr} {fd : FuncData} {ps : List Str} {sp sp' : Sp} (F : FnOk P w K mg base CX k f fd ps sp)
    (h : ∀ vs H Q E, sp' vs H Q E → sp vs H Q E) : FnOk P w K mg base CX k f fd ps sp' :=
  ⟨fun vs H Q E q => F.len vs H Q E (h _ _ _ _ q), fun A outer s H args us vs Q E hr he hb hv hs => F.run A outer s H args us vs Q E hr he hb hv (h _ _ _ _ hs)⟩

theorem Env0.make {P : Program} {w : World} {K : PySem.W.Frag} {mg : Str → Option Value} {base : Heap} {A : Around} {outer : List Env} {s : Shared} {H : Hp} (e : Env0 P w K mg base A outer s H) (C : Addr) (us : List Value) (kw : List (Str × Value)) :
    Env0 P w K mg base (A.under (.builtin "type.__call__" ⟨.ref C :: us, kw⟩)) outer s H := ⟨by first | exact e.frames | (simpa [Around.under, Code.envs, Code.isFrame, pushEnvs] using e.frames), e.mod, e.bs, e.bsz, e.funs, e.frf, e.hok, e.bare⟩
theorem Env0.in1 {P : Program} {w : World} {K : PySem.W.Frag} {mg : Str → Option Value} {base : Heap} {A : Around} {outer : List Env} {s : Shared} {H : Hp} (e : Env0 P w K mg base A outer s H) :
    Env0 P w K mg base A.in1 outer s H := ⟨e.frames, e.mod, e.bs, e.bsz, e.funs, e.frf, e.hok, e.bare⟩

section
variable {X : Cx} {pins : List (Addr × Obj)} {σ : St} {H : Hp} {s s' : Shared}
/-- from a body: what a callee wants -/
theorem Inv.env0 (I : Inv X pins σ H s) : Env0 X.prog X.w X.K X.mg X.base X.A X.stack s H :=
  ⟨I.ok.frames, I.ok.mod, I.bs, Nat.le_trans I.ok.bsz I.sz, I.stack, I.stkFree, I.hok, I.bare⟩
/-- behind a call -/
theorem Inv.after {Q : VK} {u : Value} (I : Inv X pins σ H s) (h : CE X.stack X.prog X.w H s Q u s') : EP X pins σ Q u s' := by
  obtain ⟨v, H', os, bare, un, hok, r, q⟩ := h
  obtain ⟨hh, g, d, t, os'⟩ := s'
  obtain rfl : os' = s.os := os
  exact ⟨v, H', I.call (h' := hh) (g' := g) (d' := d) (t' := t) (ch := []) un hok bare (fun b z => absurd z (by simp)), r, q⟩
end

/-! ### calls -/
/-- f(..): the written arguments, then the defaults dvs; E: what is wanted of an exception -/
def tCall (sp : Sp) (dvs : List V) (E : XK) (t : TA) : TE := fun σ H Q => t σ H fun vs H1 => sp (vs ++ dvs) H1 Q E
/-- o.m(..) of an instance of the class at C -/
def tMeth (C : Addr) (m : Str) (sp : Sp) (dvs : List V) (E : XK) (ta : TE) (t : TA) : TE := fun σ H Q => ta σ H fun x H1 => ∃ a dx fs, x = .ref a ∧ H1 a = some (.ins C dx fs) ∧ fs.lookup m = none ∧
  t σ H1 fun vs H2 => sp (x :: (vs ++ dvs)) H2 Q E
/-- C(..): a new instance and its dict, then __init__ -/
def tMake (C : Addr) (sp : Sp) (dvs : List V) (E : XK) (t : TA) : TE := fun σ H Q => t σ H fun vs H1 => ∀ x dx, H1 x = none → H1 dx = none → dx ≠ x →
  sp (.ref x :: (vs ++ dvs)) (upd (upd H1 dx (.own x)) x (.ins C dx [])) (fun v H2 => v = .non ∧ Q (.ref x) H2) E

/-- how the parameters are bound: us the positional arguments, kw the keywords' values by name, ds the defaults that fill up -/
def Binds (K : PySem.W.Frag) (fd : FuncData) (ps : List Str) (ds : List Value) : Prop :=
  ∀ (s : Shared) (us : List Value), K.In s.heap → (us ++ ds).length = ps.length → BindsTo s fd ⟨us, []⟩ (ps.zip (us ++ ds))
/-- every parameter is given -/
theorem Binds.all {K : PySem.W.Frag} {fd : FuncData} {ps : List Str} (h : ∀ us : List Value, us.length = ps.length → bindArgs fd ⟨us, []⟩ = pure (ps.zip us)) : Binds K fd ps [] := fun s us _ hl => by
  rw [List.append_nil] at hl ⊢
  exact .of_eq (h us hl)

/-- an exception of a callee reaches what this body wants of exceptions -/
def Passes (CX : CXT) (X : Cx) (E : XK) : Prop := ∀ (pins : List (Addr × Obj)) (σ : St) (H : Hp) (s : Shared) (e : Value) (s' : Shared), Inv X pins σ H s → CX X.stack H s E e s' → X.xe e s'

section
variable {X : Cx} {CX : CXT} {k : Nat} {f C : Addr} {fd : FuncData} {ps : List Str} {sp : Sp} {dvs : List V} {ds : List Value} {E : XK} {x m : Str} {p pos apos : Pos} {e o : Expr} {es : List Expr} {ta : TE} {t : TA}

/-- the callee runs -/
theorem run_fn {pins : List (Addr × Obj)} {σ : St} {H : Hp} {s : Shared} {Q : VK} {us : List Value} {vs : List V} (F : FnOk X.prog X.w X.K X.mg X.base CX k f fd ps sp) (hr : Room k X.A) (hb : Binds X.K fd ps ds) (hd : Vals dvs ds) (hx : Passes CX X E)
    (I : Inv X pins σ H s) (r : Vals vs us) (h : sp (vs ++ dvs) H Q E) : wpAny (model X.prog X.w) X.A (call (.ref f) us) (EP X pins σ Q) X.xe s := by
  have r2 : Vals (vs ++ dvs) (us ++ ds) := r.append hd
  have hl : (us ++ ds).length = ps.length := by rw [← r2.length]; exact F.len _ _ _ _ h
  refine wpAny_call (codeAny_mono (F.run X.A X.stack s H ⟨us, []⟩ (us ++ ds) (vs ++ dvs) Q E hr I.env0 (hb s us I.kIn hl) r2 h) fun r s' hq => ?_)
  cases r with
  | error e => exact hx pins σ H s e s' I hq
  | ok fl =>
    cases fl with
    | ret u => exact I.after hq
    | next => exact False.elim hq
    | brk => exact False.elim hq
    | cont => exact False.elim hq

theorem pe_call (F : FnOk X.prog X.w X.K X.mg X.base CX k f fd ps sp) (hr : Room k X.A) (hg : Gl X x) (hm : X.mg x = some (.ref f)) (hk : PySem.W.keepIn X.K (.ref f) = true) (hb : Binds X.K fd ps ds) (hd : Vals dvs ds) (hx : Passes CX X E)
    (ha : PA X (e :: es) t) (hdb : (x == ("__debug__" : Str)) = false := by decide) (he : starEach (e :: es) X.env = (false, eval e X.env) :: starEach es X.env := by rfl) (hpl : (backTo pos (starEach es X.env)).any (·.1) = false := by rfl) :
    PE X (.Call (.Name x p) (e :: es) [] pos) (tCall sp dvs E t) := by
  intro pins s σ H Q I h
  refine wpAny_Call_Name_kw (ld_glob I hg hm ?_ hdb)
  refine PySem.W.callWith_K (h₀ := X.base) I.ok.mod.kin hk (thn (ha pos pins s σ H _ I h) fun us s1 ⟨vs, H1, I1, r, q⟩ => ⟨I1.kIn, ?_⟩) he hpl
  exact run_fn F hr hb hd hx I1 r q
theorem pe_call0 (F : FnOk X.prog X.w X.K X.mg X.base CX k f fd ps sp) (hr : Room k X.A) (hg : Gl X x) (hm : X.mg x = some (.ref f)) (hk : PySem.W.keepIn X.K (.ref f) = true) (hb : Binds X.K fd ps ds) (hd : Vals dvs ds) (hx : Passes CX X E)
    (hdb : (x == ("__debug__" : Str)) = false := by decide) : PE X (.Call (.Name x p) [] [] pos) (tCall sp dvs E tNil) := by
  intro pins s σ H Q I h
  refine wpAny_Call_Name_kw (ld_glob I hg hm ?_ hdb)
  exact PySem.W.callWith_K0 I.kIn hk (run_fn (us := []) F hr hb hd hx I .nil h)

/-- o.m(e, ..) -/
theorem pe_meth {pl : Sem Bool} (he : PE X o ta) (c : Cls X.K C) (hm : Meth X.K C m f) (F : FnOk X.prog X.w X.K X.mg X.base CX k f fd ps sp) (hr : Room k X.A) (hb : Binds X.K fd ps ds) (hd : Vals dvs ds) (hx : Passes CX X E) (ha : PA X (e :: es) t)
    (hst : starEach (e :: es) X.env = (false, eval e X.env) :: starEach es X.env := by rfl) (hpl : (backTo pos (starEach es X.env)).any (·.1) = false := by rfl)
    (ht : eval (.Call (.Attribute o m apos) (e :: es) [] pos) X.env = (do
      let ov ← eval o X.env
      standAt apos.atName
      let (f, first) ← holding [ov] (getMethod ov m pl)
      callWith pos f first (backTo pos (starEach (e :: es) X.env)) (backToKw pos (keywordEach [] X.env))) := by rfl) :
    PE X (.Call (.Attribute o m apos) (e :: es) [] pos) (tMeth C m sp dvs E ta t) := by
  intro pins s σ H Q I h
  refine PySem.W.methodCall_KW (pl := pl) (thn (he pins s σ H _ I h) fun u s1 ⟨x, H1, I1, rx, a, dx, fs, ex, ea, l, q⟩ => ?_) ht
  subst ex
  obtain rfl : u = Value.ref a := rx
  refine getmeth_ok I1 ea c hm l ?_
  refine PySem.W.callWith_K (first := [.ref a]) (h₀ := X.base) I.ok.mod.kin hm.kp (thn (ha pos pins s1 σ H1 _ I1 q) fun us s2 ⟨vs, H2, I2, r, q2⟩ => ⟨I2.kIn, ?_⟩) hst hpl
  exact run_fn (us := .ref a :: us) (vs := .ref a :: vs) F hr hb hd hx I2 (.cons rfl r) q2
/-- o.m() -/
theorem pe_meth0 {pl : Sem Bool} (he : PE X o ta) (c : Cls X.K C) (hm : Meth X.K C m f) (F : FnOk X.prog X.w X.K X.mg X.base CX k f fd ps sp) (hr : Room k X.A) (hb : Binds X.K fd ps ds) (hd : Vals dvs ds) (hx : Passes CX X E)
    (ht : eval (.Call (.Attribute o m apos) [] [] pos) X.env = (do
      let ov ← eval o X.env
      standAt apos.atName
      let (f, first) ← holding [ov] (getMethod ov m pl)
      callWith pos f first (backTo pos (starEach [] X.env)) (backToKw pos (keywordEach [] X.env))) := by rfl) :
    PE X (.Call (.Attribute o m apos) [] [] pos) (tMeth C m sp dvs E ta tNil) := by
  intro pins s σ H Q I h
  refine PySem.W.methodCall_KW (pl := pl) (thn (he pins s σ H _ I h) fun u s1 ⟨x, H1, I1, rx, a, dx, fs, ex, ea, l, q⟩ => ?_) ht
  subst ex
  obtain rfl : u = Value.ref a := rx
  refine getmeth_ok I1 ea c hm l ?_
  exact PySem.W.callWith_K0 (first := [.ref a]) I1.kIn hm.kp (run_fn (us := [.ref a]) (vs := [.ref a]) F hr hb hd hx I1 (.cons rfl .nil) q)

/-- what a class must have to be made -/
structure Mk (K : PySem.W.Frag) (C f : Addr) : Prop where
  makes : PySem.W.makesIn K C = true
  init : PySem.W.findIn K (.ref C) "__init__" = some (some (.ref f))
  fn : PySem.W.isFn K (.ref f) = true
  kp : PySem.W.keepIn K (.ref C) = true

theorem run_make {pins : List (Addr × Obj)} {σ : St} {H : Hp} {s : Shared} {Q : VK} {us : List Value} {vs : List V} (M : Mk X.K C f) (F : FnOk X.prog X.w X.K X.mg X.base CX k f fd ps sp) (hr : Room (k + 1) X.A) (hb : Binds X.K fd ps ds) (hd : Vals dvs ds)
    (hx : Passes CX X E) (I : Inv X pins σ H s) (r : Vals vs us)
    (h : ∀ x dx, H x = none → H dx = none → dx ≠ x → sp (.ref x :: (vs ++ dvs)) (upd (upd H dx (.own x)) x (.ins C dx [])) (fun v H2 => v = .non ∧ Q (.ref x) H2) E) :
    wpAny (model X.prog X.w) X.A (call (.ref C) us) (EP X pins σ Q) X.xe s := by
  have hq := h (s.heap.objs.size + 1) s.heap.objs.size (I.hok.fresh (Nat.le_succ _)) (I.hok.fresh (Nat.le_refl _)) (Nat.ne_of_lt (Nat.lt_succ_self _))
  have I2 := Inv.made (C := C) I
  have r2 : Vals (V.ref (s.heap.objs.size + 1) :: (vs ++ dvs)) (Value.ref (s.heap.objs.size + 1) :: (us ++ ds)) := .cons rfl (r.append hd)
  have hl : (Value.ref (s.heap.objs.size + 1) :: us ++ ds).length = ps.length := by
    have e := r2.length
    rw [F.len _ _ _ _ hq] at e
    exact e.symm
  refine wpAny_call (make_map (f := f) I.kIn M.makes M.init (beq_iff_eq.mp M.fn) (codeAny_mono (F.run _ X.stack _ _ ⟨Value.ref (s.heap.objs.size + 1) :: us, []⟩ (Value.ref (s.heap.objs.size + 1) :: (us ++ ds)) _ _ E (hr.make C us [])
    (I2.env0.make C us []) (hb _ (Value.ref (s.heap.objs.size + 1) :: us) I2.kIn hl) r2 hq) fun r s' hq' => ?_))
  cases r with
  | error e => exact hx pins σ _ _ e s' I2 hq'
  | ok fl =>
    cases fl with
    | ret u =>
      obtain ⟨v, H', I3, rv, ev, q3⟩ := I2.after hq'
      subst ev
      exact ⟨rv, ⟨V.ref (s.heap.objs.size + 1), H', I3, rfl, q3⟩⟩
    | next => exact False.elim hq'
    | brk => exact False.elim hq'
    | cont => exact False.elim hq'
theorem pe_make (M : Mk X.K C f) (F : FnOk X.prog X.w X.K X.mg X.base CX k f fd ps sp) (hr : Room (k + 1) X.A) (hg : Gl X x) (hm : X.mg x = some (.ref C)) (hb : Binds X.K fd ps ds) (hd : Vals dvs ds) (hx : Passes CX X E)
    (ha : PA X (e :: es) t) (hdb : (x == ("__debug__" : Str)) = false := by decide) (he : starEach (e :: es) X.env = (false, eval e X.env) :: starEach es X.env := by rfl) (hpl : (backTo pos (starEach es X.env)).any (·.1) = false := by rfl) :
    PE X (.Call (.Name x p) (e :: es) [] pos) (tMake C sp dvs E t) := by
  intro pins s σ H Q I h
  refine wpAny_Call_Name_kw (ld_glob I hg hm ?_ hdb)
  refine PySem.W.callWith_K (h₀ := X.base) I.ok.mod.kin M.kp (thn (ha pos pins s σ H _ I h) fun us s1 ⟨vs, H1, I1, r, q⟩ => ⟨I1.kIn, ?_⟩) he hpl
  exact run_make M F hr hb hd hx I1 r q
theorem pe_make0 (M : Mk X.K C f) (F : FnOk X.prog X.w X.K X.mg X.base CX k f fd ps sp) (hr : Room (k + 1) X.A) (hg : Gl X x) (hm : X.mg x = some (.ref C)) (hb : Binds X.K fd ps ds) (hd : Vals dvs ds) (hx : Passes CX X E)
    (hdb : (x == ("__debug__" : Str)) = false := by decide) : PE X (.Call (.Name x p) [] [] pos) (tMake C sp dvs E tNil) := by
  intro pins s σ H Q I h
  refine wpAny_Call_Name_kw (ld_glob I hg hm ?_ hdb)
  exact PySem.W.callWith_K0 I.kIn M.kp (run_make (us := []) M F hr hb hd hx I .nil h)
end

/-! ### keywords -/
/-- the values of the keywords, from the left -/
def PK (X : Cx) (kws : List Keyword) (t : TA) : Prop :=
  ∀ (pos : Pos) (pins : List (Addr × Obj)) (s : Shared) (σ : St) (H : Hp) (Q : List V → Hp → Prop), Inv X pins σ H s → t σ H Q → wpAny (model X.prog X.w) X.A (evalAll ((backToKw pos (keywordEach kws X.env)).map (·.2))) (AP X pins σ Q) X.xe s
section
variable {X : Cx} {CX : CXT} {k : Nat} {f C : Addr} {fd : FuncData} {ps ks : List Str} {sp : Sp} {E : XK} {x m : Str} {p pos apos kpos : Pos} {e o : Expr} {es : List Expr} {kws : List Keyword} {te ta : TE} {t tk : TA} {nm : Option Str}
theorem pk_nil : PK X [] tNil := fun _ _ _ _ H Q I h => wpAny_evalAll_nil ⟨[], H, I, .nil, h⟩
theorem pk_cons (ha : PE X e te) (hr : PK X kws t) : PK X (⟨nm, e, kpos⟩ :: kws) (tCons te t) := by
  intro pos pins s σ H Q I h
  show wpAny _ _ (evalAll ((do let v ← eval e X.env; standAt pos; pure v) :: (backToKw pos (keywordEach kws X.env)).map (·.2))) _ _ s
  refine wpAny_evalAll_cons (wpAny_bind (thn (ha pins s σ H _ I h) fun u s1 ⟨x, H1, I1, r1, q1⟩ => wpAny_bind (wpAny_standAt (wpAny_pure ?_))))
  exact thn (hr pos pins s1 σ H1 _ I1 q1) fun us s2 ⟨xs, H2, I2, r2, q2⟩ => ⟨x :: xs, H2, I2, .cons r1 r2, q2⟩

/-- how a call with keywords binds: g puts the positional values us and the keywords' values ws (names ks) in the parameters' order, defaults among them -/
structure KBinds (K : PySem.W.Frag) (fd : FuncData) (ps ks : List Str) (g : List Value → List Value → List Value) (gV : List V → List V → List V) : Prop where
  to : ∀ (s : Shared) (us ws : List Value), K.In s.heap → (g us ws).length = ps.length → BindsTo s fd ⟨us, ks.zip ws⟩ (ps.zip (g us ws))
  rel : ∀ {vs : List V} {us : List Value} {zs : List V} {ws : List Value}, Vals vs us → Vals zs ws → Vals (gV vs zs) (g us ws)
def tCallK (sp : Sp) (gV : List V → List V → List V) (E : XK) (t tk : TA) : TE := fun σ H Q => t σ H fun vs H1 => tk σ H1 fun zs H2 => sp (gV vs zs) H2 Q E
variable {g : List Value → List Value → List Value} {gV : List V → List V → List V}
theorem run_fnk {pins : List (Addr × Obj)} {σ : St} {H : Hp} {s : Shared} {Q : VK} {us ws : List Value} {vs zs : List V} (F : FnOk X.prog X.w X.K X.mg X.base CX k f fd ps sp) (hr : Room k X.A) (hb : KBinds X.K fd ps ks g gV) (hx : Passes CX X E)
    (I : Inv X pins σ H s) (r : Vals vs us) (rz : Vals zs ws) (h : sp (gV vs zs) H Q E) : wpAny (model X.prog X.w) X.A (call (.ref f) us (ks.zip ws)) (EP X pins σ Q) X.xe s := by
  have r2 := hb.rel r rz
  have hl : (g us ws).length = ps.length := by rw [← r2.length]; exact F.len _ _ _ _ h
  refine wpAny_call (codeAny_mono (F.run X.A X.stack s H ⟨us, ks.zip ws⟩ (g us ws) (gV vs zs) Q E hr I.env0 (hb.to s us ws I.kIn hl) r2 h) fun r s' hq => ?_)
  cases r with
  | error e => exact hx pins σ H s e s' I hq
  | ok fl =>
    cases fl with
    | ret u => exact I.after hq
    | next => exact False.elim hq
    | brk => exact False.elim hq
    | cont => exact False.elim hq
/-- f(e, .., k = v, ..) -/
theorem pe_callK (F : FnOk X.prog X.w X.K X.mg X.base CX k f fd ps sp) (hr : Room k X.A) (hg : Gl X x) (hm : X.mg x = some (.ref f)) (hk : PySem.W.keepIn X.K (.ref f) = true) (hb : KBinds X.K fd ps ks g gV) (hx : Passes CX X E)
    (ha : PA X (e :: es) t) (hkw : PK X kws tk) (hall : (backToKw pos (keywordEach kws X.env)).all (·.1.isSome) = true := by rfl) (hks : (backToKw pos (keywordEach kws X.env)).filterMap (·.1) = ks := by rfl)
    (hdb : (x == ("__debug__" : Str)) = false := by decide) (he : starEach (e :: es) X.env = (false, eval e X.env) :: starEach es X.env := by rfl)
    (hpl : ((backTo pos (starEach (e :: es) X.env)).any (·.1) || (backToKw pos (keywordEach kws X.env)).any (·.1.isNone)) = false := by rfl) :
    PE X (.Call (.Name x p) (e :: es) kws pos) (tCallK sp gV E t tk) := by
  intro pins s σ H Q I h
  refine wpAny_Call_Name_kw (ld_glob I hg hm ?_ hdb)
  refine PySem.W.callWith_KW (h₀ := X.base) I.ok.mod.kin hk hall (thn (ha pos pins s σ H _ I h) fun us s1 ⟨vs, H1, I1, r, q⟩ => ?_) hpl he
  refine thn (hkw pos pins s1 σ H1 _ I1 q) fun ws s2 ⟨zs, H2, I2, rz, q2⟩ => ⟨I2.kIn, ?_⟩
  rw [hks]
  exact run_fnk F hr hb hx I2 r rz q2
end

/-! ### a def's body keeps its promise -/
/-- names: the parameters first -/
structure FnScope (N P : List Str) (sc : Scope) : Prop where
  kind : sc.kind = .function
  co : sc.isCoroutine = false
  gen : sc.isGenerator = false
  nd : N.Nodup
  pre : N.take P.length = P
  par : ∀ x ∈ P, sc.names.lookup x = some .local ∨ sc.names.lookup x = some .cell
  nofree : ∀ y ∈ sc.names, y.2 ≠ .free

theorem bindL_out {kindOf : Str → Option NameKind} {x : Str} : ∀ {binds : List (Str × Value)} {m : Str → Option Value}, (∀ v, (x, v) ∉ binds) → bindL kindOf binds m x = m x
  | [], _, _ => rfl
  | (n, v) :: r, m, h => by
    unfold bindL
    rw [bindL_out fun w hw => h w (List.mem_cons_of_mem _ hw)]
    split
    · have : x ≠ n := by rintro rfl; exact h v List.mem_cons_self
      simp [this]
    · rfl
theorem bindC_out {kindOf : Str → Option NameKind} {x : Str} : ∀ {binds : List (Str × Value)} {m : Str → Option Value}, (∀ v, (x, v) ∉ binds) → bindC kindOf binds m x = m x
  | [], _, _ => rfl
  | (n, v) :: r, m, h => by
    unfold bindC
    rw [bindC_out fun w hw => h w (List.mem_cons_of_mem _ hw)]
    split
    · rfl
    · have : x ≠ n := by rintro rfl; exact h v List.mem_cons_self
      simp [this]
theorem bindL_get {kindOf : Str → Option NameKind} {x : Str} {v : Value} : ∀ {P : List Str} {vs : List Value} {i : Nat} {m : Str → Option Value}, P.Nodup → P[i]? = some x → vs[i]? = some v → kindOf x = some .local →
    bindL kindOf (P.zip vs) m x = some v
  | [], _, _, _, _, h, _, _ => by simp at h
  | _ :: _, [], _, _, _, _, h, _ => by simp at h
  | p :: P, w :: vs, 0, m, nd, h1, h2, hk => by
    simp at h1 h2; subst h1; subst h2
    show bindL kindOf ((p, w) :: P.zip vs) m p = _
    unfold bindL
    rw [bindL_out fun v hv => (List.nodup_cons.mp nd).1 (List.of_mem_zip hv).1, if_pos hk]
    simp
  | p :: P, w :: vs, i + 1, m, nd, h1, h2, hk => by
    show bindL kindOf ((p, w) :: P.zip vs) m x = _
    unfold bindL
    exact bindL_get (i := i) (List.nodup_cons.mp nd).2 (by simpa using h1) (by simpa using h2) hk
theorem bindC_get {kindOf : Str → Option NameKind} {x : Str} {v : Value} : ∀ {P : List Str} {vs : List Value} {i : Nat} {m : Str → Option Value}, P.Nodup → P[i]? = some x → vs[i]? = some v → kindOf x ≠ some .local →
    bindC kindOf (P.zip vs) m x = some v
  | [], _, _, _, _, h, _, _ => by simp at h
  | _ :: _, [], _, _, _, _, h, _ => by simp at h
  | p :: P, w :: vs, 0, m, nd, h1, h2, hk => by
    simp at h1 h2; subst h1; subst h2
    show bindC kindOf ((p, w) :: P.zip vs) m p = _
    unfold bindC
    rw [bindC_out fun v hv => (List.nodup_cons.mp nd).1 (List.of_mem_zip hv).1, if_neg hk]
    simp
  | p :: P, w :: vs, i + 1, m, nd, h1, h2, hk => by
    show bindC kindOf ((p, w) :: P.zip vs) m x = _
    unfold bindC
    exact bindC_get (i := i) (List.nodup_cons.mp nd).2 (by simpa using h1) (by simpa using h2) hk

/-- the names' values at the entry -/
def start (N : List Str) (vs : List V) : St := vs.map some ++ List.replicate (N.length - vs.length) none

/-- the context of a def's body, at its entry; an exception leaves the frame, then lies as CX says -/
def cxOf (CX : CXT) (P : Program) (w : World) (K : PySem.W.Frag) (mg : Str → Option Value) (base : Heap) (N : List Str) (qual : Str) (scope : Scope) (f : Addr) (cd : Value) (A : Around) (outer : List Env) (s : Shared) (H : Hp) (E : XK) : Cx where
  prog := P
  w := w
  K := K
  mg := mg
  base := base
  A := A.deeper (envOfC qual scope s.heap.objs.size f cd)
  N := N
  s₀ := s
  H₀ := H
  env := envOfC qual scope s.heap.objs.size f cd
  outer := outer
  stack := envOfC qual scope s.heap.objs.size f cd :: outer
  ex := []
  calm := true
  fn := fun _ => true
  pn := []
  xe := fun e s' => wpAny (model P w) (A.deeper (envOfC qual scope s.heap.objs.size f cd)) (leaving (envOfC qual scope s.heap.objs.size f cd) e) (fun _ s'' => CX outer H s E e s'') (fun e' s'' => CX outer H s E e' s'') s'

theorem cell_has {sc : Scope} {n : Nat} {x : Str} (h : sc.names.lookup x = some .cell) : ∃ c, (cellsFrom n sc.names []).lookup x = some c := by
  have q := PySem.W.cellsFrom_some sc.names n [] (.inl h)
  exact Option.isSome_iff_exists.mp q

theorem inv_start {CX : CXT} {P : Program} {w : World} {K : PySem.W.Frag} {mg : Str → Option Value} {base : Heap} {N ps : List Str} {qual : Str} {scope : Scope} {f : Addr} {cd : Value} {A : Around} {outer : List Env} {s s1 : Shared} {H : Hp} {E : XK} {us : List Value} {vs : List V}
    (S : FnScope N ps scope) (hd : A.handled = none) (e0 : Env0 P w K mg base A outer s H) (hl : vs.length = ps.length) (r : Vals vs us)
    (x : InCallC s s.heap.objs.size (bindL (envOfC qual scope s.heap.objs.size f cd).kindOf (ps.zip us) fun _ => none) (cellsFrom (s.heap.objs.size + 1) scope.names []) (bindC (envOfC qual scope s.heap.objs.size f cd).kindOf (ps.zip us) fun _ => none) s1) :
    Inv (cxOf CX P w K mg base N qual scope f cd A outer s H E) [] (start N vs) H s1 := by
  have hpl : ps.length ≤ N.length := by have := congrArg List.length S.pre; rw [List.length_take] at this; omega
  obtain ⟨h1, tk, rfl, hk⟩ := x.done
  have noA : ∀ b : Addr, b ∉ (cxOf CX P w K mg base N qual scope f cd A outer s H E).ex := fun b z => absurd (show b ∈ ([] : List Addr) from z) (by simp)
  refine ⟨⟨e0.mod, S.kind, rfl, rfl, Nat.le_refl _, fun y z c h1 h2 => ?_, fun y hy => ?_, fun y c _ h => ?_, fun _ => hd, Around.frames_deeper e0.frames, .inr ⟨rfl, rfl⟩, fun b z => absurd z (noA b), e0.bs, e0.bsz, fun b _ _ => noA b, fun b z => absurd z (noA b), e0.funs, e0.frf⟩,
    rfl, e0.bare, Un.kept hk, ⟨_, x.toInCall.ns, fun i y v h1 h2 h3 => ?_⟩, fun y c h => ⟨_, x.cell y c h⟩, e0.hok.fresh (Nat.le_refl _), fun y c h => ?_, fun p hp => absurd (show p ∈ ([] : List (Addr × Obj)) from hp) (by simp), e0.hok.kept hk, ?_⟩
  · exact name_of_addr x.apart (PySem.mem_of_lookup h1) (PySem.mem_of_lookup h2)
  · have hy : scope.names.lookup y = some .cell ∨ scope.names.lookup y = some .free := hy
    rcases hy with hy | hy
    · exact cell_has hy
    · exact absurd rfl (S.nofree _ (PySem.mem_of_lookup hy))
  · exact Nat.le_of_lt (x.above y c (PySem.mem_of_lookup h))
  · have hi : i < vs.length := by
      unfold start at h2
      by_cases hi : i < vs.length
      · exact hi
      · rw [List.getElem?_append_right (by simpa using hi)] at h2
        rw [List.getElem?_replicate] at h2
        split at h2 <;> cases h2
    have ha : vs[i]? = some v := by
      unfold start at h2
      rw [List.getElem?_append_left (by simpa using hi), List.getElem?_map] at h2
      cases e : vs[i]? with
      | none => rw [e] at h2; cases h2
      | some a => rw [e] at h2; cases h2; rfl
    obtain ⟨u, hu, rv⟩ := r.get ha
    have hp : ps[i]? = some y := by
      rw [← S.pre, List.getElem?_take_of_lt (by omega)]; exact h1
    have ndP : ps.Nodup := by rw [← S.pre]; exact S.nd.sublist (List.take_sublist _ _)
    refine ⟨u, rv, ?_⟩
    rcases S.par y (List.mem_of_getElem? hp) with k | k
    · exact .inl ⟨k, bindL_get ndP hp hu k⟩
    · obtain ⟨c, e⟩ := cell_has (n := s.heap.objs.size + 1) k
      refine .inr ⟨.inl k, c, e, ?_⟩
      have q := x.cell y c e
      rw [bindC_get ndP hp hu (by show scope.names.lookup y ≠ _; rw [k]; decide)] at q
      exact q
  · exact e0.hok.fresh (Nat.le_of_lt (x.above y c (PySem.mem_of_lookup h)))
  · unfold start
    show _ = N.length
    rw [List.length_append, List.length_map, List.length_replicate]
    omega

/-- THE RULE: a def (or a method) of the text, by its body. The body's reading t is chosen for each entry; it is run at the parameters' values -/
theorem fn_of {CX : CXT} {P : Program} {w : World} {K : PySem.W.Frag} {mg : Str → Option Value} {base : Heap} {k : Nat} {f : Addr} {name qual : Str} {params : Arguments} {body : List Stmt} {scope : Scope} {dV kV doc pm cdv ct oc : Value} {an od : Option Addr}
    {osl : Array (Option Value)} {N ps : List Str} {sp : Sp} (lk : K.lookup f = some ⟨oc, od, .func (PySem.W.fnOf name qual params body scope dV kV doc pm an cdv ct), osl⟩) (hcd : PySem.W.codeIn K cdv qual = true) (S : FnScope N ps scope)
    (len : ∀ vs H Q E, sp vs H Q E → vs.length = ps.length)
    (hbody : ∀ (A : Around) (outer : List Env) (s : Shared) (H : Hp) (vs : List V) (Q : VK) (E : XK), Room k (A.deeper (envOfC qual scope s.heap.objs.size f cdv)) → sp vs H Q E →
      ∃ t, PSs (cxOf CX P w K mg base N qual scope f cdv A outer s H E) body t ∧ t { nx := fun _ H' => Q .non H', rt := Q } (start N vs) H) :
    FnOk P w K mg base CX (k + 1) f (PySem.W.fnOf name qual params body scope dV kV doc pm an cdv ct) ps sp := by
  refine ⟨len, fun A outer s H args us vs Q E hr e0 hb r hsp => ?_⟩
  have hl := len _ _ _ _ hsp
  have KX : K.In s.heap := e0.mod.kin.keeps fun b o e => (e0.bs b o e).1
  have lim : s.heap.NoLimit := e0.mod.nolimit.keeps fun b o e => (e0.bs b o e).1
  have hkind : ∀ y ∈ ps.zip us, scope.names.lookup y.1 = some .local ∨ (scope.names.lookup y.1 = some .cell ∧ ((cellsFrom (s.heap.objs.size + 1) scope.names []).lookup y.1).isSome = true) := fun ⟨n, v⟩ hy => by
    rcases S.par n (List.of_mem_zip hy).1 with q | q
    · exact .inl q
    · exact .inr ⟨q, PySem.W.cellsFrom_some _ _ _ (.inl q)⟩
  refine codeAny_call_function hr.depth (KX _ _ lk) rfl S.co S.gen rfl (PySem.W.codeRec_of KX hcd) (hb _ _ _ _ ?_)
  refine wpAny_newFunctionEnv_cells S.kind hkind fun env he s1 x => ?_
  subst he
  refine ⟨lim.keeps x.toInCall.keep, codeAny_func ?_⟩
  obtain ⟨t, ht, hq⟩ := hbody A outer s H vs Q E (hr.deeper _) hsp
  have I : Inv (cxOf CX P w K mg base N qual scope f cdv A outer s H E) [] (start N vs) H s1 := inv_start S hr.hd e0 hl r x
  refine wpAny_mono (ht [] s1 (start N vs) H _ I hq) (fun fl s' hs => ?_) fun e s' hs => hs
  have fin : ∀ {σ' : St} {H' : Hp} {v : V} {u : Value}, Inv (cxOf CX P w K mg base N qual scope f cdv A outer s H E) [] σ' H' s' → RelV v u → Q v H' → CE outer P w H s Q u s' :=
    fun {σ' H' v u} J rv q => ⟨v, H', J.os, J.bare, J.base, J.hok, rv, q⟩
  cases fl with
  | ret u =>
    obtain ⟨v, σ', H', J, rv, q⟩ := hs
    exact fin J rv q
  | next =>
    obtain ⟨σ', H', J, q⟩ := hs
    exact fin (v := V.non) (u := Value.none) J rfl q
  | brk =>
    obtain ⟨_, _, _, q⟩ := hs
    exact False.elim q
  | cont =>
    obtain ⟨_, _, _, q⟩ := hs
    exact False.elim q
end L2

namespace L2
open PySem PySem.Spec PyProof.Rows
section
variable {X : Cx} {x : Str} {p pos : Pos} {e : Expr} {es : List Expr} {t : TA} {id T : String} {r : List V → Hp → VK → Prop}

def tCB (r : List V → Hp → VK → Prop) (t : TA) : TE := fun σ H Q => t σ H fun vs H1 => r vs H1 Q
/-- f(e, ..), f a built-in function -/
theorem pe_callB (hc : CallR X (.builtin id) r) (hg : Gl X x) (hm : X.mg x = none) (hv : bootBuiltins x = some (.builtin id)) (ha : PA X (e :: es) t) (hn : x ≠ "__name__" := by decide) (hdb : (x == ("__debug__" : Str)) = false := by decide)
    (he : starEach (e :: es) X.env = (false, eval e X.env) :: starEach es X.env := by rfl) (hpl : (backTo pos (starEach es X.env)).any (·.1) = false := by rfl) : PE X (.Call (.Name x p) (e :: es) [] pos) (tCB r t) := by
  intro pins s σ H Q I h
  refine wpAny_Call_Name_kw (ld_blt I hg hm hv ?_ hn hdb)
  exact PyProof.Rows.callWith_builtin1 (thn (ha pos pins s σ H _ I h) fun us s1 ⟨vs, H1, I1, r1, q1⟩ => hc pins s1 σ H1 vs us Q I1 r1 q1) he hpl
/-- T(e, ..), T a built-in type -/
theorem pe_callTy (hc : CallR X (.type T) r) (hg : Gl X x) (hm : X.mg x = none) (hv : bootBuiltins x = some (.type T)) (ha : PA X (e :: es) t) (hn : x ≠ "__name__" := by decide) (hdb : (x == ("__debug__" : Str)) = false := by decide)
    (he : starEach (e :: es) X.env = (false, eval e X.env) :: starEach es X.env := by rfl) (hpl : (backTo pos (starEach es X.env)).any (·.1) = false := by rfl) : PE X (.Call (.Name x p) (e :: es) [] pos) (tCB r t) := by
  intro pins s σ H Q I h
  refine wpAny_Call_Name_kw (ld_blt I hg hm hv ?_ hn hdb)
  exact PyProof.Rows.callWith_type1 (thn (ha pos pins s σ H _ I h) fun us s1 ⟨vs, H1, I1, r1, q1⟩ => hc pins s1 σ H1 vs us Q I1 r1 q1) he hpl
/-- T() -/
theorem pe_callTy0 (hc : CallR X (.type T) r) (hg : Gl X x) (hm : X.mg x = none) (hv : bootBuiltins x = some (.type T)) (hn : x ≠ "__name__" := by decide) (hdb : (x == ("__debug__" : Str)) = false := by decide) :
    PE X (.Call (.Name x p) [] [] pos) (tCB r tNil) := by
  intro pins s σ H Q I h
  refine wpAny_Call_Name_kw (ld_blt I hg hm hv ?_ hn hdb)
  exact PyProof.Rows.callWith_type0 (hc pins s σ H [] [] Q I .nil h)
end
end L2

namespace HT
open PySem PyProof.Rows

/-- t < u of tuples of ints -/
def lexLt : List Int → List Int → Bool
  | [], [] => false
  | [], _ :: _ => true
  | _ :: _, [] => false
  | x :: xs, y :: ys => if x = y then lexLt xs ys else decide (x < y)
theorem lexLt_cons (x y : Int) (xs ys : List Int) : lexLt (x :: xs) (y :: ys) = if x = y then lexLt xs ys else decide (x < y) := rfl
theorem lexLt_nil_nil : lexLt [] [] = false := rfl
theorem lexLt_nil_cons (y : Int) (ys : List Int) : lexLt [] (y :: ys) = true := rfl
theorem lexLt_cons_nil (x : Int) (xs : List Int) : lexLt (x :: xs) [] = false := rfl

theorem eqAt_int (A : Around) (s : Shared) (a : Int) (t : Tok) (c : Int) (u : Tok) : ∃ e, SeqAt.EqAt A s (.int a t) (.int c u) e ∧ (e = true ↔ a = c) :=
  ⟨(a == c), SeqAt.EqAt.int_int a t c u, by simp⟩
theorem rcLt_int (A : Around) (s : Shared) (a : Int) (t : Tok) (c : Int) (u : Tok) (prog : Program) (w : World) (E : Value → Shared → Prop) (Q : Value → Shared → Prop) (h : Q (.bool (decide (a < c))) s) :
    wpAny (model prog w) A (richCompare .Lt (.int a t) (.int c u)) Q E s :=
  (PyProof.Rows.lt_int h : wpAny (model prog w) A (compareOp .Lt (.int a t) (.int c u)) Q E s)

section
open PySem.SeqAt
open PySem.AutoSeq1 (wpAny_loadPart')
open PySem.MeetsSeq PySem.MeetsSeq2 PySem.MeetsSeq3

theorem tuple_lt_ints (l b : Addr) (items items2 : Array Value) (n n2 : Nat) (dd dd2 : Option Addr) (sl sl2 : Array (Option Value)) (ns ms : List Int) (hi : IntsAre items.toList ns) (hj : IntsAre items2.toList ms) :
    Meets (Builtin.«tuple.__lt__» ⟨[.ref l, .ref b], []⟩)
      (fun _ R s => s.heap.get? l = some { cls := .type "tuple", dict := dd, data := .seq items n, slots := sl } ∧ s.heap.get? b = some { cls := .type "tuple", dict := dd2, data := .seq items2 n2, slots := sl2 } ∧
        R (.ok (.ret (.bool (lexLt ns ms)))) s) :=
  .of_wp fun prog w A R s h => by
    obtain ⟨hp, g, d, tk, os⟩ := s; obtain ⟨hl, hb, h⟩ := h
    have f2 := AutoSeq1.sub_tuple_tuple
    have z1 : items.size = ns.length := by rw [← hi.length]; simp
    have z2 : items2.size = ms.length := by rw [← hj.length]; simp
    wp_walk using wpAny_loadPart' hl, wpAny_loadPart' hb, wpAny_forIn_list _ (fun rest b s' => b.1 = none ∧ s' = ⟨hp, g, d, tk, os⟩ ∧ ∃ (vs ws : List Value) (ns' ms' : List Int), rest = vs.zip ws ∧
      IntsAre vs ns' ∧ IntsAre ws ms' ∧ ns'.length + items2.size = ms'.length + items.size ∧ R (.ok (.ret (.bool (lexLt ns' ms')))) ⟨hp, g, d, tk, os⟩) _
    case turn =>
      rintro ⟨y, x⟩ rest b s' ⟨hb', rfl, vs, ws, ns', ms', hz, hvi, hwi, hlen, hR⟩
      cases hvi with
      | nil => rw [List.zip_nil_left] at hz; cases hz
      | cons a t hvi' =>
        cases hwi with
        | nil => rw [List.zip_nil_right] at hz; cases hz
        | cons c u hwi' =>
          rw [List.zip_cons_cons] at hz
          injection hz with hyx hrest
          injection hyx with hy hx
          subst hy hx
          rw [lexLt_cons] at hR
          simp only [List.length_cons] at hlen
          obtain ⟨e, he, hiff⟩ := eqAt_int A.in1 ⟨hp, g, d, tk, os⟩ a t c u
          refine wpAny_bind (he prog w _ _ ?_)
          cases e with
          | true =>
            rw [if_pos (hiff.mp rfl)] at hR
            wp_walk
            exact ⟨rfl, rfl, _, _, _, _, hrest, hvi', hwi', by omega, hR⟩
          | false =>
            rw [if_neg (fun q => absurd (hiff.mpr q) Bool.false_ne_true)] at hR
            have hri := rcLt_int A.in1 ⟨hp, g, d, tk, os⟩ a t c u prog w
            wp_walk using hri
            exact ⟨_, rfl, by simpa using hR⟩
    case fin =>
      rintro ⟨b1, b2⟩ s' ⟨hb', rfl, vs, ws, ns', ms', hz, hvi, hwi, hlen, hR⟩
      simp only at hb'
      subst hb'
      have hv : lexLt ns' ms' = decide (items.size < items2.size) := by
        cases hvi with
        | nil =>
          cases hwi with
          | nil =>
            simp only [List.length_nil] at hlen
            rw [lexLt_nil_nil]
            exact (decide_eq_false (by omega)).symm
          | cons c u hw =>
            simp only [List.length_nil, List.length_cons] at hlen
            rw [lexLt_nil_cons]
            exact (decide_eq_true (by omega)).symm
        | cons a t hv =>
          cases hwi with
          | nil =>
            simp only [List.length_nil, List.length_cons] at hlen
            rw [lexLt_cons_nil]
            exact (decide_eq_false (by omega)).symm
          | cons c u hw =>
            rw [List.zip_cons_cons] at hz
            cases hz
      rw [hv] at hR
      wp_walk
      exact ⟨_, rfl, by simpa [Builtin.Tuple.tupleCompareSizes] using hR⟩
    case h =>
      exact ⟨rfl, rfl, items.toList, items2.toList, ns, ms, rfl, hi, hj, by omega, h⟩
end

section
variable {prog : Program} {w : World} {A : Around} {E : Value → Shared → Prop} {s : Shared}

theorem lt_tupInts {l b : Addr} {items items2 : Array Value} {ns ms : List Int} {Q : Value → Shared → Prop} (hl : IsTup s.heap l items) (hb : IsTup s.heap b items2) (hi : IntsAre items.toList ns) (hj : IntsAre items2.toList ms)
    (hu : A.units < cLine) (h : Q (.bool (lexLt ns ms)) s) : wpAny (model prog w) A (compareOp .Lt (.ref l) (.ref b)) Q E s := by
  obtain ⟨⟨cls, dd, data, sl⟩, ho, hc, n, hd⟩ := id hl
  obtain ⟨⟨cls2, dd2, data2, sl2⟩, ho2, hc2, n2, hd2⟩ := id hb
  simp only at hc hd hc2 hd2
  subst hc hd hc2 hd2
  exact richCompare_meets_room (op := .Lt) ⟨_, ho, rfl⟩ ⟨_, ho2, rfl⟩ PySem.F.slot_tuple_lt PySem.F.entry_tuple_lt (PySem.F.args_tuple_lt_2 _ _) (tuple_lt_ints l b items items2 n n2 dd dd2 sl sl2 ns ms hi hj)
    ⟨ho, ho2, show Value.bool (lexLt ns ms) ≠ Value.notImplemented ∧ Q (.bool (lexLt ns ms)) s from ⟨(fun x => nomatch x), h⟩⟩ hu

/-- t + u, t not empty -/
theorem cat_tup {t b : Addr} {vs ws : List Value} {Q : Value → Shared → Prop} (ht : IsTup s.heap t vs.toArray) (hb : IsTup s.heap b ws.toArray) (hv : vs ≠ [])
    (h1 : ws = [] → Q (.ref t) s) (h2 : ws ≠ [] → Q (.ref s.heap.objs.size) { s with heap := s.heap.push { cls := .type "tuple", data := .seq (vs ++ ws).toArray } })
    (hsz : vs.length + ws.length ≤ sizeLine) : wpAny (model prog w) A (binaryOp .Add (.ref t) (.ref b)) Q E s := by
  obtain ⟨⟨cls, dd, data, sl⟩, ho, hc, n, hd⟩ := id ht
  obtain ⟨⟨cls2, dd2, data2, sl2⟩, ho2, hc2, n2, hd2⟩ := id hb
  simp only at hc hd hc2 hd2
  subst hc hd hc2 hd2
  have e : vs.toArray ++ ws.toArray = (vs ++ ws).toArray := by simp
  by_cases hw : ws = []
  · exact concat_meets ⟨_, ho, rfl⟩ ⟨_, ho2, rfl⟩ noFill_tuple_add seq_tuple_add PySem.F.slot_tuple_add PySem.F.entry_tuple_add (PySem.F.args_tuple_add_2 _ _)
      (tuple_addW1 t b vs.toArray ws.toArray n n2 dd dd2 sl sl2 (by simpa using hv) (by simp [hw])) ⟨ho, ho2, h1 hw⟩
  · refine concat_meets ⟨_, ho, rfl⟩ ⟨_, ho2, rfl⟩ noFill_tuple_add seq_tuple_add PySem.F.slot_tuple_add PySem.F.entry_tuple_add (PySem.F.args_tuple_add_2 _ _)
      (tuple_addW2 t b vs.toArray ws.toArray n n2 dd dd2 sl sl2 (by simpa using hv) (by simpa using hw) (by rw [List.size_toArray, List.size_toArray]; exact hsz)) ⟨ho, ho2, ?_⟩
    rw [e]
    exact h2 hw

/-! ### t[a:b], not the whole -/
/-- a slice's bound as a place among n (d where it is left out) -/
def sIx (n d : Nat) : Option Int → Nat
  | none => d
  | some v => if v < 0 then (v + (n : Int)).toNat else min v.toNat n
theorem sIx_none (n d : Nat) : sIx n d none = d := rfl
theorem sIx_nat (n d k : Nat) : sIx n d (some (k : Int)) = min k n := by
  show (if (k : Int) < 0 then ((k : Int) + (n : Int)).toNat else min (k : Int).toNat n) = min k n
  rw [if_neg (by omega), Int.toNat_natCast]
theorem sIx_le (n d : Nat) (hd : d ≤ n) (o : Option Int) : sIx n d o ≤ n := by
  cases o with
  | none => exact hd
  | some v =>
    show (if v < 0 then (v + (n : Int)).toNat else min v.toNat n) ≤ n
    by_cases hv : v < 0
    · rw [if_pos hv]; omega
    · rw [if_neg hv]; exact Nat.min_le_right _ _
theorem clip_eq (v : Int) (n d : Nat) : (if v < 0 then max (v + (n : Int)) 0 else min v (n : Int)) = ((sIx n d (some v) : Nat) : Int) := by
  show (if v < 0 then max (v + (n : Int)) 0 else min v (n : Int)) = (((if v < 0 then (v + (n : Int)).toNat else min v.toNat n) : Nat) : Int)
  by_cases hv : v < 0
  · simp only [if_pos hv]; omega
  · simp only [if_neg hv]; omega
theorem adjust_gen (lo hi : Option Int) (n : Nat) : Builtin.Slice.sliceAdjust lo hi 1 (n : Int) = (((sIx n 0 lo : Nat) : Int), ((sIx n n hi : Nat) : Int)) := by
  have h1 : ¬ ((1 : Int) < 0) := by omega
  unfold Builtin.Slice.sliceAdjust
  simp only [h1, if_false]
  refine Prod.ext ?_ ?_
  · cases lo with
    | none => rfl
    | some v => exact clip_eq v n 0
  · cases hi with
    | none => rfl
    | some v => exact clip_eq v n n
theorem places_gen (i j : Nat) : Builtin.Slice.slicePlaces (i : Int) (j : Int) 1 = j - i := by
  unfold Builtin.Slice.slicePlaces
  have h1 : (1 : Int) > 0 := by omega
  simp only [h1, if_true, Int.ediv_one]
  split <;> omega
theorem slicePart_ {v : Value} {o : Option Int} {Q : Option Int → Shared → Prop} (p : IsPart v o) (h : Q o s) : wpAny (model prog w) A (Builtin.Slice.slicePartIndex v) Q E s := by
  cases p with
  | none => exact slicePart_none h
  | int i t => exact slicePart_int h
theorem sliceApplied_gen {sl : Addr} {vl vu : Value} {lo hi : Option Int} {n : Nat} {Q : Int × Int × Nat → Shared → Prop} (hs : s.heap.IsSliceOf sl vl vu .none) (pl : IsPart vl lo) (pu : IsPart vu hi)
    (h : Q (((sIx n 0 lo : Nat) : Int), 1, sIx n n hi - sIx n 0 lo) s) : wpAny (model prog w) A (Builtin.Slice.sliceApplied (.ref sl) (pure (n : Int))) Q E s := by
  obtain ⟨os, hos, hcs, hds⟩ := id hs
  unfold Builtin.Slice.sliceApplied Builtin.Slice.sliceFields
  refine wpAny_bind (wpAny_bind (wpAny_field hos hds (x := vl) rfl (wpAny_bind (wpAny_field hos hds (x := vu) rfl (wpAny_bind (wpAny_field hos hds (x := .none) rfl (wpAny_pure ?_)))))))
  refine wpAny_bind (slicePart_none ?_)
  show wpAny _ _ (if ((1 : Int) == 0) = true then _ else _) _ _ s
  rw [if_neg (by decide)]
  refine wpAny_bind (slicePart_ pl (wpAny_bind (slicePart_ pu (wpAny_bind (wpAny_pure ?_)))))
  show wpAny _ _ (match Builtin.Slice.sliceAdjust lo hi 1 (n : Int) with | (lo, hi) => pure (lo, (1 : Int), Builtin.Slice.slicePlaces lo hi 1)) _ _ s
  rw [adjust_gen lo hi n]
  show wpAny _ _ (pure (((sIx n 0 lo : Nat) : Int), (1 : Int), Builtin.Slice.slicePlaces ((sIx n 0 lo : Nat) : Int) ((sIx n n hi : Nat) : Int) 1)) _ _ s
  rw [places_gen]
  exact wpAny_pure h
theorem pick_gen (xs : Array Value) (i k : Nat) : ((List.range k).filterMap fun (m : Nat) => xs[((i : Int) + (m : Int) * 1).toNat]?).toArray = ((xs.toList.drop i).take k).toArray := by
  have e : (fun (m : Nat) => xs[((i : Int) + (m : Int) * 1).toNat]?) = fun m => xs[i + m]? := by
    funext m
    have : ((i : Int) + (m : Int) * 1).toNat = i + m := by omega
    rw [this]
  rw [e]
  have := pick_run xs i k
  rw [List.filterMap_map] at this
  have e2 : ((fun x => xs[x]?) ∘ fun x => i + x) = fun m => xs[i + m]? := rfl
  rw [e2] at this
  rw [this]

theorem getItem_tuple_cut {t sl : Addr} {items : Array Value} {vl vu : Value} {lo hi : Option Int} {Q : Value → Shared → Prop} (ht : IsTup s.heap t items) (hs : s.heap.IsSliceOf sl vl vu .none) (pl : IsPart vl lo) (pu : IsPart vu hi)
    (hw : ¬ (sIx items.size 0 lo = 0 ∧ sIx items.size items.size hi = items.size))
    (h : Q (.ref s.heap.objs.size) { s with heap := s.heap.push { cls := .type "tuple", data := .seq ((items.toList.drop (sIx items.size 0 lo)).take (sIx items.size items.size hi - sIx items.size 0 lo)).toArray } })
    (hsz : items.size ≤ sizeLine) : wpAny (model prog w) A (getItem (.ref t) (.ref sl)) Q E s := by
  have htake : sizeOk (.seq ((items.toList.drop (sIx items.size 0 lo)).take (sIx items.size items.size hi - sIx items.size 0 lo)).toArray) := by
    show ((items.toList.drop (sIx items.size 0 lo)).take (sIx items.size items.size hi - sIx items.size 0 lo)).toArray.size ≤ sizeLine
    rw [List.size_toArray, List.length_take, List.length_drop, Array.length_toList]
    omega
  have hj : sIx items.size items.size hi ≤ items.size := sIx_le _ _ (Nat.le_refl _) hi
  obtain ⟨os, hos, hcs, hds⟩ := id hs
  have hTs : s.TypeIs (.ref sl) "slice" := ⟨os, hos, hcs⟩
  unfold getItem
  try with_reducible refine wpAny_holding ?_
  first | refine wpAny_bind (wpAny_pure ?_) | skip
  refine wpAny_bind (wpAny_sequenceKey ht.typeIs (by decide) ?_)
  refine wpAny_bind (wpAny_callSpecial?_slot (name := Str.ofString "__getitem__") ht.typeIs PyProof.Rows.slot_tuple_getitem
    (wpAny_call_entry PyProof.Rows.slot_tuple_getitem ht.typeIs entry_tuple_getitem ?_ (args_tuple_getitem _ _)))
  show wpAny _ _ (Builtin.Tuple.tupleItemsOf (.ref t) >>= _) _ _ s
  refine wpAny_bind (tupleItemsOf_ ht ?_)
  refine wpAny_bind (wpAny_typeOf hTs ?_)
  rw [if_pos (by decide)]
  refine wpAny_bind (sliceApplied_gen hs pl pu ?_)
  have hno : ¬ ((((sIx items.size 0 lo : Nat) : Int) == 0 && (1 : Int) == 1 && (sIx items.size items.size hi - sIx items.size 0 lo) == items.size) = true) := by
    intro q
    rw [Bool.and_eq_true, Bool.and_eq_true] at q
    have q1 : ((sIx items.size 0 lo : Nat) : Int) = 0 := eq_of_beq q.1.1
    have q2 : sIx items.size items.size hi - sIx items.size 0 lo = items.size := eq_of_beq q.2
    exact hw ⟨by omega, by omega⟩
  show wpAny _ _ (if (((sIx items.size 0 lo : Nat) : Int) == 0 && (1 : Int) == 1 && (sIx items.size items.size hi - sIx items.size 0 lo) == items.size) = true then _ else _) _ _ s
  rw [if_neg hno, pick_gen]
  first
    | exact wpAny_bind (m := Builtin.Tuple.tupleExact _) (wpAny_newObj_type (wpAny_pure ⟨_, rfl, wpAny_pure h⟩) htake)
    | exact wpAny_bind (m := Builtin.Tuple.tupleExact _) (wpAny_newObj_type (wpAny_bind (wpAny_pure (wpAny_pure ⟨_, rfl, wpAny_pure h⟩))) htake)
    | exact wpAny_bind (wpAny_bind (m := Builtin.Tuple.tupleExact _) (wpAny_newObj_type (wpAny_pure (wpAny_pure ⟨_, rfl, wpAny_pure h⟩)) htake))
    | exact wpAny_bind (wpAny_bind (m := Builtin.Tuple.tupleExact _) (wpAny_newObj_type (wpAny_pure ⟨_, rfl, wpAny_pure h⟩) htake))
end
end HT

namespace L2
open PySem PySem.Spec PyProof.Rows

/-! ### the parts of a slice -/
abbrev TO := St → Hp → (Option Int → Hp → Prop) → Prop
/-- a slice's part (left out, or an int) -/
def PO (X : Cx) (e : Option Expr) (t : TO) : Prop :=
  ∀ (pins : List (Addr × Obj)) (s : Shared) (σ : St) (H : Hp) (Q : Option Int → Hp → Prop), Inv X pins σ H s → t σ H Q →
    wpAny (model X.prog X.w) X.A (evalPart e X.env) (fun u s' => ∃ o H', Inv X pins σ H' s' ∧ IsPart u o ∧ Q o H') X.xe s
def tNoPart : TO := fun _ H Q => Q none H
def tPart (t : TE) : TO := fun σ H Q => t σ H fun x H1 => ∃ i, x = .int i ∧ Q (some i) H1

theorem intsAre_of {ns : List Int} : ∀ {us : List Value}, Vals (ns.map V.int) us → IntsAre us ns := by
  induction ns with
  | nil => intro us r; rw [List.map_nil] at r; cases r; exact .nil
  | cons n ns ih =>
    intro us r
    rw [List.map_cons] at r
    cases r with
    | cons r1 r2 =>
      obtain ⟨t, e⟩ := r1
      subst e
      exact .cons n t (ih r2)

section
variable {X : Cx} {e : Expr} {te : TE} {lo hi : Option Expr} {tl th : TO} {pos p2 : Pos}

theorem po_none : PO X none tNoPart := by
  intro pins s σ H Q I h
  rw [evalPart_none]
  exact wpAny_pure ⟨none, H, I, .none, h⟩
theorem po_some (h : PE X e te) : PO X (some e) (tPart te) := by
  intro pins s σ H Q I hw
  rw [evalPart_some]
  refine thn (h pins s σ H _ I hw) fun u s1 ⟨x, H1, I1, r1, q1⟩ => ?_
  obtain ⟨i, rfl, q⟩ := q1
  obtain ⟨t, rfl⟩ := r1
  exact ⟨some i, H1, I1, .int i t, q⟩

/-- what a slice of a value is, by values: the slice object stands at sl -/
def SlR (X : Cx) (r : V → Option Int → Option Int → Hp → VK → Prop) : Prop :=
  ∀ (pins : List (Addr × Obj)) (s : Shared) (σ : St) (H : Hp) (x : V) (v vl vu : Value) (lo hi : Option Int) (sl : Addr) (Q : VK), Inv X pins σ H s → RelV x v → s.heap.IsSliceOf sl vl vu .none → IsPart vl lo → IsPart vu hi → r x lo hi H Q →
    ∃ T id, typeLookup (.type T) "__getitem__" = pure (some (.builtin id)) ∧ s.TypeIs v T ∧ wpAny (model X.prog X.w) X.A (getItem v (.ref sl)) (EP X pins σ Q) X.xe s
theorem SlR.or {r r' : V → Option Int → Option Int → Hp → VK → Prop} (h : SlR X r) (h' : SlR X r') : SlR X (fun x lo hi H Q => r x lo hi H Q ∨ r' x lo hi H Q) := by
  intro pins s σ H x v vl vu lo hi sl Q I rx hs pl pu q
  rcases q with q | q
  · exact h pins s σ H x v vl vu lo hi sl Q I rx hs pl pu q
  · exact h' pins s σ H x v vl vu lo hi sl Q I rx hs pl pu q
def tSl (r : V → Option Int → Option Int → Hp → VK → Prop) (te : TE) (tl th : TO) : TE := fun σ H Q => te σ H fun x H1 => tl σ H1 fun l H2 => th σ H2 fun u H3 => r x l u H3 Q
/-- a[lo:hi], any a -/
theorem pe_slice {r : V → Option Int → Option Int → Hp → VK → Prop} (hr : SlR X r) (he : PE X e te) (hl : PO X lo tl) (hu : PO X hi th) : PE X (.Subscript e (.Slice lo hi none p2) pos) (tSl r te tl th) := by
  intro pins s σ H Q I h
  refine Subscript_ (thn (he pins s σ H _ I h) fun v s1 ⟨x, H1, I1, r1, q1⟩ => ?_)
  refine wpAny_Slice (thn (hl pins s1 σ H1 _ I1 q1) fun vl s2 ⟨l, H2, I2, pl, q2⟩ => thn (hu pins s2 σ H2 _ I2 q2) fun vu s3 ⟨u, H3, I3, pu, q3⟩ => ?_)
  rw [evalPart_none]
  refine wpAny_pure ?_
  have I4 : Inv X pins σ H3 { s3 with heap := s3.heap.push { cls := .type "slice", data := .fields #[vl, vu, .none] } } := I3.kept (t' := s3.toks) fun b ob q => Heap.get?_push_of_some _ q
  obtain ⟨T, id, hT, ht, hg⟩ := hr pins { s3 with heap := s3.heap.push { cls := .type "slice", data := .fields #[vl, vu, .none] } } σ H3 x v vl vu l u s3.heap.objs.size Q I4 r1 (Heap.IsSliceOf.new ..) pl pu q3
  show wpAny (model X.prog X.w) X.A (subscriptTail e (.Slice lo hi none p2) v (.ref s3.heap.objs.size)) (EP X pins σ Q) X.xe { s3 with heap := s3.heap.push { cls := .type "slice", data := .fields #[vl, vu, .none] } }
  exact tail_any (ops := [.ref s3.heap.objs.size, v]) ht hT hg (by with_unfolding_all rfl)

/-- the items of xs[lo:hi] -/
def cutV (xs : List V) (lo hi : Option Int) : List V := (xs.drop (HT.sIx xs.length 0 lo)).take (HT.sIx xs.length xs.length hi - HT.sIx xs.length 0 lo)
theorem cutV_length (xs : List V) (lo hi : Option Int) : (cutV xs lo hi).length ≤ xs.length := by
  unfold cutV
  rw [List.length_take, List.length_drop]
  omega
/-- t[lo:hi], not the whole of it (the whole would be t itself) -/
def rSlT (K : PySem.W.Frag) : V → Option Int → Option Int → Hp → VK → Prop := fun x lo hi H Q => ∃ a xs, x = .ref a ∧ SqT K H a xs ∧
  ¬ (HT.sIx xs.length 0 lo = 0 ∧ HT.sIx xs.length xs.length hi = xs.length) ∧ ∀ p, H p = none → Q (.ref p) (upd H p (.tup (cutV xs lo hi)))
theorem sl_tup : SlR X (rSlT X.K) := by
  intro pins s σ H x v vl vu lo hi sl Q I rx hs pl pu h
  obtain ⟨a, xs, rfl, hx, hw, q⟩ := h
  cases rx
  obtain ⟨its, r, ht, hz⟩ := I.tuple hx
  have hlen : its.toArray.size = xs.length := by rw [List.size_toArray]; exact r.length.symm
  refine ⟨"tuple", _, PyProof.Rows.slot_tuple_getitem.lookup, ht.typeIs, ?_⟩
  refine HT.getItem_tuple_cut ht hs pl pu (by rw [hlen]; exact hw) ?_ (by rw [hlen]; exact hz)
  rw [hlen]
  refine ⟨.ref s.heap.objs.size, _, I.laid (t' := s.toks) (o := .tup (cutV xs lo hi)) (fun b ob q => Heap.get?_push_of_some _ q) (Nat.le_refl _) ?_, rfl, q _ (I.hok.fresh (Nat.le_refl _))⟩
  exact ⟨Nat.le_trans (cutV_length xs lo hi) hz, _, (r.drop (HT.sIx xs.length 0 lo)).take (HT.sIx xs.length xs.length hi - HT.sIx xs.length 0 lo), IsTup.new _ _⟩

/-! ### t < u, t + u -/
def rLtT (K : PySem.W.Frag) : R2 := fun x y H Q => ∃ a b ns ms, x = .ref a ∧ y = .ref b ∧ SqT K H a (ns.map V.int) ∧ SqT K H b (ms.map V.int) ∧ Q (.bl (HT.lexLt ns ms)) H
theorem op_ltT (hu : X.A.units < cLine) : OpR X (compareOp .Lt) (rLtT X.K) := by
  intro pins s σ H x y v u Q I rx ry h
  obtain ⟨a, b, ns, ms, rfl, rfl, ha, hb, q⟩ := h
  cases rx
  cases ry
  obtain ⟨its, r1, p1, _⟩ := I.tuple ha
  obtain ⟨its2, r2, p2, _⟩ := I.tuple hb
  have i1 : IntsAre its.toArray.toList ns := intsAre_of r1
  have i2 : IntsAre its2.toArray.toList ms := intsAre_of r2
  exact HT.lt_tupInts p1 p2 i1 i2 hu ⟨.bl (HT.lexLt ns ms), H, I, rfl, q⟩
/-- t + u, t not empty: u empty gives t itself -/
def rCatT (K : PySem.W.Frag) : R2 := fun x y H Q => ∃ a b xs ys, x = .ref a ∧ y = .ref b ∧ SqT K H a xs ∧ SqT K H b ys ∧ xs ≠ [] ∧ xs.length + ys.length ≤ sizeLine ∧
  (ys = [] → Q (.ref a) H) ∧ (ys ≠ [] → ∀ p, H p = none → Q (.ref p) (upd H p (.tup (xs ++ ys))))
theorem Vals.nil_iff {xs : List V} {us : List Value} (r : Vals xs us) : us = [] ↔ xs = [] := by
  cases r with
  | nil => simp
  | cons _ _ => simp
theorem op_catT : OpR X (binaryOp .Add) (rCatT X.K) := by
  intro pins s σ H x y v u Q I rx ry h
  obtain ⟨a, b, xs, ys, rfl, rfl, ha, hb, hx, hz, q1, q2⟩ := h
  cases rx
  cases ry
  obtain ⟨its, r1, p1, _⟩ := I.tuple ha
  obtain ⟨its2, r2, p2, _⟩ := I.tuple hb
  refine HT.cat_tup p1 p2 (fun z => hx (r1.nil_iff.mp z)) (fun z => ⟨.ref a, H, I, rfl, q1 (r2.nil_iff.mp z)⟩) (fun z => ?_) (by rw [← r1.length, ← r2.length]; exact hz)
  refine ⟨.ref s.heap.objs.size, _, I.laid (t' := s.toks) (o := .tup (xs ++ ys)) (fun b ob q => Heap.get?_push_of_some _ q) (Nat.le_refl _) ?_, rfl, q2 (fun w => z (r2.nil_iff.mpr w)) _ (I.hok.fresh (Nat.le_refl _))⟩
  exact ⟨by rw [List.length_append]; exact hz, _, r1.append r2, IsTup.new _ _⟩
/-- tuple(t) -/
theorem call_tupleT : CallR X (.type "tuple") (fun xs H Q => ∃ a ys, xs = [.ref a] ∧ SqT X.K H a ys ∧ Q (.ref a) H) := by
  intro pins s σ H xs us Q I r h
  obtain ⟨a, ys, rfl, ha, q⟩ := h
  obtain ⟨u, rfl, ru⟩ := vals1 r
  cases ru
  obtain ⟨its, _, p1, _⟩ := I.tuple ha
  exact call_tuple_same (items := its.toArray) p1 ⟨.ref a, H, I, rfl, q⟩
end
end L2

namespace L2
open PySem PySem.Spec PyProof.Rows

/-! ### places -/
/-- the place that an index of any sign means -/
def ixN (n : Nat) (i : Int) : Option Nat := if 0 ≤ i then (if i < n then some i.toNat else none) else if -(n : Int) ≤ i then some (i + n).toNat else none
def atI {α : Type} (xs : List α) (i : Int) : Option α := (ixN xs.length i).bind fun j => xs[j]?
theorem ixN_seq {n : Nat} {i : Int} {j : Nat} (h : ixN n i = some j) : seqIndex? i n = some j ∧ j < n ∧ -(n : Int) ≤ i ∧ i < n := by
  unfold ixN at h
  by_cases h0 : 0 ≤ i
  · rw [if_pos h0] at h
    by_cases h1 : i < n
    · rw [if_pos h1] at h
      have e : i.toNat = j := Option.some.inj h
      exact ⟨by rw [seqIndex_of h0 h1, e], by omega, by omega, h1⟩
    · rw [if_neg h1] at h; cases h
  · rw [if_neg h0] at h
    by_cases h1 : -(n : Int) ≤ i
    · rw [if_pos h1] at h
      have e : (i + n).toNat = j := Option.some.inj h
      exact ⟨by rw [seqIndex_neg (by omega) h1, e], by omega, h1, by omega⟩
    · rw [if_neg h1] at h; cases h
theorem atI_get {α : Type} {xs : List α} {i : Int} {v : α} (h : atI xs i = some v) : ∃ j, seqIndex? i xs.length = some j ∧ xs[j]? = some v ∧ j < xs.length ∧ -(xs.length : Int) ≤ i ∧ i < xs.length := by
  unfold atI at h
  cases e : ixN xs.length i with
  | none => rw [e] at h; cases h
  | some j =>
    rw [e] at h
    obtain ⟨h1, h2, h3, h4⟩ := ixN_seq e
    exact ⟨j, h1, h, h2, h3, h4⟩
theorem atI_nat {α : Type} {xs : List α} {j : Nat} {v : α} (h : xs[j]? = some v) : atI xs (j : Int) = some v := by
  have hj : j < xs.length := (List.getElem?_eq_some_iff.mp h).1
  have e : ixN xs.length (j : Int) = some j := by
    unfold ixN
    rw [if_pos (by omega), if_pos (by omega)]; simp
  unfold atI; rw [e]; exact h
theorem atI_last {α : Type} (xs : List α) (v : α) : atI (xs ++ [v]) (-1) = some v := by
  have hl : (xs ++ [v]).length = xs.length + 1 := by simp
  have e : ixN (xs ++ [v]).length (-1) = some xs.length := by
    unfold ixN
    rw [hl, if_neg (by decide), if_pos (by omega)]
    congr 1
    omega
  unfold atI
  rw [e]
  show (xs ++ [v])[xs.length]? = some v
  simp

/-! ### what may be subscripted -/
/-- what stands as an index of a plain subscript -/
def PlainIx (b : Expr) : Prop := ∀ o i, subscripted b false o i = operate [o, i] (getItem o i)
/-- a subscript by values -/
def IxR (X : Cx) (r : R2) : Prop :=
  ∀ (value slice : Expr) (pins : List (Addr × Obj)) (s : Shared) (σ : St) (H : Hp) (x y : V) (v u : Value) (Q : VK), Inv X pins σ H s → RelV x v → RelV y u → r x y H Q →
    subscripted slice false v u = operate [v, u] (getItem v u) → wpAny (model X.prog X.w) X.A (subscriptTail value slice v u) (EP X pins σ Q) X.xe s
/-- a call of a builtin's method by values: the receiver, the arguments -/
def MtR (X : Cx) (id : String) (r : V → List V → Hp → VK → Prop) : Prop :=
  ∀ (pins : List (Addr × Obj)) (s : Shared) (σ : St) (H : Hp) (x : V) (xs : List V) (v : Value) (us : List Value) (Q : VK), Inv X pins σ H s → RelV x v → Vals xs us → r x xs H Q →
    wpAny (model X.prog X.w) X.A (call (.builtin id) (v :: us)) (EP X pins σ Q) X.xe s
section
variable {X : Cx} {a b : Expr} {ta tb : TE} {pos : Pos}
theorem IxR.or {r r' : R2} (h : IxR X r) (h' : IxR X r') : IxR X (fun x y H Q => r x y H Q ∨ r' x y H Q) := by
  intro value slice pins s σ H x y v u Q I rx ry q hs
  rcases q with q | q
  · exact h value slice pins s σ H x y v u Q I rx ry q hs
  · exact h' value slice pins s σ H x y v u Q I rx ry q hs
theorem MtR.or {id : String} {r r' : V → List V → Hp → VK → Prop} (h : MtR X id r) (h' : MtR X id r') : MtR X id (fun x xs H Q => r x xs H Q ∨ r' x xs H Q) := by
  intro pins s σ H x xs v us Q I rx rs q
  rcases q with q | q
  · exact h pins s σ H x xs v us Q I rx rs q
  · exact h' pins s σ H x xs v us Q I rx rs q
/-- a[b] -/
theorem pe_ix {r : R2} (hr : IxR X r) (ha : PE X a ta) (hb : PE X b tb) (hs : PlainIx b) : PE X (.Subscript a b pos) (tOp r ta tb) := by
  intro pins s σ H Q I h
  exact Subscript_ (binT ha hb I h fun v u s2 x y H2 I2 rx ry q => hr a b pins s2 σ H2 x y v u Q I2 rx ry q (hs _ _))

def rIxL (K : PySem.W.Frag) : R2 := fun x y H Q => ∃ p xs i v, x = .ref p ∧ y = .int i ∧ SqL K H p xs ∧ atI xs i = some v ∧ Q v H
def rIxT (K : PySem.W.Frag) : R2 := fun x y H Q => ∃ p xs i v, x = .ref p ∧ y = .int i ∧ SqT K H p xs ∧ atI xs i = some v ∧ Q v H
def rIxS : R2 := fun x y H Q => ∃ z i c, x = .str z ∧ y = .int i ∧ z.length ≤ sizeLine ∧ atI z.cps.toList i = some c ∧ Q (.str ⟨#[c]⟩) H
theorem ix_list : IxR X (rIxL X.K) := by
  intro value slice pins s σ H x y v u Q I rx ry h hs
  obtain ⟨p, xs, i, z, rfl, rfl, hq, he, q⟩ := h
  cases rx
  obtain ⟨t, rfl⟩ := ry
  obtain ⟨its, r, pl, hz⟩ := I.list hq
  obtain ⟨j, h1, h2, h3, h4, h5⟩ := atI_get he
  obtain ⟨w, ew, rw'⟩ := r.get h2
  have hl := r.length
  have hn := line63
  have fin : EP X pins σ Q w s := ⟨z, H, I, rw', q⟩
  by_cases h0 : 0 ≤ i
  · have hj : i.toNat = j := by
      rw [seqIndex_of h0 h5] at h1
      exact Option.some.inj h1
    exact item_listR pl.isList h0 (by omega) (by rw [hj]; simpa using ew) fin hs
  · have hj : (i + (its.toArray.size : Int)).toNat = j := by
      rw [seqIndex_neg (by omega) h4] at h1
      rw [List.size_toArray, ← hl]
      exact Option.some.inj h1
    exact subscriptTail_builtinR (x := w) pl.isList.typeIs slot_list_getitem.lookup
      (wpAny_getItem_list_neg (Q := fun r s' => r = w ∧ EP X pins σ Q r s') pl.isList (by omega) (by rw [List.size_toArray] <;> omega) (by omega) (by rw [hj]; simpa using ew) ⟨rfl, fin⟩) hs
theorem ix_tup : IxR X (rIxT X.K) := by
  intro value slice pins s σ H x y v u Q I rx ry h hs
  obtain ⟨p, xs, i, z, rfl, rfl, hq, he, q⟩ := h
  cases rx
  obtain ⟨t, rfl⟩ := ry
  obtain ⟨its, r, pl, hz⟩ := I.tuple hq
  obtain ⟨j, h1, h2, h3, h4, h5⟩ := atI_get he
  obtain ⟨w, ew, rw'⟩ := r.get h2
  have hl := r.length
  have hn := line63
  have fin : EP X pins σ Q w s := ⟨z, H, I, rw', q⟩
  exact subscriptTail_builtinR (x := w) pl.typeIs slot_tuple_getitem.lookup
    (getItem_tuple (j := j) (Q := fun r s' => r = w ∧ EP X pins σ Q r s') pl (by omega) (by omega) (by rw [List.size_toArray, ← hl]; exact h1) (by simpa using ew) ⟨rfl, fin⟩) hs
theorem ix_str : IxR X rIxS := by
  intro value slice pins s σ H x y v u Q I rx ry h hs
  obtain ⟨z, i, c, rfl, rfl, hz, he, q⟩ := h
  obtain ⟨t, rfl⟩ := rx
  obtain ⟨t', rfl⟩ := ry
  obtain ⟨j, h1, h2, h3, h4, h5⟩ := atI_get he
  have hl : z.cps.toList.length = z.length := by simp [Str.length]
  rw [hl] at h1 h4 h5
  have hn := line63
  exact tail_any (typeIs_str s z t) slot_str_getitem.lookup (getItem_str (c := c) (by
    have e1 : decide (i < -(2 ^ 63 : Int)) = false := decide_eq_false (by omega)
    have e2 : decide (i ≥ 2 ^ 63) = false := decide_eq_false (by omega)
    rw [e1, e2, Bool.or_false]) (by rw [h1]; simpa using h2) ⟨.str ⟨#[c]⟩, H, I.tok _, ⟨_, rfl⟩, q⟩) hs
/-- list, tuple or str -/
def rIx (K : PySem.W.Frag) : R2 := fun x y H Q => rIxL K x y H Q ∨ rIxT K x y H Q ∨ rIxS x y H Q
theorem ix_seq : IxR X (rIx X.K) := ix_list.or (ix_tup.or ix_str)

/-! ### xs[i] = v, any sign -/
/-- the list's object behind a store -/
theorem mapSeq_set (its : List Value) (n j : Nat) (u : Value) : Obj.mapSeq (·.setIfInBounds j u) { cls := .type "list", data := .seq its.toArray n } = { cls := .type "list", data := .seq (its.set j u).toArray n } := by
  simp [Obj.mapSeq]
theorem Inv.lst {pins : List (Addr × Obj)} {σ : St} {H : Hp} {s : Shared} {p : Addr} {xs : List V} (I : Inv X pins σ H s) (h : H p = some (.lst xs)) :
    ∃ (its : List Value) (n : Nat), Vals xs its ∧ s.heap.get? p = some { cls := .type "list", data := .seq its.toArray n } ∧ xs.length ≤ sizeLine := by
  obtain ⟨z, its, n, r, e⟩ := I.hok p _ h
  exact ⟨its, n, r, e, z⟩
/-- the list at p is written by an update of its object -/
theorem Inv.lstUpd {pins : List (Addr × Obj)} {σ : St} {H : Hp} {s : Shared} {p : Addr} {xs ys : List V} {its its' : List Value} {n n' : Nat} {f : Obj → Obj} (I : Inv X pins σ H s) (h : H p = some (.lst xs))
    (ho : s.heap.get? p = some { cls := .type "list", data := .seq its.toArray n }) (hf : f { cls := .type "list", data := .seq its.toArray n } = { cls := .type "list", data := .seq its'.toArray n' }) (r : Vals ys its') (hz : ys.length ≤ sizeLine) (t : Nat) :
    Inv X pins σ (upd H p (.lst ys)) { s with heap := s.heap.update p f, toks := t } := by
  have e : (s.heap.update p f).get? p = some { cls := .type "list", data := .seq its'.toArray n' } := by
    rw [Heap.get?_update_self f ho (by rw [hf] <;> rfl), hf]
  refine I.write (x := p) (e := p) (by rw [h]; trivial) (.inl rfl) (fun b u hb q => (Heap.get?_update_other _ _ (Ne.symm hb)).trans q) ⟨_, e⟩ ?_
  exact ⟨hz, its', n', r, e⟩
def rSetL : V → V → V → Hp → (Hp → Prop) → Prop := fun o i v H Q => ∃ p xs k j, o = .ref p ∧ i = .int k ∧ H p = some (.lst xs) ∧ ixN xs.length k = some j ∧ Q (upd H p (.lst (xs.set j v)))
theorem set_list : PSet X rSetL := by
  intro pins s σ H o i v ov iv u Q I ro ri rv h
  obtain ⟨p, xs, k, j, rfl, rfl, hp, hj, q⟩ := h
  cases ro
  obtain ⟨t, rfl⟩ := ri
  obtain ⟨its, n, r, ho, hz⟩ := I.lst hp
  obtain ⟨h1, h2, h3, h4⟩ := ixN_seq hj
  have hl := r.length
  have hn := line63
  have I' : Inv X pins σ (upd H p (.lst (xs.set j v))) { s with heap := s.heap.update p (Obj.mapSeq (·.setIfInBounds j u)) } :=
    I.lstUpd hp ho (mapSeq_set its n j u) (r.set rv j) (by rw [List.length_set]; exact hz) s.toks
  by_cases h0 : 0 ≤ k
  · have hk : k.toNat = j := by
      rw [seqIndex_of h0 h4] at h1
      exact Option.some.inj h1
    exact PySem.W.ki_setAt ho h0 (by omega) (by rw [List.size_toArray, ← hl]; exact h4) (by rw [hk]; exact ⟨_, I', q⟩)
  · have hk : (k + (its.toArray.size : Int)).toNat = j := by
      rw [seqIndex_neg (by omega) h3] at h1
      rw [List.size_toArray, ← hl]
      exact Option.some.inj h1
    exact PySem.W.ki_setBack ho (by omega) (by rw [List.size_toArray, ← hl]; exact h3) (by omega) (by rw [hk]; exact ⟨_, I', q⟩)

/-! ### slices -/
theorem slice_bounds (lo hi : Option Int) (n : Nat) : (sliceBounds lo hi none n).1 = ((HT.sIx n 0 lo : Nat) : Int) ∧ (sliceBounds lo hi none n).2.1 = ((HT.sIx n n hi : Nat) : Int) ∧ (sliceBounds lo hi none n).2.2 = 1 := by
  refine ⟨?_, ?_, rfl⟩
  · cases lo with
    | none => simp [sliceBounds, HT.sIx]
    | some i =>
      simp only [sliceBounds, HT.sIx, Option.getD_none, show (1 : Int) > 0 by decide, if_true]
      by_cases h : i < 0
      · simp only [h, if_true] <;> omega
      · simp only [h, if_false] <;> omega
  · cases hi with
    | none => simp [sliceBounds, HT.sIx]
    | some i =>
      simp only [sliceBounds, HT.sIx, Option.getD_none, show (1 : Int) > 0 by decide, if_true]
      by_cases h : i < 0
      · simp only [h, if_true] <;> omega
      · simp only [h, if_false] <;> omega
theorem slicePick_cut (its : List Value) (lo hi : Option Int) : slicePick its.toArray lo hi none = ((its.drop (HT.sIx its.length 0 lo)).take (HT.sIx its.length its.length hi - HT.sIx its.length 0 lo)).toArray := by
  obtain ⟨h1, h2, h3⟩ := slice_bounds lo hi its.toArray.size
  unfold slicePick
  rw [h1, h2, h3]
  simp only [sliceRange_one, pick_run, List.size_toArray] <;> rfl
/-- xs[lo:hi] of a list: a new list -/
def rSlL (K : PySem.W.Frag) : V → Option Int → Option Int → Hp → VK → Prop := fun x lo hi H Q => ∃ a xs, x = .ref a ∧ SqL K H a xs ∧ ∀ p, H p = none → Q (.ref p) (upd H p (.lst (cutV xs lo hi)))
theorem sl_list : SlR X (rSlL X.K) := by
  intro pins s σ H x v vl vu lo hi sl Q I rx hs pl pu h
  obtain ⟨a, xs, rfl, hx, q⟩ := h
  cases rx
  obtain ⟨its, r, ht, hz⟩ := I.list hx
  have hlen := r.length
  refine ⟨"list", _, slot_list_getitem.lookup, ht.isList.typeIs, ?_⟩
  refine wpAny_getItem_list_slice ht.isList hs pl pu .none (by simp) ?_ (by rw [List.size_toArray] <;> omega)
  rw [slicePick_cut, ← hlen]
  refine ⟨.ref s.heap.objs.size, _, I.laid (t' := s.toks) (o := .lst (cutV xs lo hi)) (fun b ob q => Heap.get?_push_of_some _ q) (Nat.le_refl _) ?_, rfl, q _ (I.hok.fresh (Nat.le_refl _))⟩
  exact ⟨Nat.le_trans (cutV_length xs lo hi) hz, _, 0, (r.drop (HT.sIx xs.length 0 lo)).take (HT.sIx xs.length xs.length hi - HT.sIx xs.length 0 lo), Heap.get?_push_size _ rfl⟩

/-! ### in, not in: flat items -/
def flatV : V → Bool
  | .non => true
  | .bl _ => true
  | .int _ => true
  | .str _ => true
  | _ => false
/-- == of flat values -/
def eqV : V → V → Bool
  | .non, .non => true
  | .bl a, .bl b => a == b
  | .bl a, .int b => (if a then 1 else 0) == b
  | .int a, .bl b => a == (if b then 1 else 0)
  | .int a, .int b => a == b
  | .str a, .str b => a == b
  | _, _ => false
theorem eqAt_V {A : Around} {s : Shared} {y x : V} {u v : Value} (ry : RelV y u) (rx : RelV x v) (fy : flatV y = true) (fx : flatV x = true) : SeqAt.EqAt A s u v (eqV y x) := by
  cases y with
  | non =>
    cases ry
    cases x with
    | non => cases rx; exact SeqAt.EqAt.same _
    | bl b => cases rx; exact SeqAt.EqAt.none_bool b
    | int b => obtain ⟨t, rfl⟩ := rx; exact SeqAt.EqAt.none_int b t
    | str b => obtain ⟨t, rfl⟩ := rx; exact SeqAt.EqAt.none_str b t
    | _ => exact absurd (show false = true from fx) Bool.false_ne_true
  | bl a =>
    cases ry
    cases x with
    | non => cases rx; exact SeqAt.EqAt.bool_none a
    | bl b => cases rx; exact SeqAt.EqAt.bool_bool a b
    | int b => obtain ⟨t, rfl⟩ := rx; exact SeqAt.EqAt.bool_int a b t
    | str b => obtain ⟨t, rfl⟩ := rx; exact SeqAt.EqAt.bool_str a b t
    | _ => exact absurd (show false = true from fx) Bool.false_ne_true
  | int a =>
    obtain ⟨t', rfl⟩ := ry
    cases x with
    | non => cases rx; exact SeqAt.EqAt.int_none a t'
    | bl b => cases rx; exact SeqAt.EqAt.int_bool a t' b
    | int b => obtain ⟨t, rfl⟩ := rx; exact SeqAt.EqAt.int_int a t' b t
    | str b => obtain ⟨t, rfl⟩ := rx; exact SeqAt.EqAt.int_str a t' b t
    | _ => exact absurd (show false = true from fx) Bool.false_ne_true
  | str a =>
    obtain ⟨t', rfl⟩ := ry
    cases x with
    | non => cases rx; exact SeqAt.EqAt.str_none a t'
    | bl b => cases rx; exact SeqAt.EqAt.str_bool a t' b
    | int b => obtain ⟨t, rfl⟩ := rx; exact SeqAt.EqAt.str_int a t' b t
    | str b => obtain ⟨t, rfl⟩ := rx; exact SeqAt.EqAt.str_str a t' b t
    | _ => exact absurd (show false = true from fx) Bool.false_ne_true
  | _ => exact absurd (show false = true from fy) Bool.false_ne_true
/-- the items' answers, read off the values (a value's own answer does not lean on its token) -/
def eqU (x : V) (u : Value) : Bool := match u with
  | .none => eqV .non x
  | .bool b => eqV (.bl b) x
  | .int i _ => eqV (.int i) x
  | .str z _ => eqV (.str z) x
  | _ => false
theorem eqU_of {x y : V} {u : Value} (r : RelV y u) (f : flatV y = true) : eqU x u = eqV y x := by
  cases y with
  | non => cases r; rfl
  | bl b => cases r; rfl
  | int i => obtain ⟨t, rfl⟩ := r; rfl
  | str z => obtain ⟨t, rfl⟩ := r; rfl
  | _ => exact absurd (show false = true from f) Bool.false_ne_true
theorem any_eqU {x : V} : ∀ {xs : List V} {us : List Value}, Vals xs us → xs.all flatV = true → us.any (eqU x) = xs.any fun y => eqV y x
  | _, _, .nil, _ => rfl
  | y :: xs, u :: us, .cons r t, f => by
    rw [List.all_cons, Bool.and_eq_true] at f
    rw [List.any_cons, List.any_cons, eqU_of r f.1, any_eqU t f.2]
theorem mem_eqAt {A : Around} {s : Shared} {x : V} {v : Value} (rx : RelV x v) (fx : flatV x = true) : ∀ {xs : List V} {us : List Value}, Vals xs us → xs.all flatV = true → ∀ u ∈ us, SeqAt.EqAt A s u v (eqU x u)
  | _, _, .nil, _ => fun u hu => by cases hu
  | y :: xs, u :: us, .cons r t, f => fun u' hu => by
    rw [List.all_cons, Bool.and_eq_true] at f
    rcases List.mem_cons.mp hu with rfl | hu
    · rw [eqU_of r f.1]; exact eqAt_V r rx f.1 fx
    · exact mem_eqAt rx fx t f.2 u' hu
def inV (x : V) (xs : List V) : Bool := xs.any fun y => eqV y x
/-- x in a list or tuple of flat items -/
def rIn (K : PySem.W.Frag) (neg : Bool) : R2 := fun x y H Q => ∃ p xs, y = .ref p ∧ (SqL K H p xs ∨ SqT K H p xs) ∧ flatV x = true ∧ xs.all flatV = true ∧ Q (.bl (if neg then !inV x xs else inV x xs)) H
theorem op_in_seq : OpR X (compareOp .In) (rIn X.K false) := by
  intro pins s σ H x y v u Q I rx ry h
  obtain ⟨p, xs, rfl, hq, fx, fs, q⟩ := h
  cases ry
  rcases hq with hq | hq
  · obtain ⟨its, r, pl, hz⟩ := I.list hq
    refine SeqAt.in_listAt (eqU x) pl.isList (fun w hw => mem_eqAt rx fx r fs w (by simpa using hw)) ⟨.bl _, H, I, rfl, ?_⟩
    rw [show its.toArray.any (eqU x) = its.any (eqU x) by simp, any_eqU r fs]
    exact q
  · obtain ⟨its, r, pl, hz⟩ := I.tuple hq
    refine SeqAt.in_tupleAt (eqU x) pl (fun w hw => mem_eqAt rx fx r fs w (by simpa using hw)) ⟨.bl _, H, I, rfl, ?_⟩
    rw [show its.toArray.any (eqU x) = its.any (eqU x) by simp, any_eqU r fs]
    exact q
theorem op_notIn_seq : OpR X (compareOp .NotIn) (rIn X.K true) := by
  intro pins s σ H x y v u Q I rx ry h
  obtain ⟨p, xs, rfl, hq, fx, fs, q⟩ := h
  cases ry
  rcases hq with hq | hq
  · obtain ⟨its, r, pl, hz⟩ := I.list hq
    refine SeqAt.notIn_listAt (eqU x) pl.isList (fun w hw => mem_eqAt rx fx r fs w (by simpa using hw)) ⟨.bl _, H, I, rfl, ?_⟩
    rw [show its.toArray.any (eqU x) = its.any (eqU x) by simp, any_eqU r fs]
    exact q
  · obtain ⟨its, r, pl, hz⟩ := I.tuple hq
    refine SeqAt.notIn_tupleAt (eqU x) pl (fun w hw => mem_eqAt rx fx r fs w (by simpa using hw)) ⟨.bl _, H, I, rfl, ?_⟩
    rw [show its.toArray.any (eqU x) = its.any (eqU x) by simp, any_eqU r fs]
    exact q
theorem op_notIn_str : OpR X (compareOp .NotIn) (fun x y H Q => ∃ i j, x = .str i ∧ y = .str j ∧ Q (.bl (!(!(Builtin.Str.occurrences j i 0 j.length 1).isEmpty))) H) := by
  intro pins s σ H x y v u Q I rx ry h
  obtain ⟨i, j, rfl, rfl, q⟩ := h
  obtain ⟨t, rfl⟩ := rx
  obtain ⟨t', rfl⟩ := ry
  exact notIn_str ⟨.bl _, H, I, rfl, q⟩

/-! ### len, list(x), tuple(x) of any list or tuple that is read -/
theorem call_len_seq : CallR X (.builtin "len") (fun xs H Q => ∃ p ys, xs = [.ref p] ∧ (SqL X.K H p ys ∨ SqT X.K H p ys) ∧ Q (.int ys.length) H) := by
  intro pins s σ H xs us Q I r h
  obtain ⟨p, ys, rfl, hq, q⟩ := h
  obtain ⟨u, rfl, rx⟩ := vals1 r
  cases rx
  have hn := line63
  rcases hq with hq | hq
  · obtain ⟨its, r', pl, hz⟩ := I.list hq
    have hlen := r'.length
    exact Calls.call_len_list pl.isList (by simp only [List.size_toArray] <;> omega) ⟨.int ys.length, H, I.tok _, ⟨s.toks + 1, by rw [List.size_toArray, hlen]⟩, q⟩
  · obtain ⟨its, r', pl, hz⟩ := I.tuple hq
    have hlen := r'.length
    exact len_tuple pl (by simp only [List.size_toArray] <;> omega) ⟨.int ys.length, H, I.tok _, ⟨s.toks + 1, by rw [List.size_toArray, hlen]⟩, q⟩
theorem call_len_str : CallR X (.builtin "len") (fun xs H Q => ∃ z, xs = [.str z] ∧ z.length ≤ sizeLine ∧ Q (.int z.length) H) := by
  intro pins s σ H xs us Q I r h
  obtain ⟨z, rfl, hz, q⟩ := h
  obtain ⟨u, rfl, t, rfl⟩ := vals1 r
  have hn := line63
  exact len_str (by omega) ⟨.int z.length, H, I.tok _, ⟨_, rfl⟩, q⟩
theorem CallR.or {f : Value} {r r' : List V → Hp → VK → Prop} (h : CallR X f r) (h' : CallR X f r') : CallR X f (fun xs H Q => r xs H Q ∨ r' xs H Q) := by
  intro pins s σ H xs us Q I rs q
  rcases q with q | q
  · exact h pins s σ H xs us Q I rs q
  · exact h' pins s σ H xs us Q I rs q
theorem call_list_of : CallR X (.type "list") (fun xs H Q => ∃ p ys, xs = [.ref p] ∧ (SqL X.K H p ys ∨ SqT X.K H p ys) ∧ ∀ l, H l = none → Q (.ref l) (upd H l (.lst ys))) := by
  intro pins s σ H xs us Q I r h
  obtain ⟨p, ys, rfl, hq, q⟩ := h
  obtain ⟨u, rfl, rx⟩ := vals1 r
  cases rx
  have fin : ∀ (its : List Value), Vals ys its → ys.length ≤ sizeLine → ∀ (h' : Heap) (c' : Nat), (∀ b o', s.heap.get? b = some o' → h'.get? b = some o') →
      h'.get? s.heap.objs.size = some { cls := .type "list", dict := none, data := .seq its.toArray c', slots := #[] } → EP X pins σ Q (.ref s.heap.objs.size) { s with heap := h' } := fun its r' hz h' c' kp e =>
    ⟨.ref s.heap.objs.size, _, I.laid (t' := s.toks) kp (Nat.le_refl _) (show ObjOk X.prog X.w _ h' _ (.lst ys) from ⟨hz, its, c', r', e⟩), rfl, q _ (I.hok.fresh (Nat.le_refl _))⟩
  rcases hq with hq | hq
  · obtain ⟨its, r', pl, hz⟩ := I.list hq
    have hlen := r'.length
    obtain ⟨o, ho, hc, n, hd⟩ := pl.isList
    exact call_list_seq p (.inl rfl) ho hc hd (fun h' c' kp e => fin its r' hz h' c' kp e) (by simp only [List.size_toArray] <;> omega)
  · obtain ⟨its, r', pl, hz⟩ := I.tuple hq
    have hlen := r'.length
    obtain ⟨o, ho, hc, n, hd⟩ := pl
    exact call_list_seq p (.inr rfl) ho hc hd (fun h' c' kp e => fin its r' hz h' c' kp e) (by simp only [List.size_toArray] <;> omega)
theorem call_tuple_of : CallR X (.type "tuple") (fun xs H Q => ∃ p ys, xs = [.ref p] ∧ ((SqL X.K H p ys ∧ ∀ l, H l = none → Q (.ref l) (upd H l (.tup ys))) ∨ (SqT X.K H p ys ∧ Q (.ref p) H))) := by
  intro pins s σ H xs us Q I r h
  obtain ⟨p, ys, rfl, h⟩ := h
  obtain ⟨u, rfl, rx⟩ := vals1 r
  cases rx
  rcases h with ⟨hq, q⟩ | ⟨hq, q⟩
  · obtain ⟨its, r', pl, hz⟩ := I.list hq
    have hlen := r'.length
    refine call_tuple_list pl.isList (fun h' kp => ?_) (by simp only [List.size_toArray] <;> omega)
    have I1 : Inv X pins σ H { s with heap := h' } := I.kept (t' := s.toks) kp
    have I2 : Inv X pins σ (upd H h'.objs.size (.tup ys)) { s with heap := h'.push { cls := .type "tuple", data := .seq its.toArray } } :=
      I1.laid (t' := s.toks) (fun b o e => Heap.get?_push_of_some _ e) (Nat.le_refl _) (show ObjOk X.prog X.w _ _ _ (.tup ys) from ⟨hz, its, r', IsTup.new _ _⟩)
    exact ⟨.ref h'.objs.size, _, I2, rfl, q _ (I1.hok.fresh (Nat.le_refl _))⟩
  · obtain ⟨its, r', pl, hz⟩ := I.tuple hq
    exact call_tuple_same pl ⟨.ref p, H, I, rfl, q⟩

/-! ### the call of a builtin's method: o.m(..) -/
/-- the value is of that builtin type -/
def tyV (K : PySem.W.Frag) (T : String) (x : V) (H : Hp) : Prop := match x with
  | .str _ => T = "str"
  | .int _ => T = "int"
  | .ref p => (T = "list" ∧ ∃ xs, SqL K H p xs) ∨ (T = "tuple" ∧ ∃ o, K.lookup p = some o ∧ o.cls = .type "tuple" ∧ o.dict = none) ∨
      (T = "dict" ∧ ((∃ kvs, H p = some (.dK kvs)) ∨ ∃ kvs, H p = some (.dT kvs))) ∨ (T = "set" ∧ ∃ S n, H p = some (.set S n))
  | _ => False
theorem tyV_is {pins : List (Addr × Obj)} {σ : St} {H : Hp} {s : Shared} {T : String} {x : V} {v : Value} (I : Inv X pins σ H s) (r : RelV x v) (ty : tyV X.K T x H) :
    s.TypeIs v T ∧ ∀ a, v = .ref a → ∃ ob, s.heap.get? a = some ob ∧ ob.dict = none := by
  cases x with
  | str z =>
    obtain ⟨t, rfl⟩ := r
    cases (show T = "str" from ty)
    exact ⟨typeIs_str s z t, fun _ e => nomatch e⟩
  | int i =>
    obtain ⟨t, rfl⟩ := r
    cases (show T = "int" from ty)
    exact ⟨typeIs_int s i t, fun _ e => nomatch e⟩
  | ref p =>
    cases r
    rcases ty with ⟨rfl, xs, hq⟩ | ⟨rfl, o, hk, hc, hd⟩ | ⟨rfl, hk⟩ | ⟨rfl, S, n, hk⟩
    · obtain ⟨its, _, pl, _⟩ := I.list hq
      refine ⟨pl.isList.typeIs, fun a e => ?_⟩
      cases e
      obtain ⟨o, n, e, c, hd, _⟩ := pl
      exact ⟨o, e, hd⟩
    · refine ⟨⟨o, I.kIn p o hk, hc⟩, fun a e => ?_⟩
      cases e
      exact ⟨o, I.kIn _ o hk, hd⟩
    · have z : ∃ o, s.heap.get? p = some o ∧ o.ExactDict := by
        rcases hk with ⟨kvs, hk⟩ | ⟨kvs, hk⟩
        · obtain ⟨_, _, _, _, o, _, _, e, ex, _⟩ := I.hok p _ hk
          exact ⟨o, e, ex⟩
        · obtain ⟨_, _, _, _, o, _, _, e, ex, _⟩ := I.hok p _ hk
          exact ⟨o, e, ex⟩
      obtain ⟨o, e, ex⟩ := z
      refine ⟨⟨o, e, ex.1⟩, fun a e2 => ?_⟩
      cases e2
      exact ⟨o, e, ex.2.1⟩
    · obtain ⟨o, _, _, _, e, ex, _⟩ := I.hok p _ hk
      refine ⟨⟨o, e, ex.1⟩, fun a e2 => ?_⟩
      cases e2
      exact ⟨o, e, ex.2.1⟩
  | _ => exact False.elim ty
def tBM0 (K : PySem.W.Frag) (T : String) (r : V → List V → Hp → VK → Prop) (to : TE) : TE := fun σ H Q => to σ H fun x H1 => tyV K T x H1 ∧ r x [] H1 Q
def tBM (K : PySem.W.Frag) (T : String) (r : V → List V → Hp → VK → Prop) (to : TE) (t : TA) : TE := fun σ H Q => to σ H fun x H1 => tyV K T x H1 ∧ t σ H1 fun xs H2 => r x xs H2 Q
variable {o e : Expr} {es : List Expr} {to : TE} {t : TA} {name : Str} {apos cpos : Pos} {T id : String} {r : V → List V → Hp → VK → Prop}
theorem pe_bm0 (pa : PlainAttrs T) (slot : Slot T name id) (hty : typeOf (.builtin id) = pure (.type "method_descriptor")) (hm : MtR X id r) (ho : PE X o to)
    (hbase : attributeBase o name X.env (eval o X.env) = eval o X.env := by rfl) (hline : (apos.endLine == cpos.line) = true := by rfl) : PE X (.Call (.Attribute o name apos) [] [] cpos) (tBM0 X.K T r to) := by
  intro pins s σ H Q I h
  refine wpAny_Call_method0_late hbase hline (thn (ho pins s σ H _ I h) fun v s1 ⟨x, H1, I1, r1, ty, q1⟩ => ?_)
  obtain ⟨h1, h2⟩ := tyV_is I1 r1 ty
  exact ⟨T, id, pa, slot, hty, h1, h2, Calls.callWith_builtin rfl (PySem.evalArgs_none (hm pins s1 σ H1 x [] v [] Q I1 r1 .nil q1))⟩
theorem pe_bm (pa : PlainAttrs T) (slot : Slot T name id) (hty : typeOf (.builtin id) = pure (.type "method_descriptor")) (hm : MtR X id r) (ho : PE X o to) (ha : PA X (e :: es) t)
    (hbase : attributeBase o name X.env (eval o X.env) = eval o X.env := by rfl)
    (hfew : ((backTo cpos (starEach (e :: es) X.env)).all (fun x => !x.1) && (backToKw cpos (keywordEach [] X.env)).all (fun x => x.1.isSome)
      && decide ((e :: es).length + ([] : List Keyword).length + (if ([] : List Keyword).isEmpty then 0 else 1) < 30)) = true := by rfl)
    (hline : (apos.endLine == cpos.line) = true := by rfl) (hs : starEach (e :: es) X.env = (false, eval e X.env) :: starEach es X.env := by rfl) (hplain : (backTo cpos (starEach es X.env)).any (·.1) = false := by rfl) :
    PE X (.Call (.Attribute o name apos) (e :: es) [] cpos) (tBM X.K T r to t) := by
  intro pins s σ H Q I h
  refine wpAny_Call_method_late hbase hfew hline rfl (thn (ho pins s σ H _ I h) fun v s1 ⟨x, H1, I1, r1, ty, q1⟩ => ?_)
  obtain ⟨h1, h2⟩ := tyV_is I1 r1 ty
  refine ⟨T, id, pa, slot, hty, h1, h2, ?_⟩
  have hA := ha cpos pins s1 σ H1 _ I1 q1
  rw [hs] at hA ⊢
  refine Calls.callWith_builtin (by show (false || (backTo cpos (starEach es X.env)).any (·.1)) = false; rw [hplain] <;> rfl) (Calls.evalArgs_plain ?_)
  exact thn hA fun us s2 ⟨vs, H2, I2, r2, q2⟩ => hm pins s2 σ H2 x vs v us Q I2 r1 r2 q2
/- xs.append(e), list.index on a module's tuple .. are MtR facts of 06m -/
end
end L2

namespace L2
open PySem PySem.Spec PyProof.Rows

def MtM (X : Cx) (id : String) (r : V → List V → Hp → VK → Prop) : Prop :=
  ∀ (pins : List (Addr × Obj)) (s : Shared) (σ : St) (H : Hp) (x : V) (xs : List V) (v : Value) (us : List Value) (Q : VK), Inv X pins σ H s → RelV x v → Vals xs us → r x xs H Q →
    wpAny (model X.prog X.w) X.A (call (.builtin id) (v :: us)) (EP X pins σ Q) X.xe s

/-! ### lists of values -/
theorem Vals.one : ∀ {x : V} {us : List Value}, Vals [x] us → ∃ u, us = [u] ∧ RelV x u
  | _, _, .cons r .nil => ⟨_, rfl, r⟩
theorem Vals.two : ∀ {x y : V} {us : List Value}, Vals [x, y] us → ∃ u v, us = [u, v] ∧ RelV x u ∧ RelV y v
  | _, _, _, .cons r (.cons q .nil) => ⟨_, _, rfl, r, q⟩
theorem Vals.zero : ∀ {us : List Value}, Vals [] us → us = []
  | _, .nil => rfl
theorem Vals.dropLast {xs : List V} {us : List Value} (h : Vals xs us) : Vals xs.dropLast us.dropLast := by
  induction h with
  | nil => exact .nil
  | cons r t ih =>
    cases t with
    | nil => exact .nil
    | cons q t' => exact .cons r ih
theorem Vals.eraseIdx : ∀ {xs : List V} {us : List Value} (i : Nat), Vals xs us → Vals (xs.eraseIdx i) (us.eraseIdx i)
  | _, _, _, .nil => .nil
  | _, _, 0, .cons _ t => t
  | _, _, i + 1, .cons r t => .cons r (Vals.eraseIdx i t)
theorem Vals.reverse {xs : List V} {us : List Value} (h : Vals xs us) : Vals xs.reverse us.reverse := by
  induction h with
  | nil => exact .nil
  | cons r t ih => rw [List.reverse_cons, List.reverse_cons]; exact Vals.append ih (.cons r .nil)
theorem Vals.rep {xs : List V} {us : List Value} (h : Vals xs us) : ∀ k : Nat, Vals (List.replicate k xs).flatten (List.replicate k us).flatten
  | 0 => .nil
  | k + 1 => by
    rw [List.replicate_succ, List.replicate_succ, List.flatten_cons, List.flatten_cons]
    exact Vals.append h (Vals.rep h k)
theorem erase_last {α : Type} (l : List α) : l.eraseIdx (l.length - 1) = l.dropLast := by
  induction l with
  | nil => rfl
  | cons a r ih =>
    cases r with
    | nil => rfl
    | cons b r =>
      have e : (a :: b :: r).length - 1 = ((b :: r).length - 1) + 1 := by
        have h1 : (a :: b :: r).length = r.length + 2 := rfl
        have h2 : (b :: r).length = r.length + 1 := rfl
        omega
      rw [e, List.eraseIdx_cons_succ, ih]
      all_goals rfl
theorem len_erase {α : Type} : ∀ (l : List α) (i : Nat), (l.eraseIdx i).length ≤ l.length
  | [], _ => Nat.le_refl _
  | _ :: _, 0 => Nat.le_succ _
  | _ :: r, i + 1 => Nat.succ_le_succ (len_erase r i)
theorem foldl_rep (its : List Value) : ∀ (k : Nat) (acc : List Value),
    List.foldl (fun x1 x2 => x1 ++ x2) acc.toArray (List.replicate k its.toArray) = (acc ++ (List.replicate k its).flatten).toArray
  | 0, acc => by simp
  | k + 1, acc => by
    have e : acc.toArray ++ its.toArray = (acc ++ its).toArray := by simp
    have e2 : (acc ++ its) ++ (List.replicate k its).flatten = acc ++ (List.replicate (k + 1) its).flatten := by
      rw [List.replicate_succ, List.flatten_cons, List.append_assoc]
    rw [← e2, ← foldl_rep its k (acc ++ its), ← e, List.replicate_succ, List.foldl_cons]

section
variable {X : Cx} {pins : List (Addr × Obj)} {σ : St} {H : Hp} {s : Shared} {l b : Addr} {xs ys zs : List V}

/-! ### the two steps: a tracked list is rewritten, a new list is laid -/
theorem Inv.lset {its its' : List Value} {n : Nat} {f : Array Value → Array Value} {t' : Nat} (I : Inv X pins σ H s) (hH : H l = some (.lst xs))
    (e : s.heap.get? l = some { cls := .type "list", data := .seq its.toArray n }) (hf : f its.toArray = its'.toArray) (hv : Vals ys its') (hz : ys.length ≤ sizeLine) :
    Inv X pins σ (upd H l (.lst ys)) { s with heap := s.heap.update l (Obj.mapSeq f), toks := t' } := by
  have q := PySem.IsL.update e f
  rw [hf] at q
  refine I.write (x := l) (e := l) (by rw [hH]; exact trivial) (.inl rfl) (fun b' u hb hu => (Heap.get?_update_other s.heap (Obj.mapSeq f) (Ne.symm hb)).trans hu) ⟨_, q⟩ ?_
  exact ⟨hz, its', _, hv, q⟩
theorem Inv.lnew {its : List Value} {t' : Nat} (I : Inv X pins σ H s) (hv : Vals ys its) (hz : ys.length ≤ sizeLine) :
    Inv X pins σ (upd H s.heap.objs.size (.lst ys)) { s with heap := s.heap.push { cls := .type "list", data := .seq its.toArray }, toks := t' } :=
  I.laid (fun _ _ q => Heap.get?_push_of_some _ q) (Nat.le_refl _) ⟨hz, its, 0, hv, Heap.get?_push_size _ rfl⟩
theorem Inv.fresh (I : Inv X pins σ H s) : H s.heap.objs.size = none := I.hok.fresh (Nat.le_refl _)
theorem Inv.lstM (I : Inv X pins σ H s) (hH : H l = some (.lst xs)) : xs.length ≤ sizeLine ∧ ∃ (its : List Value) (n : Nat), Vals xs its ∧ xs.length = its.length ∧ s.heap.get? l = some { cls := .type "list", data := .seq its.toArray n } := by
  obtain ⟨z, its, n, r, e⟩ := I.hok l _ hH
  exact ⟨z, its, n, r, r.length, e⟩

theorem notLongL {n : Nat} (h : n ≤ sizeLine) : Builtin.List.listTooLong n = false := by
  unfold Builtin.List.listTooLong
  exact decide_eq_false (by omega)
end

section
variable {X : Cx}

/-! ### methods -/
def rAppend : V → List V → Hp → VK → Prop := fun x vs H Q => ∃ l xs y, x = .ref l ∧ vs = [y] ∧ H l = some (.lst xs) ∧ xs.length < sizeLine ∧ Q .non (upd H l (.lst (xs ++ [y])))
theorem mt_append : MtM X "list.append" rAppend := by
  intro pins s σ H x vs v us Q I rx rv h
  obtain ⟨l, xs, y, rfl, rfl, hH, hz, q⟩ := h
  cases rx
  obtain ⟨u, rfl, ru⟩ := rv.one
  obtain ⟨z, its, n, r, hl, e⟩ := I.lstM hH
  refine call_meets F.slot_list_append ⟨_, e, rfl⟩ F.entry_list_append (F.args_list_append_2 _ _) (PySem.list_append l its.toArray n u (by rw [List.size_toArray]; omega)) ⟨e, ?_⟩
  refine ⟨.non, _, I.lset (its' := its ++ [u]) hH e (by simp) (r.append (.cons ru .nil)) ?_, rfl, q⟩
  rw [List.length_append, List.length_singleton]
  omega

def rExtend : V → List V → Hp → VK → Prop := fun x vs H Q => ∃ l b xs zs, x = .ref l ∧ vs = [.ref b] ∧ H l = some (.lst xs) ∧ H b = some (.lst zs) ∧ xs.length + zs.length ≤ sizeLine ∧ Q .non (upd H l (.lst (xs ++ zs)))
theorem mt_extend : MtM X "list.extend" rExtend := by
  intro pins s σ H x vs v us Q I rx rv h
  obtain ⟨l, b, xs, zs, rfl, rfl, hH, hB, hz, q⟩ := h
  cases rx
  obtain ⟨u, rfl, ru⟩ := rv.one
  cases ru
  obtain ⟨z, its, n, r, hl, e⟩ := I.lstM hH
  obtain ⟨z2, its2, n2, r2, hl2, e2⟩ := I.lstM hB
  have hsz : its.toArray.size + its2.toArray.size ≤ sizeLine := by rw [List.size_toArray, List.size_toArray]; omega
  have hlong : ¬ (!its.toArray.isEmpty && Builtin.List.listTooLong (its.toArray.size + its2.toArray.size)) = true := by
    rw [notLongL hsz, Bool.and_false]
    exact Bool.false_ne_true
  refine call_meets F.slot_list_extend ⟨_, e, rfl⟩ F.entry_list_extend (F.args_list_extend_2 _ _)
    (AutoSeq1.list_extend_list_list_0 l its.toArray n b its2.toArray n2 hlong (by rw [List.size_toArray]; omega) (by omega)) ⟨e, e2, ?_⟩
  refine ⟨.non, _, I.lset (its' := its ++ its2) hH e (by simp) (r.append r2) ?_, rfl, q⟩
  rw [List.length_append]
  omega

def rPop : V → List V → Hp → VK → Prop := fun x vs H Q => ∃ l xs y, x = .ref l ∧ vs = [] ∧ H l = some (.lst xs) ∧ xs[xs.length - 1]? = some y ∧ Q y (upd H l (.lst xs.dropLast))
theorem mt_pop : MtM X "list.pop" rPop := by
  intro pins s σ H x vs v us Q I rx rv h
  obtain ⟨l, xs, y, rfl, rfl, hH, hy, q⟩ := h
  cases rx
  have hus := rv.zero
  subst hus
  obtain ⟨z, its, n, r, hl, e⟩ := I.lstM hH
  obtain ⟨u, hu, ru⟩ := r.get hy
  have hy' : its.toArray[its.toArray.size - 1]? = some u := by
    show its.toArray[its.length - 1]? = some u
    rw [← Array.getElem?_toList, ← hl]
    exact hu
  refine call_meets F.slot_list_pop ⟨_, e, rfl⟩ F.entry_list_pop (F.args_list_pop_1 _) (MeetsSeq.list_pop_last l its.toArray n u hy' (by rw [List.size_toArray]; omega)) ⟨e, ?_⟩
  refine ⟨y, _, I.lset (its' := its.dropLast) hH e ?_ r.dropLast ?_, ru, q⟩
  · show its.toArray.eraseIdxIfInBounds (its.toArray.size - 1) = its.dropLast.toArray
    rw [List.size_toArray, List.eraseIdxIfInBounds_toArray, erase_last]
  · rw [List.length_dropLast]
    omega

def rPopAt : V → List V → Hp → VK → Prop := fun x vs H Q => ∃ l xs i k y, x = .ref l ∧ vs = [.int i] ∧ H l = some (.lst xs) ∧ -(2 ^ 63) ≤ i ∧ i < 2 ^ 63 ∧ seqIndex? i xs.length = some k ∧ xs[k]? = some y ∧ Q y (upd H l (.lst (xs.eraseIdx k)))
theorem mt_popAt : MtM X "list.pop" rPopAt := by
  intro pins s σ H x vs v us Q I rx rv h
  obtain ⟨l, xs, i, k, y, rfl, rfl, hH, h1, h2, hk, hy, q⟩ := h
  cases rx
  obtain ⟨u, rfl, ru⟩ := rv.one
  obtain ⟨t, rfl⟩ := ru
  obtain ⟨z, its, n, r, hl, e⟩ := I.lstM hH
  obtain ⟨w, hw, rw'⟩ := r.get hy
  refine call_meets F.slot_list_pop ⟨_, e, rfl⟩ F.entry_list_pop (F.args_list_pop_2 _ _)
    (MeetsSeq.list_pop_at l its.toArray n i t k w (fitsIndex_both h1 h2) (by rw [List.size_toArray, ← hl]; exact hk) (by rw [← Array.getElem?_toList]; exact hw) (by rw [List.size_toArray]; omega)) ⟨e, ?_⟩
  refine ⟨y, _, I.lset (its' := its.eraseIdx k) hH e ?_ (r.eraseIdx k) ?_, rw', q⟩
  · show its.toArray.eraseIdxIfInBounds k = (its.eraseIdx k).toArray
    rw [List.eraseIdxIfInBounds_toArray]
  · have := len_erase xs k
    omega

def rReverse : V → List V → Hp → VK → Prop := fun x vs H Q => ∃ l xs, x = .ref l ∧ vs = [] ∧ H l = some (.lst xs) ∧ Q .non (upd H l (.lst xs.reverse))
theorem mt_reverse : MtM X "list.reverse" rReverse := by
  intro pins s σ H x vs v us Q I rx rv h
  obtain ⟨l, xs, rfl, rfl, hH, q⟩ := h
  cases rx
  have hus := rv.zero
  subst hus
  obtain ⟨z, its, n, r, hl, e⟩ := I.lstM hH
  refine call_meets F.slot_list_reverse ⟨_, e, rfl⟩ F.entry_list_reverse (F.args_list_reverse_1 _) (AutoSeq1.list_reverse_list_0 l its.toArray n (by rw [List.size_toArray]; omega)) ⟨e, ?_⟩
  refine ⟨.non, _, I.lset (its' := its.reverse) hH e (by simp) r.reverse ?_, rfl, q⟩
  rw [List.length_reverse]
  omega

def rClear : V → List V → Hp → VK → Prop := fun x vs H Q => ∃ l xs, x = .ref l ∧ vs = [] ∧ H l = some (.lst xs) ∧ Q .non (upd H l (.lst []))
theorem mt_clear : MtM X "list.clear" rClear := by
  intro pins s σ H x vs v us Q I rx rv h
  obtain ⟨l, xs, rfl, rfl, hH, q⟩ := h
  cases rx
  have hus := rv.zero
  subst hus
  obtain ⟨z, its, n, r, hl, e⟩ := I.lstM hH
  refine call_meets F.slot_list_clear ⟨_, e, rfl⟩ F.entry_list_clear (F.args_list_clear_1 _) (AutoSeq1.list_clear_list_0 l its.toArray n (by rw [List.size_toArray]; omega)) ⟨e, ?_⟩
  exact ⟨.non, _, I.lset (its' := []) (ys := []) hH e rfl .nil (Nat.zero_le _), rfl, q⟩

/-! ### list + list, list += list, list * int -/
def rCat : R2 := fun x y H Q => ∃ l b xs zs, x = .ref l ∧ y = .ref b ∧ H l = some (.lst xs) ∧ H b = some (.lst zs) ∧ xs.length + zs.length ≤ sizeLine ∧ ∀ p, H p = none → Q (.ref p) (upd H p (.lst (xs ++ zs)))
theorem op_cat : OpR X (binaryOp .Add) rCat := by
  intro pins s σ H x y v u Q I rx ry h
  obtain ⟨l, b, xs, zs, rfl, rfl, hH, hB, hz, q⟩ := h
  cases rx
  cases ry
  obtain ⟨z, its, n, r, hl, e⟩ := I.lstM hH
  obtain ⟨z2, its2, n2, r2, hl2, e2⟩ := I.lstM hB
  refine PySem.P.add_list e e2 ?_ (by rw [List.size_toArray, List.size_toArray]; omega)
  have ea : its.toArray ++ its2.toArray = (its ++ its2).toArray := by simp
  rw [ea]
  exact ⟨.ref _, _, I.lnew (t' := s.toks) (r.append r2) (by rw [List.length_append]; omega), rfl, q _ I.fresh⟩
/-- a list times an int (a negative one is nothing) -/
def rRep : R2 := fun x y H Q => ∃ l k xs, x = .ref l ∧ y = .int k ∧ H l = some (.lst xs) ∧ -(2 ^ 63) ≤ k ∧ k < 2 ^ 63 ∧ xs.length * k.toNat ≤ sizeLine ∧
  ∀ p, H p = none → Q (.ref p) (upd H p (.lst (List.replicate k.toNat xs).flatten))
theorem len_rep {α : Type} (xs : List α) (k : Nat) : (List.replicate k xs).flatten.length = k * xs.length := by
  induction k with
  | zero => simp
  | succ k ih => rw [List.replicate_succ, List.flatten_cons, List.length_append, ih, Nat.succ_mul, Nat.add_comm]
theorem op_rep : OpR X (binaryOp .Mult) rRep := by
  intro pins s σ H x y v u Q I rx ry h
  obtain ⟨l, k, xs, rfl, rfl, hH, h1, h2, hz, q⟩ := h
  cases rx
  obtain ⟨t, rfl⟩ := ry
  obtain ⟨z, its, n, r, hl, e⟩ := I.lstM hH
  have hlen : its.toArray.size * k.toNat ≤ sizeLine := by rw [List.size_toArray, ← hl]; exact hz
  have hcap : ¬ its.toArray.size * k.toNat > (2 ^ 63 - 1) / 8 := by
    have : (sizeLine : Nat) ≤ (2 ^ 63 - 1) / 8 := by decide
    omega
  have hfit : ¬ (!Builtin.List.listFitsIndex k) = true := by
    rw [fitsIndex_both h1 h2]
    exact Bool.false_ne_true
  have hlong : ¬ Builtin.List.listTooLong (its.toArray.size * k.toNat) = true := by
    rw [notLongL hlen]
    exact Bool.false_ne_true
  have hnew : List.foldl (fun x1 x2 => x1 ++ x2) #[] (List.replicate (if its.toArray.isEmpty = true then 0 else k.toNat) its.toArray) = (List.replicate k.toNat its).flatten.toArray := by
    have f0 : ∀ m : Nat, List.foldl (fun x1 x2 => x1 ++ x2) #[] (List.replicate m its.toArray) = (List.replicate m its).flatten.toArray := fun m => by
      have := foldl_rep its m []
      rw [List.nil_append] at this
      exact this
    rw [f0]
    cases its with
    | nil => simp
    | cons a r' => rw [if_neg (by simp)]
  refine wpAny_binaryOp_repeat_ref (T := "list") (U := "int") (by decide) ⟨_, e, rfl⟩ (fun s' => typeIs_int s' k t) noFill_list_mul F.fills_int_mul F.slot_int_rmul repeat_list F.slot_int_index.lookup
    (call_meets F.slot_int_rmul (typeIs_int s k t) F.entry_int_rmul (F.args_int_rmul_2 _ _) (int___rmul___int_list k t l its.toArray n)
      ⟨e, rfl, ⟨_, e, rfl⟩, call_meets F.slot_list_mul ⟨_, e, rfl⟩ F.entry_list_mul (F.args_list_mul_2 _ _) (AutoListH.list___mul___list_int_3 l its.toArray n k t hfit hcap hlong) ⟨e, ?_⟩⟩)
  rw [hnew]
  exact ⟨.ref _, _, I.lnew (t' := s.toks) (r.rep k.toNat) (by rw [len_rep, Nat.mul_comm]; exact hz), rfl, q _ I.fresh⟩

/-! ### del xs[i] -/
theorem del_list {pins : List (Addr × Obj)} {s : Shared} {σ : St} {H : Hp} {l : Addr} {xs : List V} {i : Int} {t : Tok} {k : Nat} {Q : Unit → Shared → Prop} (I : Inv X pins σ H s) (hH : H l = some (.lst xs))
    (h1 : -(2 ^ 63) ≤ i) (h2 : i < 2 ^ 63) (hk : seqIndex? i xs.length = some k) (h : ∀ s', Inv X pins σ (upd H l (.lst (xs.eraseIdx k))) s' → Q () s') :
    wpAny (model X.prog X.w) X.A (delItem (.ref l) (.int i t)) Q X.xe s := by
  obtain ⟨z, its, n, r, hl, e⟩ := I.lstM hH
  refine PySem.P.delItem_list (k := k) e (fitsIndex_both h1 h2) (by rw [List.size_toArray, ← hl]; exact hk) (h _ ?_) (by rw [List.size_toArray]; omega)
  refine I.lset (its' := its.eraseIdx k) (t' := s.toks) hH e ?_ (r.eraseIdx k) ?_
  · show its.toArray.eraseIdxIfInBounds k = (its.eraseIdx k).toArray
    rw [List.eraseIdxIfInBounds_toArray]
  · have := len_erase xs k
    omega
end

/-! ### xs[a:b] = ys -/
section
variable {prog : Program} {w : World} {A : Around} {E : Value → Shared → Prop} {s : Shared}
theorem splice_eq (its its2 : List Value) (a c : Nat) : its.toArray.extract 0 a ++ its2.toArray ++ its.toArray.extract c its.toArray.size = (its.take a ++ its2 ++ its.drop c).toArray := by
  apply Array.toList_inj.mp
  first
    | (simp
       exact List.take_of_length_le (by simp))
    | simp [List.take_of_length_le]
    | simp
theorem bounds_run {a c n : Nat} (hac : a ≤ c) (hc : c ≤ n) : sliceBounds (some (a : Int)) (some (c : Int)) none n = ((a : Int), (c : Int), 1) := by
  simp only [sliceBounds, Option.getD_none]
  have h1 : ¬ ((a : Int) < 0) := by omega
  have h2 : ¬ ((c : Int) < 0) := by omega
  simp only [h1, h2, if_false, show (1 : Int) > 0 by decide, if_true]
  congr 1
  · omega
  · congr 1; omega
/-- list.__setitem__ with a slice of step one and another list -/
theorem setItem_slice {l b sl : Addr} {items new : Array Value} {n n2 : Nat} {vl vu : Value} {a c : Nat} {Q : Unit → Shared → Prop}
    (e : s.heap.get? l = some { cls := .type "list", data := .seq items n }) (e2 : s.heap.get? b = some { cls := .type "list", data := .seq new n2 }) (hne : l ≠ b)
    (hs : s.heap.IsSliceOf sl vl vu .none) (pl : IsPart vl (some (a : Int))) (pu : IsPart vu (some (c : Int))) (hac : a ≤ c) (hc : c ≤ items.size)
    (hsz : items.size + new.size ≤ sizeLine) (h : Q () { s with heap := s.heap.update l (Obj.mapSeq fun xs => xs.extract 0 a ++ new ++ xs.extract c xs.size) }) :
    wpAny (model prog w) A (setItem (.ref l) (.ref sl) (.ref b)) Q E s := by
  have hl : s.heap.IsList l items := PySem.IsL.isList e
  have hb : s.heap.IsList b new := PySem.IsL.isList e2
  obtain ⟨os, hos, hcs, hds⟩ := id hs
  have hTs : s.TypeIs (.ref sl) "slice" := ⟨os, hos, hcs⟩
  have hstep : ¬ ((rawPart none == rawInt 0) = true) := Bool.false_ne_true
  have hsame : Builtin.List.listSameRef (.ref l) (.ref b) = false := by
    unfold Builtin.List.listSameRef
    exact beq_eq_false_iff_ne.mpr hne
  have hmax : (max (a : Int) (c : Int)).toNat = c := by omega
  have hz' : ((fun xs : Array Value => xs.extract 0 a ++ new ++ xs.extract c xs.size) items).size ≤ sizeLine + 1 := by
    simp only [Array.size_append, Array.size_extract]
    omega
  unfold setItem
  try with_reducible refine wpAny_holding ?_
  first | refine wpAny_bind (wpAny_pure ?_) | skip
  refine wpAny_bind (wpAny_sequenceKey hl.typeIs (by decide) ?_)
  refine wpAny_bind (wpAny_callSpecial?_slot (name := Str.ofString "__setitem__") hl.typeIs slot_list_setitem
    (wpAny_call_entry slot_list_setitem hl.typeIs entry_list_setitem ?_ (args_list_setitem _ _ _)))
  show wpAny _ _ (Builtin.List.listSubscript? (.ref sl) >>= _) _ _ s
  refine wpAny_bind ?_
  unfold Builtin.List.listSubscript?
  refine wpAny_bind (wpAny_specialOf hTs slice_no_index ?_)
  simp only [Option.isNone_none, if_true]
  refine wpAny_pure ?_
  show wpAny _ _ (typeOf (.ref sl) >>= _) _ _ s
  refine wpAny_bind (wpAny_typeOf hTs ?_)
  first
    | rw [if_neg (by decide)]
    | refine PySem.W.KFB.if_not (by decide) ?_
  rw [listSliceParts_eq]
  refine wpAny_bind (wpAny_bind (wpAny_field hos hds (x := .none) rfl (wpAny_bind (wpAny_listPart .none ?_))))
  rw [if_neg hstep]
  refine wpAny_bind (wpAny_field hos hds (x := vl) rfl (wpAny_bind (wpAny_listPart pl ?_)))
  refine wpAny_bind (wpAny_field hos hds (x := vu) rfl (wpAny_bind (wpAny_listPart pu (wpAny_pure ?_))))
  first
    | simp only [hsame, Bool.false_eq_true, if_false]
    | refine PySem.W.KFB.if_not hsame ?_
    | (dsimp only
       rw [if_neg (by rw [hsame]; exact Bool.false_ne_true)])
  refine wpAny_bind (m := Builtin.List.listAllItems (.ref b) "must assign iterable to extended slice") ?_
  unfold Builtin.List.listAllItems
  refine wpAny_bind (wpAny_typeOf hb.typeIs ?_)
  first
    | refine PySem.W.KFB.if_so (by decide) ?_
    | rw [if_pos (by decide)]
    | simp only [beq_self_eq_true, Bool.true_or, if_true]
  unfold Builtin.List.listItems
  refine wpAny_bind (wpAny_seqItems e2 rfl (wpAny_pure ?_))
  refine wpAny_bind (wpAny_bind (wpAny_seqItems e rfl (wpAny_pure ?_)))
  refine wpAny_bind (wpAny_of_eq ((sliceIndices_raw (some (a : Int)) (some (c : Int)) none items.size (by simp)).trans (congrArg (pure : Int × Int × Int → Sem (Int × Int × Int)) (bounds_run hac hc))) ?_)
  show wpAny _ _ (if ((1 : Int) == 1) = true then _ else _) _ _ s
  rw [if_pos (by decide)]
  refine wpAny_bind (wpAny_rule ?_)
  first
    | simp only [notLongL hsz, Bool.false_eq_true, if_false]
    | refine PySem.W.KFB.if_not (notLongL hsz) ?_
  first | refine wpAny_bind (wpAny_pure ?_) | skip
  show wpAny _ _ (updateSeq l (fun xs => xs.extract 0 ((a : Int)).toNat ++ new ++ xs.extract (max (a : Int) (c : Int)).toNat xs.size) >>= _) _ _ s
  rw [hmax, Int.toNat_natCast]
  refine wpAny_bind (wpAny_updateSeq (hz := Nat.le_trans (Nat.le_add_right _ _) hsz) (_hz' := hz') e rfl ?_)
  refine wpAny_bind (wpAny_letGo ?_)
  first
    | exact wpAny_bind (wpAny_pure (wpAny_pure ⟨.none, rfl, wpAny_pure h⟩))
    | exact wpAny_pure ⟨.none, rfl, wpAny_pure h⟩
end

section
variable {X : Cx}
/-- xs[a:c] = ys of another list, at the value level: sl is the slice object that was just made -/
theorem set_slice {pins : List (Addr × Obj)} {s : Shared} {σ : St} {H : Hp} {l b sl : Addr} {xs ys : List V} {a c : Int} {vl vu : Value} {Q : Unit → Shared → Prop} (I : Inv X pins σ H s)
    (hH : H l = some (.lst xs)) (hB : H b = some (.lst ys)) (hne : l ≠ b) (hs : s.heap.IsSliceOf sl vl vu .none) (ra : RelV (.int a) vl) (rc : RelV (.int c) vu) (h0 : 0 ≤ a) (hac : a ≤ c) (hc : c ≤ xs.length)
    (hz : xs.length + ys.length ≤ sizeLine) (h : ∀ s', Inv X pins σ (upd H l (.lst (xs.take a.toNat ++ ys ++ xs.drop c.toNat))) s' → Q () s') :
    wpAny (model X.prog X.w) X.A (setItem (.ref l) (.ref sl) (.ref b)) Q X.xe s := by
  obtain ⟨ta, rfl⟩ := ra
  obtain ⟨tc, rfl⟩ := rc
  obtain ⟨z, its, n, r, hl, e⟩ := I.lstM hH
  obtain ⟨z2, its2, n2, r2, hl2, e2⟩ := I.lstM hB
  obtain ⟨a', rfl⟩ := Int.eq_ofNat_of_zero_le h0
  obtain ⟨c', rfl⟩ := Int.eq_ofNat_of_zero_le (Int.le_trans h0 hac)
  simp only [Int.toNat_natCast] at h
  refine setItem_slice (a := a') (c := c') e e2 hne hs (.int _ _) (.int _ _) (by omega) (by rw [List.size_toArray]; omega) (by rw [List.size_toArray, List.size_toArray]; omega) (h _ ?_)
  refine I.lset (its' := its.take a' ++ its2 ++ its.drop c') (t' := s.toks) hH e ?_ (Vals.append (Vals.append (r.take _) r2) (r.drop _)) ?_
  · exact splice_eq its its2 a' c'
  · rw [List.length_append, List.length_append, List.length_take, List.length_drop]
    omega
end
end L2

namespace Att
open PySem PySem.W PySem.Calls PyProof.Rows

/-! ### the script -/
theorem ints_of_wellAll {P : Params} {h : Heap} : ∀ (ns : List Int) (vs : List Value), WellAll P h vs (ns.map WData.int) → IntsAre vs ns := by
  intro ns
  induction ns with
  | nil =>
    intro vs w
    rw [List.map_nil] at w
    cases w
    exact .nil
  | cons n ns ih =>
    intro vs w
    rw [List.map_cons] at w
    cases w with
    | cons a b =>
      cases a
      exact .cons _ _ (ih _ b)

theorem script_of {l : OpenLaw} {n : Nat} (hn : l.most = some n) {P : Params} {h : Heap} {args : List WData} {vals : List Value}
    (hpre : l.row.toRowW.claim.pre args = true) (hwl : WellAll P h vals args) :
    ∃ a vs ns, vals = [Value.ref a] ∧ args = [WData.list (ns.map WData.int)] ∧ h.get? a = some { cls := .type "list", data := .seq vs.toArray } ∧ IntsAre vs ns ∧ ns.length ≤ n := by
  have hsh : WShape.hasAll [] args [.list .int] = true := (pre_splitW hpre).1
  have hc : l.pre.holds [] { args := args } = true := (pre_splitW hpre).2
  obtain ⟨d, r, rfl, h1, h2⟩ := hasAllW_cons hsh
  obtain rfl := hasAllW_nil h2
  obtain ⟨xs, rfl, h3⟩ := hasW_list h1
  obtain ⟨ns, rfl⟩ := items_int h3
  have hlen : ns.length ≤ n := by
    unfold OpenLaw.pre at hc
    have h4 : (WTm.not (.lt (.lit (.int (n : Int))) (.len (.arg 0)))).holds [] { args := [.list (ns.map .int)] } = true := by
      have h4 := (holds_andW hc).1
      rw [hn] at h4
      exact h4
    have h5 := condW_of h4 (w_not (w_lt w_lit (w_len_list (w_arg rfl))))
    rw [List.length_map] at h5
    refine Nat.le_of_not_lt fun q => ?_
    have q' : (n : Int) < ((ns.length : Nat) : Int) := by omega
    first
      | (rw [decide_eq_true q'] at h5; exact absurd h5 (by decide))
      | (simp at h5; omega)
  cases hwl with
  | cons w1 w2 =>
    cases w2
    cases w1 with
    | list ho hall => exact ⟨_, _, ns, rfl, rfl, ho, ints_of_wellAll ns _ hall, hlen⟩

theorem post_true (l : OpenLaw) (args : List WData) : l.row.toRowW.claim.post args (.bool true) args = true :=
  postW_of (r := l.row.toRowW) (X := (true == true))
    (show WShape.has [] (.bool true) .bool = true by first | rfl | decide | simp [WShape.has, WShape.arms, WShape.armsAll])
    (show (WTm.eq .res (.lit (.bool true))).value [] { args := args, res := some (.bool true), after := args } = some (.bool (true == true)) from w_eq_bool (w_res rfl) w_lit) rfl

/-! ### the attachment: holds_open's last premise (the goal 'hc' behind k_head) from a wpAny of the law's body -/
theorem attach {l : OpenLaw} {n : Nat} {q : Program} {loose : List Str} {XP : (Str → Option Value) → Heap → Prop} {YP : World → Heap → Prop} {d : DefRec} {x : Str}
    (hn : l.most = some n) (hdf : d.params.defaults = [])
    (hbind : ∀ pm cd doc v : Value, bindArgs (docDef d.name d.params d.body d.scope pm cd doc) ⟨[v], []⟩ = pure [(x, v)])
    (hx : d.scope.names.lookup x = some .local ∨ d.scope.names.lookup x = some .cell)
    (hk : d.scope.kind = .function) (hco : d.scope.isCoroutine = false) (hgen : d.scope.isGenerator = false)
    (body : ∀ (w : World) (s₀ s₁ s : Shared) (mg mb : Str → Option Value) (fa : Addr) (o : Obj) (pm cd doc : Value) (a : Addr) (vs : List Value) (ns : List Int),
      Ground q loose [] XP w s₀ mg mb s₁.heap → YP w s₁.heap →
      s₁.heap.get? fa = some o → o.data = .func (docDef d.name d.params d.body d.scope pm cd doc) → s₁.heap.CodeRec cd d.name → mg d.name = some (.ref fa) →
      s₁.heap.get? a = some { cls := .type "list", data := .seq vs.toArray } → IntsAre vs ns → ns.length ≤ n →
      s.gens = #[] → s.os = s₁.os →
      Fr s₁.heap s₁.heap.objs.size s.heap (bindL (envOfC d.name d.scope s₁.heap.objs.size fa cd).kindOf [(x, .ref a)] fun _ => none) →
      Cl s₁.heap.objs.size (cellsFrom (s₁.heap.objs.size + 1) d.scope.names []) s.heap (bindC (envOfC d.name d.scope s₁.heap.objs.size fa cd).kindOf [(x, .ref a)] fun _ => none) →
      wpAny (model l.prog w) (callerA.deeper (envOfC d.name d.scope s₁.heap.objs.size fa cd)) (execs d.body (envOfC d.name d.scope s₁.heap.objs.size fa cd))
        (fun f s' => f = .ret (.bool true) ∧ OldK s₁.heap s'.heap ∧ s'.os = s₁.os ∧ AllBare s'.gens) (fun _ _ => False) s) :
    WalkO q loose XP YP l.row.toRowW d [] (fun f vs => PySem.call f vs) := by
  intro w s₀ s₁ mg mb G Y fa o pm cd doc dV kV ho hd hcd hD hmg hg args vals as hpre hlay hrd hwl hlo
  obtain rfl : dV = .none := Dflts.none hD hdf
  obtain rfl : kV = .none := Dflts.noKw hD
  obtain ⟨a, vs, ns, rfl, rfl, hobj, hints, hlen⟩ := script_of hn hpre hwl
  refine enter_call ?_
  refine call_cells_ret (o := o) (by rw [depth_caller]; decide) ho (fd_plain hd) G.T.nolimit hcd (hbind pm cd doc (.ref a)) (fun y hy => ?_) (fun h₁ tk F X => ?_) hco hgen hk
  · obtain rfl : y = (x, Value.ref a) := List.mem_singleton.mp hy
    rcases hx with e | e
    · exact .inl e
    · exact .inr ⟨e, cellsFrom_some _ _ _ (.inl e)⟩
  · refine wpAny_mono (body w s₀ s₁ { s₁ with heap := h₁, toks := tk } mg mb fa o pm cd doc a vs ns G Y ho (fd_plain hd) hcd hmg hobj hints hlen hg rfl F X) (fun f s' hq => ?_) (fun _ _ hq => hq)
    obtain ⟨rfl, h2, h3, h4⟩ := hq
    exact ⟨.inl ⟨.bool true, .bool true, [], rfl, fun _ => rfl, .bool true, post_true l _, fun _ => ⟨List.Pairwise.nil, fun _ hm => (nomatch hm)⟩⟩, h2, h3, h4⟩

/-- the same from a codeAny of the CALL (for a layer whose function contracts speak of calls) -/
theorem attach_call {l : OpenLaw} {n : Nat} {q : Program} {loose : List Str} {XP : (Str → Option Value) → Heap → Prop} {YP : World → Heap → Prop} {d : DefRec}
    (hn : l.most = some n) (hdf : d.params.defaults = [])
    (call : ∀ (w : World) (s₀ s₁ : Shared) (mg mb : Str → Option Value) (fa : Addr) (o : Obj) (pm cd doc : Value) (a : Addr) (vs : List Value) (ns : List Int),
      Ground q loose [] XP w s₀ mg mb s₁.heap → YP w s₁.heap →
      s₁.heap.get? fa = some o → o.data = .func (docDef d.name d.params d.body d.scope pm cd doc) → s₁.heap.CodeRec cd d.name → mg d.name = some (.ref fa) →
      s₁.heap.get? a = some { cls := .type "list", data := .seq vs.toArray } → IntsAre vs ns → ns.length ≤ n → s₁.gens = #[] →
      codeAny (model l.prog w) callerA (.call (.ref fa) ⟨[.ref a], []⟩) (fun r s' => r = .ok (.ret (.bool true)) ∧ OldK s₁.heap s'.heap ∧ s'.os = s₁.os ∧ AllBare s'.gens) s₁) :
    WalkO q loose XP YP l.row.toRowW d [] (fun f vs => PySem.call f vs) := by
  intro w s₀ s₁ mg mb G Y fa o pm cd doc dV kV ho hd hcd hD hmg hg args vals as hpre hlay hrd hwl hlo
  obtain rfl : dV = .none := Dflts.none hD hdf
  obtain rfl : kV = .none := Dflts.noKw hD
  obtain ⟨a, vs, ns, rfl, rfl, hobj, hints, hlen⟩ := script_of hn hpre hwl
  refine enter_call (codeAny_mono (call w s₀ s₁ mg mb fa o pm cd doc a vs ns G Y ho (fd_plain hd) hcd hmg hobj hints hlen hg) fun r s' hq => ?_)
  obtain ⟨rfl, h2, h3, h4⟩ := hq
  exact ⟨.inl ⟨.bool true, .bool true, [], rfl, fun _ => rfl, .bool true, post_true l _, fun _ => ⟨List.Pairwise.nil, fun _ hm => (nomatch hm)⟩⟩, h2, h3, h4⟩

/-- the same where the top left finished generators (o_head chose holds_openN): nothing may have changed at all and no generator may be left -/
theorem attachN {l : OpenLaw} {n : Nat} {q : Program} {loose : List Str} {XP : (Str → Option Value) → Heap → Prop} {YP : World → Heap → Prop} {d : DefRec} {x : Str}
    (hn : l.most = some n) (hdf : d.params.defaults = [])
    (hbind : ∀ pm cd doc v : Value, bindArgs (docDef d.name d.params d.body d.scope pm cd doc) ⟨[v], []⟩ = pure [(x, v)])
    (hx : d.scope.names.lookup x = some .local ∨ d.scope.names.lookup x = some .cell)
    (hk : d.scope.kind = .function) (hco : d.scope.isCoroutine = false) (hgen : d.scope.isGenerator = false)
    (body : ∀ (w : World) (s₀ s₁ s : Shared) (mg mb : Str → Option Value) (fa : Addr) (o : Obj) (pm cd doc : Value) (a : Addr) (vs : List Value) (ns : List Int),
      Ground q loose [] XP w s₀ mg mb s₁.heap → YP w s₁.heap →
      s₁.heap.get? fa = some o → o.data = .func (docDef d.name d.params d.body d.scope pm cd doc) → s₁.heap.CodeRec cd d.name → mg d.name = some (.ref fa) →
      s₁.heap.get? a = some { cls := .type "list", data := .seq vs.toArray } → IntsAre vs ns → ns.length ≤ n →
      s.gens = #[] → s.os = s₁.os →
      Fr s₁.heap s₁.heap.objs.size s.heap (bindL (envOfC d.name d.scope s₁.heap.objs.size fa cd).kindOf [(x, .ref a)] fun _ => none) →
      Cl s₁.heap.objs.size (cellsFrom (s₁.heap.objs.size + 1) d.scope.names []) s.heap (bindC (envOfC d.name d.scope s₁.heap.objs.size fa cd).kindOf [(x, .ref a)] fun _ => none) →
      wpAny (model l.prog w) (callerA.deeper (envOfC d.name d.scope s₁.heap.objs.size fa cd)) (execs d.body (envOfC d.name d.scope s₁.heap.objs.size fa cd))
        (fun f s' => f = .ret (.bool true) ∧ (∀ b o, s₁.heap.get? b = some o → s'.heap.get? b = some o) ∧ s'.os = s₁.os ∧ s'.gens = #[]) (fun _ _ => False) s) :
    WalkN q loose XP YP l.row.toRowW d [] (fun f vs => PySem.call f vs) := by
  intro w s₀ s₁ mg mb G Y fa o pm cd doc dV kV ho hd hcd hD hmg hg args vals as hpre hlay hrd hwl hlo
  obtain rfl : dV = .none := Dflts.none hD hdf
  obtain rfl : kV = .none := Dflts.noKw hD
  obtain ⟨a, vs, ns, rfl, rfl, hobj, hints, hlen⟩ := script_of hn hpre hwl
  refine enter_callW ?_
  refine call_cells_ret (o := o) (by rw [depth_caller]; decide) ho (fd_plain hd) G.T.nolimit hcd (hbind pm cd doc (.ref a)) (fun y hy => ?_) (fun h₁ tk F X => ?_) hco hgen hk
  · obtain rfl : y = (x, Value.ref a) := List.mem_singleton.mp hy
    rcases hx with e | e
    · exact .inl e
    · exact .inr ⟨e, cellsFrom_some _ _ _ (.inl e)⟩
  · refine wpAny_mono (body w s₀ s₁ { s₁ with heap := h₁, toks := tk } mg mb fa o pm cd doc a vs ns G Y ho (fd_plain hd) hcd hmg hobj hints hlen hg rfl F X) (fun f s' hq => ?_) (fun _ _ hq => hq)
    obtain ⟨rfl, h2, h3, h4⟩ := hq
    exact ⟨.inl ⟨.bool true, .bool true, [], rfl, fun _ => rfl, .bool true, post_true l _, fun _ => ⟨List.Pairwise.nil, fun _ hm => (nomatch hm)⟩⟩, h2, h3, h4⟩

/-! ### rules over ANY heap (no ledger) from facts about the written part K: the library's own take a ledger (News) for what they write -/
section
variable {prog : Program} {w : World} {A : Around} {E : Value → Shared → Prop} {s : Shared} {K : Frag}

/-- a def of the module, or a method (qual 'C.m'), entered: the frame is the next address; cells behind it -/
theorem call_fn {R : Result → Shared → Prop} {name qual : Str} {params : Arguments} {body : List Stmt} {scope : Scope} {dV kV doc pm cdv ct oc : Value} {an od : Option Addr} {osl : Array (Option Value)} {f : Addr} {args : Args} {binds : List (Str × Value)}
    (X : K.In s.heap) (hlim : s.heap.NoLimit) (ho : K.lookup f = some ⟨oc, od, .func (fnOf name qual params body scope dV kV doc pm an cdv ct), osl⟩) (hcd : codeIn K cdv qual = true) (hroom : A.depth < recursionLimit)
    (hbind : BindsTo s (fnOf name qual params body scope dV kV doc pm an cdv ct) args binds)
    (hkind : (binds.all fun y => scope.names.lookup y.1 == some .local || scope.names.lookup y.1 == some .cell) = true)
    (h : ∀ s₁, InCallC s s.heap.objs.size (bindL (envOfC qual scope s.heap.objs.size f cdv).kindOf binds fun _ => none) (cellsFrom (s.heap.objs.size + 1) scope.names [])
        (bindC (envOfC qual scope s.heap.objs.size f cdv).kindOf binds fun _ => none) s₁ →
      wpAny (model prog w) (A.deeper (envOfC qual scope s.heap.objs.size f cdv)) (execs body (envOfC qual scope s.heap.objs.size f cdv))
        (fun fl s' => R (.ok (.ret (match fl with | .ret v => v | _ => .none))) s')
        (fun e s' => wpAny (model prog w) (A.deeper (envOfC qual scope s.heap.objs.size f cdv)) (leaving (envOfC qual scope s.heap.objs.size f cdv) e) (fun _ s'' => R (.error e) s'') (fun e' s'' => R (.error e') s'') s') s₁)
    (hco : scope.isCoroutine = false) (hgen : scope.isGenerator = false) (hk : scope.kind = .function) : codeAny (model prog w) A (.call (.ref f) args) R s := by
  refine codeAny_call_function hroom (X _ _ ho) rfl hco hgen rfl (codeRec_of X hcd) (hbind _ _ _ _ ?_)
  refine wpAny_newFunctionEnv_cells hk (kindsX hkind _) fun env he s₁ x => ?_
  subst he
  exact ⟨hlim.keeps x.toInCall.keep, codeAny_func (h s₁ x)⟩

/-- C(..): dict at size, instance at size + 1, then __init__ -/
theorem make_obj {R : Result → Shared → Prop} {C fI : Addr} {rest : List Value} {kw : List (Str × Value)}
    (X : K.In s.heap) (hm : makesIn K C = true) (hi : findIn K (.ref C) "__init__" = some (some (.ref fI))) (hf : isFn K (.ref fI) = true)
    (h : codeAny (model prog w) (A.under (.builtin "type.__call__" ⟨.ref C :: rest, kw⟩)) (.call (.ref fI) ⟨.ref (s.heap.objs.size + 1) :: rest, kw⟩) (InitBack (s.heap.objs.size + 1) R)
      { s with heap := (s.heap.push emptyDict).push (instObj C s.heap.objs.size) }) : codeAny (model prog w) A (.call (.ref C) ⟨rest, kw⟩) R s := by
  obtain ⟨hh, g, d, t, os⟩ := s
  exact make_core (makes_of X hm) (looks_findIn X hi) (fun self => bind_fn X self (beq_iff_eq.mp hf)) (.inl rfl) h

/-- x.name where the instance's dict holds the name and the class does not -/
theorem get_field {x C : Addr} {ox : Obj} {es : List DictEntry} {n : Nat} {name : Str} {expr : Bool} {v : Value} {Q : Value → Shared → Prop}
    (X : K.In s.heap) (I : PySem.W.InstAt s.heap x ox C (some (dictOf es n))) (hg : plainGet K C name = true) (hh : hasDictIn K C = true) (ha : findIn K (.ref C) name = some none)
    (hl : getL name es = some (some v)) (hv : handedIn v = true) (h : Q v { s with toks := s.toks + 1 }) : wpAny (model prog w) A (getAttr (.ref x) name expr) Q E s :=
  get_value X I (plainGet_of hg).1 (findObj_own hh ha rfl hl) hv h

/-- x.m(..): the method found in the class -/
theorem get_method {x C f : Addr} {ox : Obj} {es : List DictEntry} {n : Nat} {name : Str} {pl : Sem Bool} {Q : Value × List Value → Shared → Prop}
    (X : K.In s.heap) (I : PySem.W.InstAt s.heap x ox C (some (dictOf es n))) (hg : plainGet K C name = true) (hf : findIn K (.ref C) name = some (some (.ref f))) (ht : isFn K (.ref f) = true)
    (hl : getL name es = some none) (h : Q (.ref f, [.ref x]) s) : wpAny (model prog w) A (getMethod (.ref x) name pl) Q E s :=
  method_fn X I (plainGet_of hg).1 (plainGet_of hg).2 hf (beq_iff_eq.mp ht) (by show (lookIn name (dictOf es n)).map _ = _; rw [lookIn_dict, hl]; rfl) h

/-! the whole heap as the ledger: makes every rule that writes through a ledger a rule over any heap -/
def noObjs (h : Heap) : Heap := { h with objs := #[] }
theorem noObjs_get (h : Heap) (b : Addr) : (noObjs h).get? b = none := by
  cases e : (noObjs h).get? b with
  | none => rfl
  | some o => exact absurd (Heap.lt_size e) (Nat.not_lt_zero _)
def ledger (h : Heap) (L d : Addr) : List (Addr × Obj) := (List.range h.objs.size).filterMap fun a => if a = L ∨ a = d then none else (h.get? a).map fun o => (a, o)
theorem mem_ledger {h : Heap} {L d a : Addr} {o : Obj} : (a, o) ∈ ledger h L d ↔ a ≠ L ∧ a ≠ d ∧ h.get? a = some o := by
  unfold ledger
  rw [List.mem_filterMap]
  constructor
  · rintro ⟨b, _, e⟩
    split at e
    · cases e
    · rename_i hb
      obtain ⟨o', ho, e'⟩ := Option.map_eq_some_iff.mp e
      cases e'
      exact ⟨fun q => hb (.inl q), fun q => hb (.inr q), ho⟩
  · rintro ⟨n1, n2, ho⟩
    refine ⟨a, List.mem_range.mpr (Heap.lt_size ho), ?_⟩
    rw [if_neg (show ¬ (a = L ∨ a = d) from fun q => q.elim n1 n2), ho] <;> rfl
theorem news_ledger {h : Heap} {L d : Addr} {od : Obj} (hne : d ≠ L) (ho : h.get? d = some od) : News (noObjs h) L h ([] ++ (d, od) :: ledger h L d) := by
  rintro ⟨a, o⟩ hp
  rcases List.mem_cons.mp hp with e | hp
  · cases e
    exact ⟨ho, hne, noObjs_get _ _⟩
  · obtain ⟨n1, n2, e⟩ := mem_ledger.mp hp
    exact ⟨e, n1, noObjs_get _ _⟩
theorem fr_all {h : Heap} {L : Addr} {m : Str → Option Value} (n : h.Ns L m) : Fr (noObjs h) L h m :=
  ⟨n, fun b o e => (by rw [noObjs_get] at e; cases e), Nat.zero_le _⟩
/-- Upd of the head entry (for append_K, setItem_K ..) -/
theorem upd_ledger {h : Heap} {L d : Addr} {o o' : Obj} : Upd d o o' ((d, o) :: ledger h L d) ((d, o') :: ledger h L d) :=
  .head fun ⟨_, _⟩ hp => (mem_ledger.mp hp).2.1

/-- x.name = v over any heap: L is any namespace of the heap (the frame's, say): its map stays, its object is not told; all else but the dict stays -/
theorem set_field {x C dx L : Addr} {ox : Obj} {m : Str → Option Value} {es es' : List DictEntry} {n n' : Nat} {name : Str} {v : Value} {Q : Unit → Shared → Prop}
    (X : K.In s.heap) (I : PySem.W.InstAt s.heap x ox C (some (dictOf es n))) (hd : ox.dict = some dx) (hL : s.heap.Ns L m) (hne : dx ≠ L)
    (hs : findIn K (.ref C) "__setattr__" = some (some (.builtin "object.__setattr__"))) (hp : plainOver K C = true) (ht : takerIn K C name = some none) (hh : hasDictIn K C = true) (hl : (getL name es).isSome = true)
    (e : (putL name (PyData.keyHash w.params name) (.str name (s.toks + 1)) v es, putN name es n) = (es', n')) (hz : es'.length ≤ 1000)
    (h : ∀ h' : Heap, h'.Ns L m → h'.get? dx = some (dictOf es' n') → (∀ b o, b ≠ dx → b ≠ L → s.heap.get? b = some o → h'.get? b = some o) → Q () { s with heap := h', toks := s.toks + 2 }) :
    wpAny (model prog w) A (setAttr (.ref x) name v) Q E s := by
  obtain ⟨e1, e2⟩ := Prod.mk.inj e
  have hdx : s.heap.get? dx = some (dictOf es n) := by
    have := I.dict
    rw [hd] at this
    exact this
  refine set_plain X I hs (osa_dict (s := { s with toks := s.toks + 1 }) (h₀ := noObjs s.heap) (L := L) (m := m) (od := dictOf es n) (od' := dictOf es' n') (es := es') (n := n') (pre := []) (post := ledger s.heap L dx)
    (fr_all hL) (news_ledger hne hdx) X I hd hp ht hh hl (fun _ q => nomatch q) (fun ⟨_, _⟩ q => (mem_ledger.mp q).2.1) (by rw [putName_dict, e1, e2]) rfl hz fun h' F' N' => ?_)
  exact h h' F'.ns (N'.get (List.Mem.head _)) fun b o n1 n2 ho => N'.get (List.Mem.tail _ (mem_ledger.mpr ⟨n2, n1, ho⟩))
end
end Att

namespace L2
open PySem PySem.Spec PyProof.Rows

theorem vals_ints : ∀ {vs : List Value} {ns : List Int}, IntsAre vs ns → Vals (ns.map V.int) vs
  | _, _, .nil => .nil
  | _, _, .cons n t h => .cons ⟨t, rfl⟩ (vals_ints h)

/-- nothing is tracked but the script, known to the object (or it is an object of the module) -/
def Only (H : Hp) : Prop := ∀ b, H b = none ∨ ∃ o xs, H b = some (.frz o (.lst xs))

/-- THE HEAD: the law's promise, at the heap behind the top. F, the promise of the law's def, may use that base is part of the heap (so K.In base, base.Ns mainGlobals mg stand in Mod) -/
theorem law_call {P : Program} {w : World} {K : PySem.W.Frag} {mg mb : Str → Option Value} {CX : CXT} {k : Nat} {fa a : Addr} {fd : FuncData} {x : Str} {sp : Sp} {s₁ : Shared} {vs : List Value} {ns : List Int}
    (KX : K.In s₁.heap) (hns : s₁.heap.Ns mainGlobals mg) (hb : s₁.heap.Ns builtinsNs mb) (hbb : ∀ x : Str, x ≠ "__name__" → mb x = bootBuiltins x) (hlim : s₁.heap.NoLimit) (hg : s₁.gens = #[])
    (ha : s₁.heap.get? a = some { cls := .type "list", data := .seq vs.toArray }) (hi : IntsAre vs ns) (hl : ns.length ≤ sizeLine) (hr : Room k callerA)
    (F : ∀ base : Heap, K.In base → base.Ns mainGlobals mg → FnOk P w K mg base CX k fa fd [x] sp) (hbind : ∀ (s : Shared) (u : Value), BindsTo s fd ⟨[u], []⟩ [(x, u)])
    (hsp : ∀ H : Hp, Only H → SqL K H a (ns.map V.int) → sp [.ref a] H (fun v _ => v = .bl true) fun _ _ _ => False)
    (hCX : ∀ H e s', CX [] H s₁ (fun _ _ _ => False) e s' → False) :
    codeAny (model P w) callerA (.call (.ref fa) ⟨[.ref a], []⟩) (fun r s' => r = .ok (.ret (.bool true)) ∧ OldK s₁.heap s'.heap ∧ s'.os = s₁.os ∧ AllBare s'.gens) s₁ := by
  have rv := vals_ints hi
  have lenV := hi.length
  -- from an abstract heap in which nothing but the script may be tracked
  have core : ∀ H : Hp, Only H → SqL K H a (ns.map V.int) → HOk P w H s₁.heap → (∀ b, H b ≠ none → b = a) → (H a ≠ none → K.lookup a = none) →
      codeAny (model P w) callerA (.call (.ref fa) ⟨[.ref a], []⟩) (fun r s' => r = .ok (.ret (.bool true)) ∧ OldK s₁.heap s'.heap ∧ s'.os = s₁.os ∧ AllBare s'.gens) s₁ := by
    intro H hO hS hok hA hK
    have base_of : ∀ {b : Addr} {o : Obj}, s₁.heap.get? b = some o → H b = none → (hidT s₁.heap H).get? b = some o := fun e n => hidT_get e n
    have noA : ∀ {b : Addr} {o : Obj} {es : Array DictEntry} {ep : Nat}, s₁.heap.get? b = some o → o.data = .dict es ep → H b = none := fun {b o es ep} e d => by
      cases q : H b with
      | none => rfl
      | some u =>
        have e' : b = a := hA b (by rw [q]; simp)
        subst e'
        rw [ha] at e; cases e
        have d' : Data.seq vs.toArray _ = Data.dict es ep := d
        cases d'
    have nsK : ∀ {b : Addr} {m : Str → Option Value}, s₁.heap.Ns b m → (hidT s₁.heap H).Ns b m := fun {b m} ⟨o, es, ep, e, d, r⟩ => ⟨o, es, ep, base_of e (noA e d), d, r⟩
    have hKb : K.In (hidT s₁.heap H) := fun b o e => base_of (KX b o e) (by
      cases q : H b with
      | none => rfl
      | some u =>
        have e' : b = a := hA b (by rw [q]; simp)
        subst e'
        rw [hK (by rw [q]; simp)] at e; cases e)
    have hM : Mod K mg (hidT s₁.heap H) := ⟨hKb, nsK hns, ⟨mb, nsK hb, hbb⟩, let ⟨mc, h1, h2⟩ := hlim; ⟨mc, nsK h1, h2⟩⟩
    have e0 : Env0 P w K mg (hidT s₁.heap H) callerA [] s₁ H := ⟨rfl, hM, fun b o e => of_hidT e, Nat.le_of_eq (hidT_size _ _), trivial, fun b hb => absurd (show b ∈ ([] : List Addr) from hb) (by simp), hok, .of_eq hg⟩
    refine codeAny_mono ((F _ hKb (nsK hns)).run callerA [] s₁ H ⟨[.ref a], []⟩ [.ref a] [.ref a] _ _ hr e0 (hbind s₁ (.ref a)) (.cons rfl .nil) (hsp H hO hS)) fun r s' h => ?_
    cases r with
    | error e => exact (hCX H e s' h).elim
    | ok fl =>
      cases fl with
      | next => exact False.elim h
      | brk => exact False.elim h
      | cont => exact False.elim h
      | ret u =>
        obtain ⟨v, H', os, bare, un, hok', r', q⟩ := h
        have q' : v = .bl true := q
        subst q'
        obtain rfl : u = Value.bool true := r'
        refine ⟨rfl, OldK.of_keep fun b o e => ?_, os, bare⟩
        cases q : H b with
        | none => exact un.keep b o e q (by intro z; exact absurd (show b ∈ ([] : List Addr) from z) (by simp)) (by simp)
        | some u =>
          rcases hO b with z | ⟨ob, xs, z⟩
          · rw [q] at z; cases z
          · have z2 := un.frzs b ob _ z
            obtain ⟨e1, _⟩ := hok b _ z
            obtain ⟨e2, _⟩ := hok' b _ z2
            rw [e] at e1; cases e1
            exact e2
  cases hk : K.lookup a with
  | some o =>
    -- the script is one of the module's own objects
    have e := KX a o hk
    rw [ha] at e
    cases e
    refine core (fun _ => none) (fun _ => .inl rfl) (.inr ⟨_, vs.toArray, _, hk, rfl, rfl, rfl, by rw [List.size_toArray, lenV]; exact hl, by simpa using rv⟩) (fun b u z => by have z' : (none : Option HO) = some u := z; cases z') (fun b z => absurd rfl z) fun z => absurd rfl z
  | none =>
    refine core (fun b => if b = a then some (.frz { cls := .type "list", data := .seq vs.toArray } (.lst (ns.map V.int))) else none) (fun b => ?_) (.inl (.inr ⟨{ cls := .type "list", data := .seq vs.toArray }, if_pos rfl⟩)) (fun b u z => ?_) (fun b z => ?_) fun _ => hk
    · by_cases hb : b = a
      · exact .inr ⟨_, _, if_pos hb⟩
      · exact .inl (if_neg hb)
    · by_cases hb : b = a
      · have z' := (if_pos hb).symm.trans z
        cases z'
        subst hb
        exact ⟨ha, by rw [List.length_map]; exact hl, vs, _, rv, ha⟩
      · have z' := (if_neg hb).symm.trans z
        cases z'
    · by_cases hb : b = a
      · exact hb
      · exact absurd (if_neg hb) z
end L2

namespace L2
open PySem PySem.Spec PyProof.Rows

abbrev KOf {K : PySem.W.Frag} {h : Heap} (_ : K.In h) : PySem.W.Frag := K

/-- the goal that k_head leaves (case hc), from the law's promise. F gives the function object fd (K's own) once, then the promise over every base -/
theorem walk_of {l : PySem.W.OpenLaw} {n k : Nat} {q : Program} {loose : List Str} {XP : (Str → Option Value) → Heap → Prop} {YP : World → Heap → Prop} {d : DefRec} {K : Params → PySem.W.Frag} {CX : World → CXT} {sp : World → Sp} {x : Str}
    (hn : l.most = some n) (hn2 : n ≤ sizeLine) (hdf : d.params.defaults = []) (hr : Room k callerA)
    (hY : ∀ (w : World) (h : Heap), YP w h → (K w.params).In h)
    (F : ∀ (w : World) (mg : Str → Option Value) (fa : Addr) (h : Heap), (K w.params).In h → h.Ns mainGlobals mg → mg d.name = some (.ref fa) →
      ∃ fd : FuncData, (∀ (s : Shared) (u : Value), BindsTo s fd ⟨[u], []⟩ [(x, u)]) ∧
        ∀ base : Heap, (K w.params).In base → base.Ns mainGlobals mg → FnOk l.prog w (K w.params) mg base (CX w) k fa fd [x] (sp w))
    (hsp : ∀ (w : World) (H : Hp) (a : Addr) (ns : List Int), ns.length ≤ n → Only H → SqL (K w.params) H a (ns.map V.int) → sp w [.ref a] H (fun v _ => v = .bl true) fun _ _ _ => False)
    (hCX : ∀ (w : World) (H : Hp) (s : Shared) (e : Value) (s' : Shared), CX w [] H s (fun _ _ _ => False) e s' → False) :
    PySem.W.WalkO q loose XP YP l.row.toRowW d [] (fun f vs => PySem.call f vs) := by
  refine Att.attach_call hn hdf fun w s₀ s₁ mg mb fa o pm cd doc a vs ns G Y ho hd hcd hmg hobj hints hlen hg => ?_
  have KX := hY w _ Y
  obtain ⟨fd, hb, hF⟩ := F w mg fa _ KX G.T.g hmg
  exact law_call KX G.T.g G.T.b G.T.builtins G.T.nolimit hg hobj hints (Nat.le_trans hlen hn2) hr hF hb (fun H hO hS => hsp w H a ns hlen hO hS) fun H e s' => hCX w H s₁ e s'
/-- the same where the promise hangs on the written part alone: (sp := My.sp_law), no hole under a binder -/
theorem walk_ofK {l : PySem.W.OpenLaw} {n k : Nat} {q : Program} {loose : List Str} {XP : (Str → Option Value) → Heap → Prop} {YP : World → Heap → Prop} {d : DefRec} {K : Params → PySem.W.Frag} {CX : CXT} {sp : PySem.W.Frag → Sp} {x : Str}
    (hn : l.most = some n) (hn2 : n ≤ sizeLine) (hdf : d.params.defaults = []) (hr : Room k callerA)
    (hY : ∀ (w : World) (h : Heap), YP w h → (K w.params).In h)
    (F : ∀ (w : World) (mg : Str → Option Value) (fa : Addr) (h : Heap), (K w.params).In h → h.Ns mainGlobals mg → mg d.name = some (.ref fa) →
      ∃ fd : FuncData, (∀ (s : Shared) (u : Value), BindsTo s fd ⟨[u], []⟩ [(x, u)]) ∧
        ∀ base : Heap, (K w.params).In base → base.Ns mainGlobals mg → FnOk l.prog w (K w.params) mg base CX k fa fd [x] (sp (K w.params)))
    (hsp : ∀ (K : PySem.W.Frag) (H : Hp) (a : Addr) (ns : List Int), ns.length ≤ n → Only H → SqL K H a (ns.map V.int) → sp K [.ref a] H (fun v _ => v = .bl true) fun _ _ _ => False)
    (hCX : ∀ (H : Hp) (s : Shared) (e : Value) (s' : Shared), CX [] H s (fun _ _ _ => False) e s' → False) :
    PySem.W.WalkO q loose XP YP l.row.toRowW d [] (fun f vs => PySem.call f vs) :=
  walk_of (K := K) (CX := fun _ => CX) (sp := fun w => sp (K w.params)) hn hn2 hdf hr hY F (fun w H a ns h1 h2 h3 => hsp (K w.params) H a ns h1 h2 h3) fun _ H s e s' => hCX H s e s'
end L2

/- THE LAST THEOREM (shape; LID, My.* are yours):
   My.Adr: a structure of the addresses that your layer names (classes, functions); My.Txt K t: a structure (Prop) of the equations over K;
   My.txt_mk : {K} {implicit addresses ..} (e1 : nsIn K mainGlobals "law" = some (some (.ref f))) (e2 : K.lookup f = some ⟨oc, od, .func (fnOf "law" "law" params body scope dV kV doc pm an cdv ct), sl⟩) (e3 : codeIn K cdv "law" = true) .. : ∃ t, My.Txt K t

theorem PySem.Challenge.cw_LID_holds : PySem.Challenge.rw_LID.Holds := by
  w_on; o_law; k_head; (case hw => w_witness2)
  k_fill
  refine L2.walk_of (l := PySem.Challenge.rw_LID) (n := 63) (k := 40) (x := "script") (CX := fun w => ..) (sp := fun _ => My.sp_law) rfl (by decide) rfl ⟨rfl, by decide, by decide⟩ (fun w h Y => PySem.W.kIn_of Y) ?F ?S ?C
  case F =>
    intro w mg fa h KX G hmg
    have T : ∃ t, My.Txt (L2.KOf KX) t := by
      dsimp only [L2.KOf]                          -- K must stand as «<heap const> w.params» for k_is
      refine' My.txt_mk ?e1 ?e2 ?e3 ..
      (case e1 => PySem.W.k_is)                    -- in the order: a name -> its address -> its object -> its parts
      (case e2 => PySem.W.k_is)
      ..
    obtain ⟨t, T⟩ := T
    have e0 := hmg.symm.trans (PySem.W.mg_of KX G T.law)
    cases e0                                       -- fa is the law's own address
    exact ⟨_, fun s u => .of_eq rfl, fun base kb nb => My.law_fn T kb nb⟩     -- if «.of_eq rfl» comes too early: refine' ⟨_, ?b, fun base kb nb => My.law_fn T kb nb⟩; exact fun s u => .of_eq rfl
  case S => exact fun w H a ns hl hO hS => ..
  case C => exact ..
(the tactic k_is has no namespace: write k_is) -/

/-! SHORT WORDS over the layer: a def of the text, its body, what a loop and a test want. -/
namespace L2
open PySem PySem.Spec PyProof.Rows

/-! ### the text by places -/
/-- the j-th statement of a class's body -/
def inClass (s : Stmt) (j : Nat) : Stmt := match s with
  | .ClassDef _ _ _ body _ _ _ _ _ _ _ => body.getD j (.Pass ⟨0, 0, 0, 0⟩)
  | _ => .Pass ⟨0, 0, 0, 0⟩
def defArgs (s : Stmt) : Arguments := match s with
  | .FunctionDef _ a _ _ _ _ _ _ _ _ => a
  | _ => { posonlyargs := [], args := [], vararg := none, kwonlyargs := [], kw_defaults := [], kwarg := none, defaults := [] }
def defBody (s : Stmt) : List Stmt := match s with
  | .FunctionDef _ _ b _ _ _ _ _ _ _ => b
  | _ => []
def defScope (s : Stmt) : Scope := match s with
  | .FunctionDef _ _ _ _ _ _ sc _ _ _ => sc
  | _ => { kind := .function, names := [], isGenerator := false, isCoroutine := false }

/-! ### no exception leaves a def -/
abbrev CX0 : CXT := fun _ _ _ _ _ _ => False
abbrev E0 : XK := fun _ _ _ => False
theorem pass0 {X : Cx} : Passes CX0 X E0 := fun _ _ _ _ _ _ _ h => h.elim

/-! ### a def (or method) of the text as it stands behind the top -/
structure Fun (K : PySem.W.Frag) (x qual : Str) (st : Stmt) (f : Addr) (fd : FuncData) : Prop where
  ex : ∃ (oc : Value) (od : Option Addr) (kV doc pm : Value) (an : Option Addr) (cdv ct : Value) (osl : Array (Option Value)),
    fd = PySem.W.fnOf x qual (defArgs st) (defBody st) (defScope st) .none kV doc pm an cdv ct ∧ K.lookup f = some ⟨oc, od, .func fd, osl⟩ ∧ PySem.W.codeIn K cdv qual = true
  kp : PySem.W.keepIn K (.ref f) = true
section
variable {P : Program} {w : World} {K : PySem.W.Frag} {mg : Str → Option Value} {base : Heap}
/-- THE RULE for a def: its body as a term of rules, and the reading of that term -/
theorem Fun.ok {x qual : Str} {st : Stmt} {f : Addr} {fd : FuncData} {N ps : List Str} {k : Nat} {sp : Sp} (F : Fun K x qual st f fd) (S : FnScope N ps (defScope st)) (len : ∀ vs H Q E, sp vs H Q E → vs.length = ps.length)
    (hbody : ∀ (cdv : Value) (A : Around) (outer : List Env) (s : Shared) (H : Hp) (vs : List V) (Q : VK) (E : XK), Room k (A.deeper (envOfC qual (defScope st) s.heap.objs.size f cdv)) → sp vs H Q E →
      ∃ t, PSs (cxOf CX0 P w K mg base N qual (defScope st) f cdv A outer s H E).nox (defBody st) t ∧ t { nx := fun _ H' => Q .non H', rt := Q } (start N vs) H) : FnOk P w K mg base CX0 (k + 1) f fd ps sp := by
  obtain ⟨oc, od, kV, doc, pm, an, cdv, ct, osl, rfl, lk, hcd⟩ := F.ex
  refine fn_of lk hcd S len fun A outer s H vs Q E hr hsp => ?_
  obtain ⟨t, h, q⟩ := hbody cdv A outer s H vs Q E hr hsp
  exact ⟨t, h.nox, q⟩
/-- how its arguments bind (no defaults): h is «fun _ _ _ _ _ _ us hl => match us, hl with | [_, _], _ => rfl», one _ a parameter -/
theorem Fun.binds {x qual : Str} {st : Stmt} {f : Addr} {fd : FuncData} {ps : List Str} (F : Fun K x qual st f fd)
    (h : ∀ (kV doc pm : Value) (an : Option Addr) (cdv ct : Value) (us : List Value), us.length = ps.length → bindArgs (PySem.W.fnOf x qual (defArgs st) (defBody st) (defScope st) .none kV doc pm an cdv ct) ⟨us, []⟩ = pure (ps.zip us)) : Binds K fd ps [] := by
  obtain ⟨oc, od, kV, doc, pm, an, cdv, ct, osl, rfl, lk, hcd⟩ := F.ex
  exact .all (h kV doc pm an cdv ct)
theorem fun_mk {x qual : Str} {st : Stmt} {f : Addr} {oc : Value} {od an : Option Addr} {osl : Array (Option Value)} {kV doc pm cdv ct : Value} (l : K.lookup f = some ⟨oc, od, .func (PySem.W.fnOf x qual (defArgs st) (defBody st) (defScope st) .none kV doc pm an cdv ct), osl⟩)
    (c : PySem.W.codeIn K cdv qual = true) (k : PySem.W.keepIn K (.ref f) = true) : Fun K x qual st f (PySem.W.fnOf x qual (defArgs st) (defBody st) (defScope st) .none kV doc pm an cdv ct) := ⟨⟨oc, od, kV, doc, pm, an, cdv, ct, osl, rfl, l, c⟩, k⟩
end
theorem hu_of {A : Around} {k : Nat} (hr : Room k A) : A.units + 1 < cLine := Nat.lt_of_le_of_lt (Nat.add_le_add_left (by decide : 1 ≤ 64) _) hr.units
theorem small1000 {n : Nat} (h : n ≤ 1000) : n < sizeLine := Nat.lt_of_le_of_lt h (by decide)

/-! ### expressions in short: the name that stands in the i-th slot -/
section
variable {X : Cx}
theorem pv (i : Nat) {x : Str} {pos : Pos} (hN : X.N[i]? = some x := by rfl) (hv : Vis X.env.scope x := by first | exact Or.inl rfl | exact Or.inr (Or.inl rfl) | exact Or.inr (Or.inr rfl)) (hd : (x == ("__debug__" : Str)) = false := by decide)
    (hcd : (x == ("__classdict__" : Str)) = false := by decide) : PE X (.Name x pos) (tVar i) := pe_var hN hv hd hcd
end

/-! ### tests -/
theorem iteF {A B : Prop} (h : B) : if false = true then A else B := by
  rw [if_neg Bool.false_ne_true]
  exact h
theorem iteT {A B : Prop} (h : A) : if true = true then A else B := by
  rw [if_pos rfl]
  exact h
theorem ite2 {c A B : Prop} [Decidable c] (h1 : c → A) (h2 : ¬ c → B) : if c then A else B := by
  by_cases h : c
  · rw [if_pos h]
    exact h1 h
  · rw [if_neg h]
    exact h2 h
theorem iteNS {c A B : Prop} [Decidable c] (hc : c) (h : B) : if (!decide c) = true then A else B := by
  rw [decide_eq_true hc]
  exact iteF h

/-! ### heaps -/
/-- all that was tracked is as it was -/
def Same (H H' : Hp) : Prop := ∀ b o, H b = some o → H' b = some o
theorem Same.refl (H : Hp) : Same H H := fun _ _ h => h
theorem Same.trans {H H1 H2 : Hp} (a : Same H H1) (b : Same H1 H2) : Same H H2 := fun c o h => b c o (a c o h)
theorem Same.free {H H' : Hp} (e : Same H H') {l : Addr} (h : H' l = Option.none) : H l = Option.none := by
  cases q : H l with
  | none => rfl
  | some o =>
    rw [e l o q] at h
    cases h
theorem Same.seq {K : PySem.W.Frag} {H H' : Hp} {a : Addr} {xs : List V} (e : Same H H') (h : SqL K H a xs) : SqL K H' a xs := by
  rcases h with (h | ⟨o, h⟩) | h
  · exact .inl (.inl (e _ _ h))
  · exact .inl (.inr ⟨o, e _ _ h⟩)
  · exact .inr h

end L2

namespace IL
open PySem PySem.Spec PyProof.Rows L2

/-! ### 1. The pure side: values, heaps, the monad -/
/-- a value: tuples and what never changes are trees, lists and dicts are places of the pure heap -/
inductive W where
  | non | bl (b : Bool) | int (i : Int) | str (x : Str) | tup (ws : List W) | fl (ws : List W) | ref (i : Nat) | exc (c : Str) (ns : List Str) (ws : List W)

mutual
def W.dec : (a b : W) → Decidable (a = b)
  | .non, .non => Decidable.isTrue rfl
  | .bl a, .bl b => if h : a = b then Decidable.isTrue (by rw [h]) else Decidable.isFalse (fun e => h (W.bl.inj e))
  | .int a, .int b => if h : a = b then Decidable.isTrue (by rw [h]) else Decidable.isFalse (fun e => h (W.int.inj e))
  | .str a, .str b => if h : a = b then Decidable.isTrue (by rw [h]) else Decidable.isFalse (fun e => h (W.str.inj e))
  | .tup a, .tup b => match W.decs a b with
    | Decidable.isTrue h => Decidable.isTrue (by rw [h])
    | Decidable.isFalse h => Decidable.isFalse (fun e => h (W.tup.inj e))
  | .fl a, .fl b => match W.decs a b with
    | Decidable.isTrue h => Decidable.isTrue (by rw [h])
    | Decidable.isFalse h => Decidable.isFalse (fun e => h (W.fl.inj e))
  | .ref a, .ref b => if h : a = b then Decidable.isTrue (by rw [h]) else Decidable.isFalse (fun e => h (W.ref.inj e))
  | .exc c ns a, .exc c' ns' b => match W.decs a b with
    | Decidable.isTrue h => if h1 : c = c' then if h2 : ns = ns' then Decidable.isTrue (by rw [h, h1, h2]) else Decidable.isFalse (fun e => h2 (W.exc.inj e).2.1) else Decidable.isFalse (fun e => h1 (W.exc.inj e).1)
    | Decidable.isFalse h => Decidable.isFalse (fun e => h (W.exc.inj e).2.2)
  | .non, .bl _ | .non, .int _ | .non, .str _ | .non, .tup _ | .non, .fl _ | .non, .ref _ | .non, .exc _ _ _ => Decidable.isFalse (fun e => nomatch e)
  | .bl _, .non | .bl _, .int _ | .bl _, .str _ | .bl _, .tup _ | .bl _, .fl _ | .bl _, .ref _ | .bl _, .exc _ _ _ => Decidable.isFalse (fun e => nomatch e)
  | .int _, .non | .int _, .bl _ | .int _, .str _ | .int _, .tup _ | .int _, .fl _ | .int _, .ref _ | .int _, .exc _ _ _ => Decidable.isFalse (fun e => nomatch e)
  | .str _, .non | .str _, .bl _ | .str _, .int _ | .str _, .tup _ | .str _, .fl _ | .str _, .ref _ | .str _, .exc _ _ _ => Decidable.isFalse (fun e => nomatch e)
  | .tup _, .non | .tup _, .bl _ | .tup _, .int _ | .tup _, .str _ | .tup _, .fl _ | .tup _, .ref _ | .tup _, .exc _ _ _ => Decidable.isFalse (fun e => nomatch e)
  | .fl _, .non | .fl _, .bl _ | .fl _, .int _ | .fl _, .str _ | .fl _, .tup _ | .fl _, .ref _ | .fl _, .exc _ _ _ => Decidable.isFalse (fun e => nomatch e)
  | .ref _, .non | .ref _, .bl _ | .ref _, .int _ | .ref _, .str _ | .ref _, .tup _ | .ref _, .fl _ | .ref _, .exc _ _ _ => Decidable.isFalse (fun e => nomatch e)
  | .exc _ _ _, .non | .exc _ _ _, .bl _ | .exc _ _ _, .int _ | .exc _ _ _, .str _ | .exc _ _ _, .tup _ | .exc _ _ _, .fl _ | .exc _ _ _, .ref _ => Decidable.isFalse (fun e => nomatch e)
def W.decs : (a b : List W) → Decidable (a = b)
  | [], [] => Decidable.isTrue rfl
  | a :: as, b :: bs => match W.dec a b, W.decs as bs with
    | Decidable.isTrue h, Decidable.isTrue h' => Decidable.isTrue (by rw [h, h'])
    | Decidable.isFalse h, _ => Decidable.isFalse (fun e => h (List.cons.inj e).1)
    | _, Decidable.isFalse h => Decidable.isFalse (fun e => h (List.cons.inj e).2)
  | [], _ :: _ | _ :: _, [] => Decidable.isFalse (fun e => nomatch e)
end
instance : DecidableEq W := W.dec

inductive PO where
  | lst (ws : List W)
  | dct (kvs : List (W × W))
  deriving DecidableEq

abbrev PH := List PO
/-- what an operation does with the heap -/
abbrev Po (α : Type) := PH → Option (α × PH)
def ret {α : Type} (a : α) : Po α := fun ph => some (a, ph)
def nono {α : Type} : Po α := fun _ => none
/-- an exception: its class by name, its fields -/
structure XC where
  cls : Str
  fs : List (Str × W)
/-- what a piece of the text comes to -/
inductive Out (α : Type) where
  | ok (a : α) (ph : PH)
  | ex (x : XC) (ph : PH)
  | no
def Out.Run {α : Type} (r : Out α) (N : α → PH → Prop) (E : XC → PH → Prop) : Prop := match r with
  | .ok a ph => N a ph
  | .ex x ph => E x ph
  | .no => False
theorem Out.Run.mono {α : Type} {r : Out α} {N N' : α → PH → Prop} {E E' : XC → PH → Prop} (h : r.Run N E) (hn : ∀ a ph, N a ph → N' a ph) (he : ∀ x ph, E x ph → E' x ph) : r.Run N' E' := by
  cases r with
  | ok a ph => exact hn a ph h
  | ex x ph => exact he x ph h
  | no => exact h
abbrev Mo (α : Type) := PH → Out α
def pur {α : Type} (a : α) : Mo α := fun ph => .ok a ph
def nop {α : Type} : Mo α := fun _ => .no
def lift {α : Type} (o : Po α) : Mo α := fun ph => match o ph with
  | some p => .ok p.1 p.2
  | none => .no
def bnd {α β : Type} (m : Mo α) (f : α → Mo β) : Mo β := fun ph => match m ph with
  | .ok a ph' => f a ph'
  | .ex x ph' => .ex x ph'
  | .no => .no
theorem run_bnd {α β : Type} {m : Mo α} {f : α → Mo β} {ph : PH} {N : β → PH → Prop} {E : XC → PH → Prop} : (bnd m f ph).Run N E = (m ph).Run (fun a ph1 => (f a ph1).Run N E) E := by
  unfold bnd
  cases m ph <;> rfl
theorem run_lift {α : Type} {o : Po α} {ph : PH} {N : α → PH → Prop} {E : XC → PH → Prop} (h : (lift o ph).Run N E) : ∃ a ph', o ph = some (a, ph') ∧ N a ph' := by
  unfold lift at h
  cases e : o ph with
  | none => rw [e] at h; exact h.elim
  | some p => rw [e] at h; exact ⟨p.1, p.2, rfl, h⟩
abbrev PSt := List (Option W)
abbrev EM := PSt → Mo W
abbrev TM := PSt → Mo Bool
abbrev AM := PSt → Mo (List W)
inductive Fl where
  | nx (σ : PSt) | rt (w : W) | bk (σ : PSt) | ct (σ : PSt)
abbrev SM := PSt → Mo Fl

/-! ### 2. The relation -/
def KL (K : PySem.W.Frag) (a : Addr) (xs : List V) : Prop :=
  ∃ (o : Obj) (its : Array Value) (n : Nat), K.lookup a = some o ∧ o.cls = .type "list" ∧ o.dict = none ∧ o.data = .seq its n ∧ its.size ≤ sizeLine ∧ Vals xs its.toList
def FrzL (K : PySem.W.Frag) (H : Hp) (a : Addr) (xs : List V) : Prop := (∃ o, H a = some (.frz o (.lst xs))) ∨ KL K a xs
theorem FrzL.sq {K : PySem.W.Frag} {H : Hp} {a : Addr} {xs : List V} (h : FrzL K H a xs) : SqL K H a xs := by
  rcases h with ⟨o, h⟩ | h
  · exact .inl (.inr ⟨o, h⟩)
  · exact .inr h
/-- an exception's own values, by their names -/
def XFld (H : Hp) (o : Obj) (ns : List Str) (vs : List V) : Prop := (ns = [] ∧ vs = []) ∨ ∃ d od, o.dict = some d ∧ ns.length = vs.length ∧ H d = some (.frz od (.xd (ns.zip vs)))
mutual
inductive RelW (K : PySem.W.Frag) (φ : Nat → Addr) (n : Nat) (H : Hp) : W → V → Prop where
  | non : RelW K φ n H .non .non
  | bl (b : Bool) : RelW K φ n H (.bl b) (.bl b)
  | int (i : Int) : RelW K φ n H (.int i) (.int i)
  | str (x : Str) : RelW K φ n H (.str x) (.str x)
  | tup {ws : List W} {a : Addr} {vs : List V} (h : SqT K H a vs) (r : RelWs K φ n H ws vs) : RelW K φ n H (.tup ws) (.ref a)
  | fl {ws : List W} {a : Addr} {vs : List V} (h : FrzL K H a vs) (r : RelWs K φ n H ws vs) : RelW K φ n H (.fl ws) (.ref a)
  | ref {i : Nat} (h : i < n) : RelW K φ n H (.ref i) (.ref (φ i))
  | exc {c : Str} {ns : List Str} {ws : List W} {a C : Addr} {vs : List V} {o : Obj} {u : HO} (h : H a = some (.frz o u)) (hc : o.cls = .ref C) (hn : PySem.W.nsIn K mainGlobals c = some (some (.ref C))) (hk : PySem.W.notCls o = true) (hf : XFld H o ns vs) (r : RelWs K φ n H ws vs) : RelW K φ n H (.exc c ns ws) (.ref a)
inductive RelWs (K : PySem.W.Frag) (φ : Nat → Addr) (n : Nat) (H : Hp) : List W → List V → Prop where
  | nil : RelWs K φ n H [] []
  | cons {w : W} {v : V} {ws : List W} {vs : List V} (h : RelW K φ n H w v) (r : RelWs K φ n H ws vs) : RelWs K φ n H (w :: ws) (v :: vs)
end
structure Step (K : PySem.W.Frag) (φ : Nat → Addr) (n : Nat) (H : Hp) (φ' : Nat → Addr) (n' : Nat) (H' : Hp) : Prop where
  le : n ≤ n'
  eq : ∀ i, i < n → φ' i = φ i
  tup : ∀ a xs, SqT K H a xs → SqT K H' a xs
  frz : ∀ a o u, H a = some (.frz o u) → H' a = some (.frz o u)
section
variable {K : PySem.W.Frag} {φ φ' φ'' : Nat → Addr} {n n' n'' : Nat} {H H' H'' : Hp}
theorem Step.refl : Step K φ n H φ n H := ⟨Nat.le_refl _, fun _ _ => rfl, fun _ _ h => h, fun _ _ _ h => h⟩
theorem Step.trans (a : Step K φ n H φ' n' H') (b : Step K φ' n' H' φ'' n'' H'') : Step K φ n H φ'' n'' H'' :=
  ⟨Nat.le_trans a.le b.le, fun i h => (b.eq i (Nat.lt_of_lt_of_le h a.le)).trans (a.eq i h), fun c xs h => b.tup c xs (a.tup c xs h), fun c o u h => b.frz c o u (a.frz c o u h)⟩
theorem XFld.mono (s : Step K φ n H φ' n' H') {o : Obj} {ns : List Str} {vs : List V} (h : XFld H o ns vs) : XFld H' o ns vs :=
  h.imp_right fun ⟨d, od, e1, e2, e3⟩ => ⟨d, od, e1, e2, s.frz _ _ _ e3⟩
mutual
theorem RelW.mono (s : Step K φ n H φ' n' H') : ∀ {w : W} {v : V}, RelW K φ n H w v → RelW K φ' n' H' w v
  | _, _, .non => .non
  | _, _, .bl b => .bl b
  | _, _, .int i => .int i
  | _, _, .str x => .str x
  | _, _, .tup h r => .tup (s.tup _ _ h) (RelWs.mono s r)
  | _, _, .fl h r => .fl (h.elim (fun ⟨o, e⟩ => .inl ⟨o, s.frz _ _ _ e⟩) .inr) (RelWs.mono s r)
  | _, _, .ref (i := i) h => (s.eq i h) ▸ .ref (Nat.lt_of_lt_of_le h s.le)
  | _, _, .exc h hc hn hk hf r => .exc (s.frz _ _ _ h) hc hn hk (hf.mono s) (RelWs.mono s r)
theorem RelWs.mono (s : Step K φ n H φ' n' H') : ∀ {ws : List W} {vs : List V}, RelWs K φ n H ws vs → RelWs K φ' n' H' ws vs
  | _, _, .nil => .nil
  | _, _, .cons h r => .cons (RelW.mono s h) (RelWs.mono s r)
end
theorem RelWs.length : ∀ {ws : List W} {vs : List V}, RelWs K φ n H ws vs → ws.length = vs.length
  | _, _, .nil => rfl
  | _, _, .cons _ r => by simp [RelWs.length r]
theorem RelWs.get : ∀ {ws : List W} {vs : List V} {i : Nat} {w : W}, RelWs K φ n H ws vs → ws[i]? = some w → ∃ v, vs[i]? = some v ∧ RelW K φ n H w v
  | _, _, _, _, .nil, e => by simp at e
  | _, _, 0, _, .cons h _, e => by simp at e; subst e; exact ⟨_, rfl, h⟩
  | _, _, i + 1, w, .cons _ r, e => by
    obtain ⟨u, h1, h2⟩ := RelWs.get (i := i) (w := w) r (by simpa using e)
    exact ⟨u, by simpa using h1, h2⟩
theorem RelWs.getV : ∀ {ws : List W} {vs : List V} {i : Nat} {v : V}, RelWs K φ n H ws vs → vs[i]? = some v → ∃ w, ws[i]? = some w ∧ RelW K φ n H w v
  | _, _, _, _, .nil, e => by simp at e
  | _, _, 0, _, .cons h _, e => by simp at e; subst e; exact ⟨_, rfl, h⟩
  | _, _, i + 1, w, .cons _ r, e => by
    obtain ⟨u, h1, h2⟩ := RelWs.getV (i := i) (v := w) r (by simpa using e)
    exact ⟨u, by simpa using h1, h2⟩
theorem RelWs.append : ∀ {ws xs : List W} {vs us : List V}, RelWs K φ n H ws vs → RelWs K φ n H xs us → RelWs K φ n H (ws ++ xs) (vs ++ us)
  | _, _, _, _, .nil, s => s
  | _, _, _, _, .cons h r, s => .cons h (RelWs.append r s)
theorem RelWs.take : ∀ {ws : List W} {vs : List V} (k : Nat), RelWs K φ n H ws vs → RelWs K φ n H (ws.take k) (vs.take k)
  | _, _, 0, _ => .nil
  | _, _, _ + 1, .nil => .nil
  | _, _, k + 1, .cons h r => .cons h (RelWs.take k r)
theorem RelWs.drop : ∀ {ws : List W} {vs : List V} (k : Nat), RelWs K φ n H ws vs → RelWs K φ n H (ws.drop k) (vs.drop k)
  | _, _, 0, r => r
  | _, _, _ + 1, .nil => .nil
  | _, _, k + 1, .cons h r => RelWs.drop k r
theorem RelWs.set {w : W} {v : V} (q : RelW K φ n H w v) : ∀ {ws : List W} {vs : List V} (i : Nat), RelWs K φ n H ws vs → RelWs K φ n H (ws.set i w) (vs.set i v)
  | _, _, _, .nil => .nil
  | _, _, 0, .cons _ r => .cons q r
  | _, _, i + 1, .cons h r => .cons h (RelWs.set q i r)
theorem RelWs.reverse : ∀ {ws : List W} {vs : List V}, RelWs K φ n H ws vs → RelWs K φ n H ws.reverse vs.reverse
  | _, _, .nil => .nil
  | _, _, .cons h r => by simp only [List.reverse_cons]; exact RelWs.append (RelWs.reverse r) (.cons h .nil)
end

/-- what stands at a place of the pure heap -/
def RelPO (K : PySem.W.Frag) (φ : Nat → Addr) (n : Nat) (H : Hp) (o : PO) (a : Addr) : Prop := match o with
  | .lst ws => ∃ vs, H a = some (.lst vs) ∧ RelWs K φ n H ws vs
  | .dct _ => False
structure RelH (K : PySem.W.Frag) (φ : Nat → Addr) (ph : PH) (H : Hp) : Prop where
  hp : ∀ i o, ph[i]? = some o → RelPO K φ ph.length H o (φ i)
  inj : ∀ i j, i < ph.length → j < ph.length → φ i = φ j → i = j
inductive RelS (K : PySem.W.Frag) (φ : Nat → Addr) (n : Nat) (H : Hp) : PSt → L2.St → Prop where
  | nil : RelS K φ n H [] []
  | sm {w : W} {v : V} {ws : PSt} {vs : L2.St} (h : RelW K φ n H w v) (r : RelS K φ n H ws vs) : RelS K φ n H (some w :: ws) (some v :: vs)
  | nn {v : Option V} {ws : PSt} {vs : L2.St} (r : RelS K φ n H ws vs) : RelS K φ n H (none :: ws) (v :: vs)
section
variable {K : PySem.W.Frag} {φ φ' φ'' : Nat → Addr} {n n' n'' : Nat} {H H' H'' : Hp} {ph : PH}
theorem RelS.mono (s : Step K φ n H φ' n' H') : ∀ {ws : PSt} {vs : L2.St}, RelS K φ n H ws vs → RelS K φ' n' H' ws vs
  | _, _, .nil => .nil
  | _, _, .sm h r => .sm (h.mono s) (RelS.mono s r)
  | _, _, .nn r => .nn (RelS.mono s r)
theorem RelS.get : ∀ {ws : PSt} {vs : L2.St} {i : Nat} {w : W}, RelS K φ n H ws vs → ws[i]? = some (some w) → ∃ v, vs[i]? = some (some v) ∧ RelW K φ n H w v
  | _, _, _, _, .nil, e => by simp at e
  | _, _, 0, _, .sm h _, e => by simp at e; subst e; exact ⟨_, rfl, h⟩
  | _, _, 0, _, .nn _, e => by simp at e
  | _, _, i + 1, w, .sm _ r, e => by
    obtain ⟨u, h1, h2⟩ := RelS.get (i := i) (w := w) r (by simpa using e)
    exact ⟨u, by simpa using h1, h2⟩
  | _, _, i + 1, w, .nn r, e => by
    obtain ⟨u, h1, h2⟩ := RelS.get (i := i) (w := w) r (by simpa using e)
    exact ⟨u, by simpa using h1, h2⟩
theorem RelS.set {w : W} {v : V} (q : RelW K φ n H w v) : ∀ {ws : PSt} {vs : L2.St} (i : Nat), RelS K φ n H ws vs → RelS K φ n H (ws.set i (Option.some w)) (vs.set i (Option.some v))
  | _, _, _, .nil => .nil
  | _, _, 0, .sm _ r => .sm q r
  | _, _, 0, .nn r => .sm q r
  | _, _, i + 1, .sm h r => .sm h (RelS.set q i r)
  | _, _, i + 1, .nn r => .nn (RelS.set q i r)
theorem RelS.start : ∀ {ws : List W} {vs : List V} (k : Nat), RelWs K φ n H ws vs → RelS K φ n H (ws.map Option.some ++ List.replicate k Option.none) (vs.map Option.some ++ List.replicate k Option.none)
  | _, _, 0, .nil => .nil
  | _, _, k + 1, .nil => .nn (RelS.start k .nil)
  | _, _, k, .cons h r => .sm h (RelS.start k r)
theorem RelPO.some {o : PO} {a : Addr} (h : RelPO K φ n H o a) : ∃ x, H a = Option.some x ∧ Mut (Option.some x) := by
  cases o with
  | lst ws => obtain ⟨vs, e, _⟩ := h; exact ⟨_, e, trivial⟩
  | dct _ => exact h.elim
theorem RelPO.mono {o : PO} {a : Addr} (s : Step K φ n H φ' n' H') (e : H' a = H a) (h : RelPO K φ n H o a) : RelPO K φ' n' H' o a := by
  cases o with
  | lst ws => obtain ⟨vs, q, r⟩ := h; exact ⟨vs, e.trans q, r.mono s⟩
  | dct _ => exact h
theorem RelH.at (h : RelH K φ ph H) {i : Nat} (hi : i < ph.length) : ∃ x, H (φ i) = Option.some x ∧ Mut (Option.some x) := (h.hp i ph[i] (by simp [hi])).some
/-- a tuple is laid -/
theorem step_tup {p : Addr} {xs : List V} (hp : H p = none) : Step K φ n H φ n (upd H p (.tup xs)) := by
  refine ⟨Nat.le_refl _, fun _ _ => rfl, fun a ys h => ?_, fun a o u h => ?_⟩
  · rcases h with h | h
    · rcases h with h | ⟨o, h⟩
      · exact .inl (.inl (by rw [upd_ne (ne_of_none h hp)]; exact h))
      · exact .inl (.inr ⟨o, by rw [upd_ne (ne_of_none h hp)]; exact h⟩)
    · exact .inr h
  · rw [upd_ne (ne_of_none h hp)]; exact h
theorem RelH.tup {p : Addr} {xs : List V} (h : RelH K φ ph H) (hp : H p = none) : RelH K φ ph (upd H p (.tup xs)) := by
  refine ⟨fun i o e => ?_, h.inj⟩
  have hi : i < ph.length := (List.getElem?_eq_some_iff.mp e).1
  obtain ⟨x, ex, _⟩ := h.at hi
  exact (h.hp i o e).mono (step_tup hp) (upd_ne (ne_of_none ex hp))
/-- a new list or dict is laid -/
def ext (φ : Nat → Addr) (n : Nat) (p : Addr) : Nat → Addr := fun i => if i = n then p else φ i
theorem ext_lt {p : Addr} {i : Nat} (h : i < n) : ext φ n p i = φ i := by unfold ext; rw [if_neg (by omega)]
theorem ext_eq {p : Addr} : ext φ n p n = p := by unfold ext; rw [if_pos rfl]
theorem step_new {p : Addr} {o : HO} (hp : H p = none) : Step K φ n H (ext φ n p) (n + 1) (upd H p o) := by
  refine ⟨Nat.le_succ _, fun i h => ext_lt h, fun a ys h => ?_, fun a o u h => ?_⟩
  · rcases h with h | h
    · rcases h with h | ⟨o, h⟩
      · exact .inl (.inl (by rw [upd_ne (ne_of_none h hp)]; exact h))
      · exact .inl (.inr ⟨o, by rw [upd_ne (ne_of_none h hp)]; exact h⟩)
    · exact .inr h
  · rw [upd_ne (ne_of_none h hp)]; exact h
theorem RelH.new {p : Addr} {x : HO} {o : PO} (h : RelH K φ ph H) (hp : H p = none) (r : RelPO K (ext φ ph.length p) (ph.length + 1) (upd H p x) o p) :
    RelH K (ext φ ph.length p) (ph ++ [o]) (upd H p x) := by
  refine ⟨fun i o' e => ?_, fun i j hi hj e => ?_⟩
  · rw [List.length_append]
    by_cases hi : i < ph.length
    · rw [List.getElem?_append_left hi] at e
      obtain ⟨y, ey, _⟩ := h.at hi
      rw [ext_lt hi]
      exact (h.hp i o' e).mono (step_new hp) (upd_ne (ne_of_none ey hp))
    · have hl := (List.getElem?_eq_some_iff.mp e).1
      simp at hl
      have : i = ph.length := by omega
      subst this
      simp at e
      subst e
      rw [ext_eq]
      exact r
  · simp at hi hj
    have key : ∀ k, k < ph.length → φ k ≠ p := fun k hk z => by
      obtain ⟨y, ey, _⟩ := h.at hk
      rw [z, hp] at ey; cases ey
    by_cases h1 : i < ph.length <;> by_cases h2 : j < ph.length
    · rw [ext_lt h1, ext_lt h2] at e; exact h.inj i j h1 h2 e
    · have : j = ph.length := by omega
      subst this
      rw [ext_lt h1, ext_eq] at e; exact (key i h1 e).elim
    · have : i = ph.length := by omega
      subst this
      rw [ext_lt h2, ext_eq] at e; exact (key j h2 e.symm).elim
    · omega
/-- an object is written -/
theorem step_set {a : Addr} {x y : HO} (ha : H a = some x) (mx : Mut (some x)) : Step K φ n H φ n (upd H a y) := by
  refine ⟨Nat.le_refl _, fun _ _ => rfl, fun c ys h => ?_, fun c o u h => ?_⟩
  · rcases h with h | h
    · rcases h with h | ⟨o, h⟩
      · exact .inl (.inl (by rw [upd_ne (ne_of h ha (by rintro rfl; exact mx))]; exact h))
      · exact .inl (.inr ⟨o, by rw [upd_ne (ne_of h ha (by rintro rfl; exact mx))]; exact h⟩)
    · exact .inr h
  · rw [upd_ne (ne_of h ha (by rintro rfl; exact mx))]; exact h
theorem RelH.put {i : Nat} {x : HO} {o : PO} (h : RelH K φ ph H) (hi : i < ph.length) (r : RelPO K φ ph.length (upd H (φ i) x) o (φ i)) : RelH K φ (ph.set i o) (upd H (φ i) x) := by
  obtain ⟨y, ey, my⟩ := h.at hi
  refine ⟨fun j o' e => ?_, fun j k hj hk e => ?_⟩
  · rw [List.length_set]
    by_cases hj : j = i
    · subst hj
      rw [List.getElem?_set_self hi] at e
      cases e
      exact r
    · rw [List.getElem?_set_ne (Ne.symm hj)] at e
      have hjl := (List.getElem?_eq_some_iff.mp e).1
      exact (h.hp j o' e).mono (step_set ey my) (upd_ne fun z => hj (h.inj j i hjl hi z))
  · rw [List.length_set] at hj hk
    exact h.inj j k hj hk e
end

/-! ### 3. The judgements -/
/-- an exception of the class at C that was raised in this very body -/
def Made (X : Cx) (C : Addr) (H' : Hp) (e : Value) (s' : Shared) : Prop :=
  ∃ pins σ s vs h' a, e = .ref a ∧ s' = { s with heap := h' } ∧ Inv X pins σ H' s ∧ Heap.MadeExcOf s.heap h' a (.ref C) vs
/-- the heap B without the frames, as it is handed up -/
structure UnB (fs : List Addr) (H H' : Hp) (h B h' : Heap) : Prop where
  keep : ∀ b o, h.get? b = some o → H b = none → b ∉ fs → B.get? b = some o
  slot : ∀ b o, h.get? b = some o → H b = none → b ∈ fs → ∃ sl, h'.get? b = some { o with slots := sl }
  free : ∀ b o, h.get? b = some o → H b = none → H' b = none
  there : ∀ b o, h.get? b = some o → b ∉ fs → ∃ o', B.get? b = some o'
  tups : ∀ b xs, H b = some (.tup xs) → H' b = some (.tup xs)
  frzs : ∀ b o u, H b = some (.frz o u) → H' b = some (.frz o u)
  tbls : ∀ b ps, H b = some (.tbl ps) → ∃ more, H' b = some (.tbl (ps ++ more))
/-- an exception that comes out of a call: l the frames that run -/
def Flew (P : Program) (w : World) (l : List Env) (H : Hp) (s : Shared) (C : Addr) (H' : Hp) (e : Value) (s' : Shared) : Prop :=
  ∃ a a0 B, e = .ref a ∧ s'.os = s.os ∧ AllBare s'.gens ∧ Heap.FlyingW B l a (.ref C) a0 s'.heap ∧ HOk P w H' B ∧ UnB (frs l) H H' s.heap B s'.heap
def Thr (X : Cx) (x : XC) (H' : Hp) (e : Value) (s' : Shared) : Prop := ∃ C, X.mg x.cls = some (.ref C) ∧ x.fs = [] ∧ (Made X C H' e s' ∨ ∃ pins σ H s, Inv X pins σ H s ∧ Flew X.prog X.w X.stack H s C H' e s')
/-- what is wanted of an exception -/
def XE (X : Cx) (φ : Nat → Addr) (n : Nat) (H : Hp) : XC → PH → Prop := fun x ph' => ∀ φ' H' e s', RelH X.K φ' ph' H' → Step X.K φ n H φ' ph'.length H' → Thr X x H' e s' → X.xe e s'
theorem XE.step {X : Cx} {φ φ1 : Nat → Addr} {n n1 : Nat} {H H1 : Hp} {x : XC} {ph' : PH} (h : XE X φ n H x ph') (s : Step X.K φ n H φ1 n1 H1) : XE X φ1 n1 H1 x ph' := fun φ' H' e s' r t q => h φ' H' e s' r (s.trans t) q
def tM (X : Cx) (m : EM) : TE := fun σ H Q => ∃ φ ph ws, RelH X.K φ ph H ∧ RelS X.K φ ph.length H ws σ ∧ (m ws ph).Run (fun w ph' =>
  ∀ φ' H' v, RelH X.K φ' ph' H' → Step X.K φ ph.length H φ' ph'.length H' → RelW X.K φ' ph'.length H' w v → Q v H') (XE X φ ph.length H)
def tT (X : Cx) (m : TM) : TT := fun σ H Q => ∃ φ ph ws, RelH X.K φ ph H ∧ RelS X.K φ ph.length H ws σ ∧ (m ws ph).Run (fun b ph' =>
  ∀ φ' H', RelH X.K φ' ph' H' → Step X.K φ ph.length H φ' ph'.length H' → Q b H') (XE X φ ph.length H)
def tA (X : Cx) (m : AM) : TA := fun σ H Q => ∃ φ ph ws, RelH X.K φ ph H ∧ RelS X.K φ ph.length H ws σ ∧ (m ws ph).Run (fun xs ph' =>
  ∀ φ' H' vs, RelH X.K φ' ph' H' → Step X.K φ ph.length H φ' ph'.length H' → RelWs X.K φ' ph'.length H' xs vs → Q vs H') (XE X φ ph.length H)
def EndF (X : Cx) (D : Ends) (φ' : Nat → Addr) (ph' : PH) (H' : Hp) (f : Fl) : Prop := match f with
  | .nx ws' => ∀ σ', RelS X.K φ' ph'.length H' ws' σ' → D.nx σ' H'
  | .bk ws' => ∀ σ', RelS X.K φ' ph'.length H' ws' σ' → D.bk σ' H'
  | .ct ws' => ∀ σ', RelS X.K φ' ph'.length H' ws' σ' → D.ct σ' H'
  | .rt w => ∀ v, RelW X.K φ' ph'.length H' w v → D.rt v H'
def tS (X : Cx) (m : SM) : TS := fun D σ H => ∃ φ ph ws, RelH X.K φ ph H ∧ RelS X.K φ ph.length H ws σ ∧ (m ws ph).Run (fun f ph' =>
  ∀ φ' H', RelH X.K φ' ph' H' → Step X.K φ ph.length H φ' ph'.length H' → EndF X D φ' ph' H' f) (XE X φ ph.length H)
section
variable {X : Cx} {e : Expr}
theorem PE.imp {t t' : TE} (h : PE X e t) (k : ∀ σ H Q, t' σ H Q → t σ H Q) : PE X e t' := fun pins s σ H Q I q => h pins s σ H Q I (k σ H Q q)
theorem PT.imp {t t' : TT} (h : PT X e t) (k : ∀ σ H Q, t' σ H Q → t σ H Q) : PT X e t' := fun pins s σ H Q I q => h pins s σ H Q I (k σ H Q q)
theorem PA.imp {es : List Expr} {t t' : TA} (h : PA X es t) (k : ∀ σ H Q, t' σ H Q → t σ H Q) : PA X es t' := fun pos pins s σ H Q I q => h pos pins s σ H Q I (k σ H Q q)
theorem PS.imp {st : Stmt} {t t' : TS} (h : PS X st t) (k : ∀ D σ H, t' D σ H → t D σ H) : PS X st t' := fun pins s σ H D I q => h pins s σ H D I (k D σ H q)
theorem PSs.imp {st : List Stmt} {t t' : TS} (h : PSs X st t) (k : ∀ D σ H, t' D σ H → t D σ H) : PSs X st t' := fun pins s σ H D I q => h pins s σ H D I (k D σ H q)
/-- the judgements in short -/
abbrev IE (X : Cx) (e : Expr) (m : EM) : Prop := PE X e (tM X m)
abbrev IT (X : Cx) (e : Expr) (m : TM) : Prop := PT X e (tT X m)
abbrev IA (X : Cx) (es : List Expr) (m : AM) : Prop := PA X es (tA X m)
abbrev IS (X : Cx) (st : Stmt) (m : SM) : Prop := PS X st (tS X m)
abbrev ISs (X : Cx) (st : List Stmt) (m : SM) : Prop := PSs X st (tS X m)
end

/-! ### 4. Expressions -/
def eVar (i : Nat) : EM := fun σ => lift fun ph => match σ[i]? with
  | some (some w) => some (w, ph)
  | _ => none
def eC (w : W) : EM := fun _ => pur w
def eOp (f : W → W → Po W) (a b : EM) : EM := fun σ => bnd (a σ) fun x => bnd (b σ) fun y => lift (f x y)
def eUn (f : W → Po W) (a : EM) : EM := fun σ => bnd (a σ) fun x => lift (f x)
def OpI (K : PySem.W.Frag) (r : R2) (f : W → W → Po W) : Prop := ∀ {φ : Nat → Addr} {ph : PH} {H : Hp} {x y : W} {vx vy : V} {w : W} {ph' : PH} {Q : VK}, RelH K φ ph H → RelW K φ ph.length H x vx → RelW K φ ph.length H y vy → f x y ph = some (w, ph') →
  (∀ φ' H' v, RelH K φ' ph' H' → Step K φ ph.length H φ' ph'.length H' → RelW K φ' ph'.length H' w v → Q v H') → r vx vy H Q
def UnI (K : PySem.W.Frag) (r : V → Hp → VK → Prop) (f : W → Po W) : Prop := ∀ {φ : Nat → Addr} {ph : PH} {H : Hp} {x : W} {vx : V} {w : W} {ph' : PH} {Q : VK}, RelH K φ ph H → RelW K φ ph.length H x vx → f x ph = some (w, ph') →
  (∀ φ' H' v, RelH K φ' ph' H' → Step K φ ph.length H φ' ph'.length H' → RelW K φ' ph'.length H' w v → Q v H') → r vx H Q
section
variable {X : Cx} {a b c : Expr} {ma mb mc : EM} {pos : Pos}
theorem ie_var (i : Nat) {x : Str} (hN : X.N[i]? = some x := by rfl) (hv : Vis X.env.scope x := by first | exact Or.inl rfl | exact Or.inr (Or.inl rfl) | exact Or.inr (Or.inr rfl)) (hd : (x == ("__debug__" : Str)) = false := by decide)
    (hcd : (x == ("__classdict__" : Str)) = false := by decide) : IE X (.Name x pos) (eVar i) := by
  refine PE.imp (pe_var hN hv hd hcd) fun σ H Q h => ?_
  obtain ⟨φ, ph, ws, hH, hS, h⟩ := h
  obtain ⟨w, ph', e, k⟩ := run_lift h
  split at e
  · rename_i w' ew
    cases e
    obtain ⟨v, ev, rv⟩ := hS.get ew
    exact ⟨v, ev, k φ H v hH Step.refl rv⟩
  · cases e
theorem ie_c {t : V} {w : W} (h : PE X a (tC t)) (r : ∀ φ n H, RelW X.K φ n H w t) : IE X a (eC w) := by
  refine PE.imp h fun σ H Q h => ?_
  obtain ⟨φ, ph, ws, hH, hS, h⟩ := h
  exact h φ H _ hH Step.refl (r _ _ _)
theorem ie_int {i : Int} {j : Nat} : IE X (.Constant (.int i) j pos) (eC (.int i)) := ie_c pe_int fun _ _ _ => .int i
theorem ie_str {x : Str} {j : Nat} : IE X (.Constant (.str x) j pos) (eC (.str x)) := ie_c pe_str fun _ _ _ => .str x
theorem ie_bl {x : Bool} {j : Nat} : IE X (.Constant (.bool x) j pos) (eC (.bl x)) := ie_c pe_bl fun _ _ _ => .bl x
theorem ie_non {j : Nat} : IE X (.Constant .none j pos) (eC .non) := ie_c pe_non fun _ _ _ => .non
/-- first one piece, then the rest -/
theorem tM.bind {β : Type} {m : EM} {σ : L2.St} {H : Hp} {Q : VK} {φ : Nat → Addr} {ph : PH} {ws : PSt} {f : W → Mo β} {N : β → PH → Prop} (hH : RelH X.K φ ph H) (hS : RelS X.K φ ph.length H ws σ) (h : (bnd (m ws) f ph).Run N (XE X φ ph.length H))
    (k : ∀ w ph1 φ1 H1 v, RelH X.K φ1 ph1 H1 → Step X.K φ ph.length H φ1 ph1.length H1 → RelW X.K φ1 ph1.length H1 w v → (f w ph1).Run N (XE X φ1 ph1.length H1) → Q v H1) : tM X m σ H Q := by
  rw [run_bnd] at h
  exact ⟨φ, ph, ws, hH, hS, h.mono (fun w ph1 h1 φ1 H1 v hH1 s1 r1 => k w ph1 φ1 H1 v hH1 s1 r1 (h1.mono (fun _ _ z => z) fun _ _ z => z.step s1)) fun _ _ z => z⟩
theorem tT.bind {β : Type} {m : TM} {σ : L2.St} {H : Hp} {Q : Bool → Hp → Prop} {φ : Nat → Addr} {ph : PH} {ws : PSt} {f : Bool → Mo β} {N : β → PH → Prop} (hH : RelH X.K φ ph H) (hS : RelS X.K φ ph.length H ws σ) (h : (bnd (m ws) f ph).Run N (XE X φ ph.length H))
    (k : ∀ b ph1 φ1 H1, RelH X.K φ1 ph1 H1 → Step X.K φ ph.length H φ1 ph1.length H1 → (f b ph1).Run N (XE X φ1 ph1.length H1) → Q b H1) : tT X m σ H Q := by
  rw [run_bnd] at h
  exact ⟨φ, ph, ws, hH, hS, h.mono (fun b ph1 h1 φ1 H1 hH1 s1 => k b ph1 φ1 H1 hH1 s1 (h1.mono (fun _ _ z => z) fun _ _ z => z.step s1)) fun _ _ z => z⟩
theorem tA.bind {β : Type} {m : AM} {σ : L2.St} {H : Hp} {Q : List V → Hp → Prop} {φ : Nat → Addr} {ph : PH} {ws : PSt} {f : List W → Mo β} {N : β → PH → Prop} (hH : RelH X.K φ ph H) (hS : RelS X.K φ ph.length H ws σ) (h : (bnd (m ws) f ph).Run N (XE X φ ph.length H))
    (k : ∀ xs ph1 φ1 H1 vs, RelH X.K φ1 ph1 H1 → Step X.K φ ph.length H φ1 ph1.length H1 → RelWs X.K φ1 ph1.length H1 xs vs → (f xs ph1).Run N (XE X φ1 ph1.length H1) → Q vs H1) : tA X m σ H Q := by
  rw [run_bnd] at h
  exact ⟨φ, ph, ws, hH, hS, h.mono (fun w ph1 h1 φ1 H1 v hH1 s1 r1 => k w ph1 φ1 H1 v hH1 s1 r1 (h1.mono (fun _ _ z => z) fun _ _ z => z.step s1)) fun _ _ z => z⟩
theorem bin_imp {r : R2} {f : W → W → Po W} (hi : OpI X.K r f) {σ : L2.St} {H : Hp} {Q : VK} (h : tM X (eOp f ma mb) σ H Q) : tOp r (tM X ma) (tM X mb) σ H Q := by
  obtain ⟨φ, ph, ws, hH, hS, h⟩ := h
  refine tM.bind hH hS h fun x ph1 φ1 H1 vx hH1 s1 rx h => tM.bind hH1 (hS.mono s1) h fun y ph2 φ2 H2 vy hH2 s2 ry h => ?_
  obtain ⟨w, ph', e, k⟩ := run_lift h
  exact hi hH2 (rx.mono s2) ry e fun φ3 H3 v hH3 s3 r3 => k φ3 H3 v hH3 ((s1.trans s2).trans s3) r3
theorem ie_op {op : Operator} {r : R2} {f : W → W → Po W} (ho : OpR X (binaryOp op) r) (hi : OpI X.K r f) (ha : IE X a ma) (hb : IE X b mb) : IE X (.BinOp a op b pos) (eOp f ma mb) :=
  PE.imp (pe_op ho ha hb) fun _ _ _ h => bin_imp hi h
theorem ie_un {op : UnaryOp} {r : V → Hp → VK → Prop} {f : W → Po W} (ho : UnR X (unaryOp op) r) (hi : UnI X.K r f) (ha : IE X a ma) : IE X (.UnaryOp op a pos) (eUn f ma) := by
  refine PE.imp (pe_un ho ha) fun σ H Q h => ?_
  obtain ⟨φ, ph, ws, hH, hS, h⟩ := h
  refine tM.bind hH hS h fun x ph1 φ1 H1 vx hH1 s1 rx h => ?_
  obtain ⟨w, ph', e, k⟩ := run_lift h
  exact hi hH1 rx e fun φ3 H3 v hH3 s3 r3 => k φ3 H3 v hH3 (s1.trans s3) r3
theorem ie_cmp {op : CmpOp} {r : R2} {f : W → W → Po W} (ho : OpR X (compareOp op) r) (hi : OpI X.K r f) (ha : IE X a ma) (hb : IE X b mb) (hm : behindInMarks op b = false) : IE X (.Compare a [op] [b] pos) (eOp f ma mb) :=
  PE.imp (pe_cmpR ho ha hb hm) fun _ _ _ h => bin_imp hi h
/-- a value that is a bool, as a test -/
def eT (m : EM) : TM := fun σ => bnd (m σ) fun w => lift (match w with
  | .bl b => ret b
  | _ => nono)
theorem it_cmp {op : CmpOp} {r : R2} {f : W → W → Po W} (ho : OpR X (compareOp op) r) (hi : OpI X.K r f) (ha : IE X a ma) (hb : IE X b mb) (hm : behindInMarks op b = false) : IT X (.Compare a [op] [b] pos) (eT (eOp f ma mb)) := by
  refine PT.imp (pt_cmpR ho ha hb hm) fun σ H Q h => ?_
  obtain ⟨φ, ph, ws, hH, hS, h⟩ := h
  refine bin_imp hi (tM.bind hH hS h fun x ph1 φ1 H1 vx hH1 s1 rx h => ?_)
  obtain ⟨w, ph', e, k⟩ := run_lift h
  split at e
  · cases e
    cases rx
    exact ⟨_, rfl, k φ1 H1 hH1 s1⟩
  · cases e
end
/-! int operations -/
def iop (g : Int → Int → Int) : W → W → Po W := fun x y => match x, y with
  | .int i, .int j => ret (.int (g i j))
  | _, _ => nono
def iopC (c : Int → Int → Bool) (g : Int → Int → Int) : W → W → Po W := fun x y => match x, y with
  | .int i, .int j => if c i j = true then ret (.int (g i j)) else nono
  | _, _ => nono
def icmp (g : Int → Int → Bool) : W → W → Po W := fun x y => match x, y with
  | .int i, .int j => ret (.bl (g i j))
  | _, _ => nono
theorem iop_i {K : PySem.W.Frag} {g : Int → Int → Int} : OpI K (rI0 fun i j => .int (g i j)) (iop g) := by
  intro φ ph H x y vx vy w ph' Q hH rx ry e k
  unfold iop at e
  split at e
  · cases e; cases rx; cases ry
    exact ⟨_, _, rfl, rfl, k φ H _ hH Step.refl (.int _)⟩
  · cases e
theorem iopC_i {K : PySem.W.Frag} {C : Int → Int → Prop} {c : Int → Int → Bool} {g : Int → Int → Int} (hc : ∀ i j, c i j = true → C i j) : OpI K (rI C fun i j => .int (g i j)) (iopC c g) := by
  intro φ ph H x y vx vy w ph' Q hH rx ry e k
  unfold iopC at e
  split at e
  · split at e
    · cases e; cases rx; cases ry
      exact ⟨_, _, rfl, rfl, hc _ _ (by assumption), k φ H _ hH Step.refl (.int _)⟩
    · cases e
  · cases e
theorem icmp_i {K : PySem.W.Frag} {g : Int → Int → Bool} : OpI K (rI0 fun i j => .bl (g i j)) (icmp g) := by
  intro φ ph H x y vx vy w ph' Q hH rx ry e k
  unfold icmp at e
  split at e
  · cases e; cases rx; cases ry
    exact ⟨_, _, rfl, rfl, k φ H _ hH Step.refl (.bl _)⟩
  · cases e
end IL

namespace IL
open PySem PySem.Spec PyProof.Rows L2

/-! ### 5. Tests -/
def tAndM (a b : TM) : TM := fun σ => bnd (a σ) fun c => if c = true then b σ else pur false
def tOrM (a b : TM) : TM := fun σ => bnd (a σ) fun c => if c = true then pur true else b σ
def tNotM (a : TM) : TM := fun σ => bnd (a σ) fun c => pur (!c)
def eAnd (a b : EM) : EM := fun σ => bnd (a σ) fun w => match w with
  | .bl c => if c = true then b σ else pur (.bl false)
  | _ => nop
def eOr (a b : EM) : EM := fun σ => bnd (a σ) fun w => match w with
  | .bl c => if c = true then pur (.bl true) else b σ
  | _ => nop
def eNot (a : EM) : EM := fun σ => bnd (a σ) fun w => match w with
  | .bl c => pur (.bl (!c))
  | _ => nop
def eIf (t : TM) (a b : EM) : EM := fun σ => bnd (t σ) fun c => if c = true then a σ else b σ
section
variable {X : Cx} {a b c : Expr} {rest : List Expr} {ma mb mc : EM} {ta tb : TM} {pos : Pos}
theorem it_not (ha : IT X a ta) : IT X (.UnaryOp .Not a pos) (tNotM ta) := by
  refine PT.imp (pt_not ha) fun σ H Q h => ?_
  obtain ⟨φ, ph, ws, hH, hS, h⟩ := h
  exact tT.bind hH hS h fun x ph1 φ1 H1 hH1 s1 h => h φ1 H1 hH1 s1
theorem and_imp {σ : L2.St} {H : Hp} {Q : Bool → Hp → Prop} (h : tT X (tAndM ta tb) σ H Q) : tAnd (tT X ta) (tT X tb) σ H Q := by
  obtain ⟨φ, ph, ws, hH, hS, h⟩ := h
  refine tT.bind hH hS h fun x ph1 φ1 H1 hH1 s1 h => ?_
  cases x with
  | true => exact iteT ⟨φ1, ph1, ws, hH1, hS.mono s1, h.mono (fun _ _ k φ2 H2 hH2 s2 => k φ2 H2 hH2 (s1.trans s2)) fun _ _ z => z⟩
  | false => exact iteF (h φ1 H1 hH1 s1)
theorem or_imp {σ : L2.St} {H : Hp} {Q : Bool → Hp → Prop} (h : tT X (tOrM ta tb) σ H Q) : tOr (tT X ta) (tT X tb) σ H Q := by
  obtain ⟨φ, ph, ws, hH, hS, h⟩ := h
  refine tT.bind hH hS h fun x ph1 φ1 H1 hH1 s1 h => ?_
  cases x with
  | false => exact iteF ⟨φ1, ph1, ws, hH1, hS.mono s1, h.mono (fun _ _ k φ2 H2 hH2 s2 => k φ2 H2 hH2 (s1.trans s2)) fun _ _ z => z⟩
  | true => exact iteT (h φ1 H1 hH1 s1)
theorem iw_one {op : BoolOp} (ha : IT X a ta) : PW X (.BoolOp op [a] pos) (tT X ta) := by
  cases op with
  | And => exact pw_and1 ha
  | Or => exact pw_or1 ha
theorem iw_and (ha : IT X a ta) (hb : PW X (.BoolOp .And (b :: rest) pos) (tT X tb)) : PW X (.BoolOp .And (a :: b :: rest) pos) (tT X (tAndM ta tb)) :=
  fun wh pins s σ H Q I h => pw_and ha hb wh pins s σ H Q I (and_imp h)
theorem iw_or (ha : IT X a ta) (hb : PW X (.BoolOp .Or (b :: rest) pos) (tT X tb)) : PW X (.BoolOp .Or (a :: b :: rest) pos) (tT X (tOrM ta tb)) :=
  fun wh pins s σ H Q I h => pw_or ha hb wh pins s σ H Q I (or_imp h)
theorem ie_and (ha : IE X a ma) (hb : IE X (.BoolOp .And (b :: rest) pos) mb) : IE X (.BoolOp .And (a :: b :: rest) pos) (eAnd ma mb) := by
  refine PE.imp (pe_and ha hb) fun σ H Q h => ?_
  obtain ⟨φ, ph, ws, hH, hS, h⟩ := h
  refine tM.bind hH hS h fun x ph1 φ1 H1 vx hH1 s1 rx h => ?_
  cases rx with
  | bl c =>
    refine ⟨c, rfl, ?_⟩
    cases c with
    | true => exact iteT ⟨φ1, ph1, ws, hH1, hS.mono s1, h.mono (fun _ _ k φ2 H2 v hH2 s2 r2 => k φ2 H2 v hH2 (s1.trans s2) r2) fun _ _ z => z⟩
    | false => exact iteF (h φ1 H1 _ hH1 s1 (.bl false))
  | _ => exact h.elim
theorem ie_or (ha : IE X a ma) (hb : IE X (.BoolOp .Or (b :: rest) pos) mb) : IE X (.BoolOp .Or (a :: b :: rest) pos) (eOr ma mb) := by
  refine PE.imp (pe_or ha hb) fun σ H Q h => ?_
  obtain ⟨φ, ph, ws, hH, hS, h⟩ := h
  refine tM.bind hH hS h fun x ph1 φ1 H1 vx hH1 s1 rx h => ?_
  cases rx with
  | bl c =>
    refine ⟨c, rfl, ?_⟩
    cases c with
    | false => exact iteF ⟨φ1, ph1, ws, hH1, hS.mono s1, h.mono (fun _ _ k φ2 H2 v hH2 s2 r2 => k φ2 H2 v hH2 (s1.trans s2) r2) fun _ _ z => z⟩
    | true => exact iteT (h φ1 H1 _ hH1 s1 (.bl true))
  | _ => exact h.elim
theorem ie_one {op : BoolOp} (ha : IE X a ma) : IE X (.BoolOp op [a] pos) ma := pe_one ha
theorem ie_not (ha : IE X a ma) : IE X (.UnaryOp .Not a pos) (eNot ma) := by
  refine PE.imp (pe_not ha) fun σ H Q h => ?_
  obtain ⟨φ, ph, ws, hH, hS, h⟩ := h
  refine tM.bind hH hS h fun x ph1 φ1 H1 vx hH1 s1 rx h => ?_
  cases rx with
  | bl c => exact ⟨_, rfl, h φ1 H1 _ hH1 s1 (.bl _)⟩
  | _ => exact h.elim
theorem ie_if (hc : IT X c ta) (ha : IE X a ma) (hb : IE X b mb) : IE X (.IfExp c a b pos) (eIf ta ma mb) := by
  refine PE.imp (pe_ifExp hc ha hb) fun σ H Q h => ?_
  obtain ⟨φ, ph, ws, hH, hS, h⟩ := h
  refine tT.bind hH hS h fun x ph1 φ1 H1 hH1 s1 h => ?_
  cases x with
  | true => exact iteT ⟨φ1, ph1, ws, hH1, hS.mono s1, h.mono (fun _ _ k φ2 H2 v hH2 s2 r2 => k φ2 H2 v hH2 (s1.trans s2) r2) fun _ _ z => z⟩
  | false => exact iteF ⟨φ1, ph1, ws, hH1, hS.mono s1, h.mono (fun _ _ k φ2 H2 v hH2 s2 r2 => k φ2 H2 v hH2 (s1.trans s2) r2) fun _ _ z => z⟩
/-- the truth of a value -/
def truW (w : W) : Po Bool := fun ph => match w with
  | .non => some (false, ph)
  | .bl b => some (b, ph)
  | .int i => some (i != 0, ph)
  | .str y => if y.length ≤ sizeLine then some ((y.length : Int) != 0, ph) else none
  | .tup ws => some (!ws.isEmpty, ph)
  | .fl ws => some (!ws.isEmpty, ph)
  | .ref i => match ph[i]? with
    | some (.lst ws) => some (!ws.isEmpty, ph)
    | _ => none
  | .exc .. => none
def eTru (m : EM) : TM := fun σ => bnd (m σ) fun w => lift (truW w)
theorem emp_of {K : PySem.W.Frag} {φ : Nat → Addr} {n : Nat} {H : Hp} {ws : List W} {vs : List V} (r : RelWs K φ n H ws vs) : (!vs.isEmpty) = !ws.isEmpty := by cases r <;> rfl
theorem it_tru (ha : IE X a ma) (he : ∀ whole, isTrue a X.env whole = (do let v ← whole; standAt a.pos; holding [v] (truthy v)) := by intro _; rfl) : IT X a (eTru ma) := by
  refine PT.imp (pt_truth ha he) fun σ H Q h => ?_
  obtain ⟨φ, ph, ws, hH, hS, h⟩ := h
  refine tM.bind hH hS h fun x ph1 φ1 H1 vx hH1 s1 rx h => ?_
  obtain ⟨b, ph2, e, k⟩ := run_lift h
  unfold truW at e
  cases rx with
  | non => cases e; exact ⟨_, rfl, k φ1 H1 hH1 s1⟩
  | bl b => cases e; exact ⟨_, rfl, k φ1 H1 hH1 s1⟩
  | int i => cases e; exact ⟨_, rfl, k φ1 H1 hH1 s1⟩
  | str y =>
    simp only at e
    split at e
    · rename_i hy
      cases e
      exact ⟨_, ⟨hy, rfl⟩, k φ1 H1 hH1 s1⟩
    · cases e
  | tup hq r => cases e; exact ⟨_, .inr (.inl ⟨_, hq, rfl⟩), by rw [emp_of r]; exact k φ1 H1 hH1 s1⟩
  | fl hq r => cases e; exact ⟨_, .inl ⟨_, hq.sq, rfl⟩, by rw [emp_of r]; exact k φ1 H1 hH1 s1⟩
  | ref hi =>
    simp only at e
    split at e
    · rename_i ws' hw
      cases e
      obtain ⟨vs, hv, r⟩ := hH1.hp _ _ hw
      exact ⟨_, .inl ⟨vs, SqL.of hv, rfl⟩, by rw [emp_of r]; exact k φ1 H1 hH1 s1⟩
    · cases e
  | exc => cases e
end

/-! ### 6. Statements -/
def sNext : SM := fun σ => pur (.nx σ)
def sSeq (a b : SM) : SM := fun σ => bnd (a σ) fun f => match f with
  | .nx σ' => b σ'
  | f => pur f
def sExpr (e : EM) : SM := fun σ => bnd (e σ) fun _ => pur (.nx σ)
def sRet (e : EM) : SM := fun σ => bnd (e σ) fun w => pur (.rt w)
def sRetN : SM := fun _ => pur (.rt .non)
def sIf (t : TM) (a b : SM) : SM := fun σ => bnd (t σ) fun c => if c = true then a σ else b σ
def sBrk : SM := fun σ => pur (.bk σ)
def sCnt : SM := fun σ => pur (.ct σ)
def sNever : SM := fun _ => nop
abbrev GM := W → PSt → Mo PSt
def gN (i : Nat) : GM := fun w σ => pur (σ.set i (some w))
def sAsg (e : EM) (g : GM) : SM := fun σ => bnd (e σ) fun w => bnd (g w σ) fun σ' => pur (.nx σ')
def tG (X : Cx) (g : GM) : TG := fun v σ H Q => ∃ φ ph ws w, RelH X.K φ ph H ∧ RelS X.K φ ph.length H ws σ ∧ RelW X.K φ ph.length H w v ∧ (g w ws ph).Run (fun ws' ph' =>
  ∀ φ' H' σ', RelH X.K φ' ph' H' → Step X.K φ ph.length H φ' ph'.length H' → RelS X.K φ' ph'.length H' ws' σ' → Q σ' H') (XE X φ ph.length H)
abbrev IG (X : Cx) (tg : Expr) (g : GM) : Prop := PG X tg (tG X g)
section
variable {X : Cx} {e c : Expr} {m : EM} {t : TM} {a b : SM} {st : Stmt} {as bs rest : List Stmt} {pos : Pos} {tg : Expr} {g : GM}
theorem PG.imp {t t' : TG} (h : PG X tg t) (k : ∀ v σ H Q, t' v σ H Q → t v σ H Q) : PG X tg t' := fun pins s σ H v u Q I r q => h pins s σ H v u Q I r (k v σ H Q q)
theorem iss_nil : ISs X [] sNext := PSs.imp pss_nil fun D σ H h => by
  obtain ⟨φ, ph, ws, hH, hS, h⟩ := h
  exact h φ H hH Step.refl σ hS
theorem seq_imp {D : Ends} {σ : L2.St} {H : Hp} (h : tS X (sSeq a b) D σ H) : tSeq (tS X a) (tS X b) D σ H := by
  obtain ⟨φ, ph, ws, hH, hS, h⟩ := h
  unfold sSeq at h
  rw [run_bnd] at h
  refine ⟨φ, ph, ws, hH, hS, h.mono (fun f ph1 h φ1 H1 hH1 s1 => ?_) fun _ _ z => z⟩
  cases f with
  | nx ws1 => exact fun σ1 hS1 => ⟨φ1, ph1, ws1, hH1, hS1, h.mono (fun f ph2 k φ2 H2 hH2 s2 => k φ2 H2 hH2 (s1.trans s2)) fun _ _ z => z.step s1⟩
  | bk ws1 => exact h φ1 H1 hH1 s1
  | ct ws1 => exact h φ1 H1 hH1 s1
  | rt w => exact h φ1 H1 hH1 s1
theorem iss_cons (h1 : IS X st a) (h2 : ISs X rest b) : ISs X (st :: rest) (sSeq a b) := PSs.imp (pss_cons h1 h2) fun _ _ _ h => seq_imp h
theorem iss_one (h1 : IS X st a) : ISs X [st] a := pss_one h1
theorem is_pass : IS X (.Pass pos) sNext := PS.imp ps_pass fun D σ H h => by
  obtain ⟨φ, ph, ws, hH, hS, h⟩ := h
  exact h φ H hH Step.refl σ hS
theorem is_brk : IS X (.Break pos) sBrk := PS.imp ps_break fun D σ H h => by
  obtain ⟨φ, ph, ws, hH, hS, h⟩ := h
  exact h φ H hH Step.refl σ hS
theorem is_cnt : IS X (.Continue pos) sCnt := PS.imp ps_continue fun D σ H h => by
  obtain ⟨φ, ph, ws, hH, hS, h⟩ := h
  exact h φ H hH Step.refl σ hS
theorem is_never : IS X st sNever := PS.imp ps_never fun D σ H h => by
  obtain ⟨φ, ph, ws, hH, hS, h⟩ := h
  exact h
theorem is_doc {x : Str} {j : Nat} {pos' : Pos} : IS X (.Expr (.Constant (.str x) j pos) pos') sNext := PS.imp ps_doc fun D σ H h => by
  obtain ⟨φ, ph, ws, hH, hS, h⟩ := h
  exact h φ H hH Step.refl σ hS
theorem is_expr (he : IE X e m) (hs : swapsWith e none pos.line X.env = pure false := by rfl) : IS X (.Expr e pos) (sExpr m) := PS.imp (ps_expr he hs) fun D σ H h => by
  obtain ⟨φ, ph, ws, hH, hS, h⟩ := h
  exact tM.bind hH hS h fun w ph1 φ1 H1 v hH1 s1 r1 h => h φ1 H1 hH1 s1 σ (hS.mono s1)
theorem is_ret (he : IE X e m) : IS X (.Return (some e) pos) (sRet m) := PS.imp (ps_ret he) fun D σ H h => by
  obtain ⟨φ, ph, ws, hH, hS, h⟩ := h
  exact tM.bind hH hS h fun w ph1 φ1 H1 v hH1 s1 r1 h => h φ1 H1 hH1 s1 v r1
theorem is_retN : IS X (.Return none pos) sRetN := PS.imp ps_retN fun D σ H h => by
  obtain ⟨φ, ph, ws, hH, hS, h⟩ := h
  exact h φ H hH Step.refl .non .non
theorem is_if (hc : IT X c t) (ha : ISs X as a) (hb : ISs X bs b) : IS X (.If c as bs pos) (sIf t a b) := PS.imp (ps_if hc ha hb) fun D σ H h => by
  obtain ⟨φ, ph, ws, hH, hS, h⟩ := h
  refine tT.bind hH hS h fun x ph1 φ1 H1 hH1 s1 h => ?_
  cases x with
  | true => exact iteT ⟨φ1, ph1, ws, hH1, hS.mono s1, h.mono (fun _ _ k φ2 H2 hH2 s2 => k φ2 H2 hH2 (s1.trans s2)) fun _ _ z => z⟩
  | false => exact iteF ⟨φ1, ph1, ws, hH1, hS.mono s1, h.mono (fun _ _ k φ2 H2 hH2 s2 => k φ2 H2 hH2 (s1.trans s2)) fun _ _ z => z⟩
theorem ig_name {i : Nat} {x : Str} (hN : X.N.Nodup) (hi : X.N[i]? = some x) (hx : Loc X.env.scope x) (hf : X.fn x = true ∨ X.env.scope.names.lookup x = some .local := by first | exact .inl rfl | exact .inr rfl | assumption) : IG X (.Name x pos) (gN i) :=
  PG.imp (pg_name hN hi hx hf) fun v σ H Q h => by
    obtain ⟨φ, ph, ws, w, hH, hS, rw', h⟩ := h
    exact h φ H _ hH Step.refl (hS.set rw' i)
theorem tG.bind {β : Type} {g : GM} {σ : L2.St} {H : Hp} {Q : L2.St → Hp → Prop} {φ : Nat → Addr} {ph : PH} {ws : PSt} {w : W} {v : V} {f : PSt → Mo β} {N : β → PH → Prop} (hH : RelH X.K φ ph H) (hS : RelS X.K φ ph.length H ws σ) (rw' : RelW X.K φ ph.length H w v) (h : (bnd (g w ws) f ph).Run N (XE X φ ph.length H))
    (k : ∀ ws1 ph1 φ1 H1 σ1, RelH X.K φ1 ph1 H1 → Step X.K φ ph.length H φ1 ph1.length H1 → RelS X.K φ1 ph1.length H1 ws1 σ1 → (f ws1 ph1).Run N (XE X φ1 ph1.length H1) → Q σ1 H1) : tG X g v σ H Q := by
  rw [run_bnd] at h
  exact ⟨φ, ph, ws, w, hH, hS, rw', h.mono (fun ws1 ph1 h1 φ1 H1 σ1 hH1 s1 r1 => k ws1 ph1 φ1 H1 σ1 hH1 s1 r1 (h1.mono (fun _ _ z => z) fun _ _ z => z.step s1)) fun _ _ z => z⟩
theorem asg_imp {D : Ends} {σ : L2.St} {H : Hp} (h : tS X (sAsg m g) D σ H) : tAsg (tM X m) (tG X g) D σ H := by
  obtain ⟨φ, ph, ws, hH, hS, h⟩ := h
  refine tM.bind hH hS h fun w ph1 φ1 H1 v hH1 s1 r1 h => ?_
  exact tG.bind hH1 (hS.mono s1) r1 h fun ws2 ph2 φ2 H2 σ2 hH2 s2 hS2 h => h φ2 H2 hH2 (s1.trans s2) σ2 hS2
theorem is_set {i : Nat} {x : Str} {pos' : Pos} (hN : X.N.Nodup) (hi : X.N[i]? = some x) (hx : Loc X.env.scope x) (he : IE X e m) (hs : swapsWith e (some (.Name x pos')) pos.line X.env = pure false := by rfl)
    (hf : X.fn x = true ∨ X.env.scope.names.lookup x = some .local := by first | exact .inl rfl | exact .inr rfl | assumption) : IS X (.Assign [.Name x pos'] e pos) (sAsg m (gN i)) :=
  PS.imp (ps_set hN hi hx he hs hf) fun D σ H h => by
    obtain ⟨φ, ph, ws, hH, hS, h⟩ := h
    exact tM.bind hH hS h fun w ph1 φ1 H1 v hH1 s1 r1 h => h φ1 H1 hH1 s1 _ ((hS.mono s1).set r1 i)
theorem is_asg (he : IE X e m) (hg : IG X tg g) (hs : swapsWithSole [tg] e pos.line X.env = pure false := by rfl) (hw : swappedStores [tg] e X.env = pure none := by rfl)
    (h1 : (assignEach [tg] X.env).map (·.2) = [assign tg X.env] := by rfl) : IS X (.Assign [tg] e pos) (sAsg m g) := PS.imp (ps_asg he hg hs hw h1) fun _ _ _ h => asg_imp h
end

/-! ### 7. Loops -/
abbrev IM := PSt → Mo (List W × (PH → Bool))
def forG (chk : PH → Bool) (g : GM) (b : SM) : List W → SM
  | [], σ => fun ph => if chk ph = true then .ok (.nx σ) ph else .no
  | x :: xs, σ => fun ph => if chk ph = true then bnd (g x σ) (fun σ1 => bnd (b σ1) fun f => match f with
      | .nx σ' => forG chk g b xs σ'
      | .ct σ' => forG chk g b xs σ'
      | .bk σ' => pur (.nx σ')
      | .rt w => pur (.rt w)) ph else .no
def sFor (im : IM) (g : GM) (b : SM) : SM := fun σ => bnd (im σ) fun r => forG r.2 g b r.1 σ
/-- the walker J yields the items, as long as chk holds -/
def ItI (K : PySem.W.Frag) (J : It) (items : List W) (chk : PH → Bool) (φ : Nat → Addr) (n : Nat) (H : Hp) : Prop :=
  ∀ φ' ph' H', RelH K φ' ph' H' → Step K φ n H φ' ph'.length H' → chk ph' = true → ∀ i : Nat,
    (∀ w, items[i]? = some w → J.go i H' ∧ ∀ x H'', J.yld i H' x H'' → RelH K φ' ph' H'' ∧ Step K φ' ph'.length H' φ' ph'.length H'' ∧ RelW K φ' ph'.length H'' w x) ∧ (items[i]? = none → J.stop i H')
def tI (X : Cx) (im : IM) : TI := fun σ H R => ∃ φ ph ws, RelH X.K φ ph H ∧ RelS X.K φ ph.length H ws σ ∧ (im ws ph).Run (fun r ph' =>
  ∀ φ' H' J, RelH X.K φ' ph' H' → Step X.K φ ph.length H φ' ph'.length H' → ItI X.K J r.1 r.2 φ' ph'.length H' → R J H') (XE X φ ph.length H)
abbrev II (X : Cx) (tg iter : Expr) (im : IM) : Prop := PI X tg iter (tI X im)
section
variable {X : Cx} {iter tg c : Expr} {im : IM} {g : GM} {b : SM} {t : TM} {body : List Stmt} {pos : Pos}
theorem for_imp {D : Ends} {σ : L2.St} {H : Hp} (h : tS X (sFor im g b) D σ H) : tFor (tI X im) (tG X g) (tS X b) D σ H := by
  obtain ⟨φ, ph, ws, hH, hS, h⟩ := h
  unfold sFor at h
  rw [run_bnd] at h
  refine ⟨φ, ph, ws, hH, hS, h.mono (fun r ph1 h φ1 H1 J hH1 s1 hJ => ?_) fun _ _ z => z⟩
  obtain ⟨items, chk⟩ := r
  refine ⟨fun i m σ2 H2 => ∃ φ2 ph2 ws2, m = (items.drop i).length ∧ RelH X.K φ2 ph2 H2 ∧ RelS X.K φ2 ph2.length H2 ws2 σ2 ∧ Step X.K φ1 ph1.length H1 φ2 ph2.length H2 ∧
      (forG chk g b (items.drop i) ws2 ph2).Run (fun f ph' => ∀ φ' H', RelH X.K φ' ph' H' → Step X.K φ2 ph2.length H2 φ' ph'.length H' → EndF X D φ' ph' H' f) (XE X φ2 ph2.length H2),
    ⟨_, φ1, ph1, ws, rfl, hH1, hS.mono s1, Step.refl, h.mono (fun f ph' k φ' H' r' s' => k φ' H' r' (s1.trans s')) fun _ _ z => z.step s1⟩, ?_⟩
  rintro i m σ2 H2 ⟨φ2, ph2, ws2, rfl, hH2, hS2, s2, h2⟩
  cases hd : items.drop i with
  | nil =>
    rw [hd] at h2
    unfold forG at h2
    split at h2
    · rename_i hc
      have hn : items[i]? = none := by
        have : items.length ≤ i := by simpa using hd
        simpa using this
      exact .inl ⟨(hJ φ2 _ H2 hH2 s2 hc i).2 hn, h2 φ2 H2 hH2 Step.refl σ2 hS2⟩
    · exact h2.elim
  | cons x xs =>
    rw [hd] at h2
    unfold forG at h2
    split at h2
    · rename_i hc
      have hx : items[i]? = some x := by
        have := congrArg (fun l => l[0]?) hd
        simpa using this
      have hxs : items.drop (i + 1) = xs := by
        have := congrArg (fun l => l.drop 1) hd
        simpa [List.drop_drop, Nat.add_comm] using this
      obtain ⟨hgo, hy⟩ := (hJ φ2 _ H2 hH2 s2 hc i).1 x hx
      refine .inr ⟨hgo, fun σ' H' => ∃ φ' ph'' ws', RelH X.K φ' ph'' H' ∧ RelS X.K φ' ph''.length H' ws' σ' ∧ Step X.K φ1 ph1.length H1 φ' ph''.length H' ∧
          (forG chk g b xs ws' ph'').Run (fun f p' => ∀ φ3 H3, RelH X.K φ3 p' H3 → Step X.K φ' ph''.length H' φ3 p'.length H3 → EndF X D φ3 p' H3 f) (XE X φ' ph''.length H'),
        fun σ' H' ⟨φ', ph'', ws', q1, q2, q3, q4⟩ => ⟨xs.length, by simp, φ', ph'', ws', by rw [hxs], q1, q2, q3, by rw [hxs]; exact q4⟩, fun v H3 y => ?_⟩
      obtain ⟨hH3, s3, rv⟩ := hy v H3 y
      have h2' : (bnd (g x ws2) (fun σ1 => bnd (b σ1) fun f => match f with
        | .nx σ' => forG chk g b xs σ'
        | .ct σ' => forG chk g b xs σ'
        | .bk σ' => pur (.nx σ')
        | .rt w => pur (.rt w)) ph2).Run (fun f ph' => ∀ φ' H', RelH X.K φ' ph' H' → Step X.K φ2 ph2.length H2 φ' ph'.length H' → EndF X D φ' ph' H' f) (XE X φ2 ph2.length H3) := Out.Run.mono h2 (fun _ _ z => z) fun _ _ z => z.step s3
      refine tG.bind hH3 (hS2.mono s3) rv h2' fun ws4 ph4 φ4 H4 σ4 hH4 s4 hS4 h4 => ?_
      rw [run_bnd] at h4
      refine ⟨φ4, ph4, ws4, hH4, hS4, h4.mono (fun f ph5 h5 φ5 H5 hH5 s5 => ?_) fun _ _ z => z⟩
      have sall := ((s2.trans s3).trans s4).trans s5
      have s25 := (s3.trans s4).trans s5
      cases f with
      | nx ws5 => exact fun σ5 hS5 => ⟨φ5, ph5, ws5, hH5, hS5, sall, h5.mono (fun f p' k φ' H' r' s' => k φ' H' r' (s25.trans s')) fun _ _ z => z.step s5⟩
      | ct ws5 => exact fun σ5 hS5 => ⟨φ5, ph5, ws5, hH5, hS5, sall, h5.mono (fun f p' k φ' H' r' s' => k φ' H' r' (s25.trans s')) fun _ _ z => z.step s5⟩
      | bk ws5 => exact fun σ5 hS5 => h5 φ5 H5 hH5 s25 σ5 hS5
      | rt w => exact fun v hv => h5 φ5 H5 hH5 s25 v hv
    · exact h2.elim
theorem PI.imp {t t' : TI} (h : PI X tg iter t) (k : ∀ σ H R, t' σ H R → t σ H R) : PI X tg iter t' := fun pins s σ H R I q => h pins s σ H R I (k σ H R q)
theorem is_for (hp : PassesOwn (model X.prog X.w) X.A X.env X.xe) (hc : X.calm = true) (hi : II X tg iter im) (hg : IG X tg g) (hb : ISs X body b) (hs : ∀ x, foldedSetIterable iter X.env x = pure x := by intro _; rfl) :
    IS X (.For tg iter body [] pos) (sFor im g b) := PS.imp (ps_for hp hc hi hg hb hs) fun _ _ _ h => for_imp h
/-- over a list, or what never changes -/
def seqI (w : W) : Po (List W × (PH → Bool)) := fun ph => match w with
  | .ref i => match ph[i]? with
    | some (.lst ws) => some ((ws, fun ph' => decide (ph'[i]? = some (.lst ws))), ph)
    | _ => none
  | .fl ws => some ((ws, fun _ => true), ph)
  | _ => none
def tupI (w : W) : Po (List W × (PH → Bool)) := fun ph => match w with
  | .tup ws => some ((ws, fun _ => true), ph)
  | _ => none
def iSeq (m : EM) : IM := fun σ => bnd (m σ) fun w => lift (seqI w)
def iTupM (m : EM) : IM := fun σ => bnd (m σ) fun w => lift (tupI w)
theorem ii_list {l : Expr} {m : EM} (hl : IE X l m) : II X tg l (iSeq m) := by
  refine PI.imp (pi_list hl) fun σ H R h => ?_
  obtain ⟨φ, ph, ws, hH, hS, h⟩ := h
  refine tM.bind hH hS h fun w ph1 φ1 H1 v hH1 s1 r1 h => ?_
  obtain ⟨r, ph', e, k⟩ := run_lift h
  unfold seqI at e
  cases r1 with
  | ref hi =>
    rename_i i
    simp only at e
    split at e
    · rename_i items hw
      cases e
      obtain ⟨vs, hv, r⟩ := hH1.hp _ _ hw
      refine ⟨_, rfl, ⟨vs, SqL.of hv⟩, k φ1 H1 _ hH1 s1 ?_⟩
      intro φ2 ph2 H2 hH2 s2 hc j
      have hc' : ph2[i]? = some (.lst items) := of_decide_eq_true hc
      obtain ⟨us, hu, ru⟩ := hH2.hp _ _ hc'
      rw [s2.eq i hi] at hu
      refine ⟨fun w hw2 => ?_, fun hn => ?_⟩
      · obtain ⟨u, eu, ru'⟩ := ru.get hw2
        refine ⟨⟨us, u, SqL.of hu, eu⟩, fun x H'' hy => ?_⟩
        obtain ⟨rfl, hy⟩ := hy
        have := hy us (SqL.of hu)
        rw [eu] at this; cases this
        exact ⟨hH2, Step.refl, ru'⟩
      · refine ⟨us, SqL.of hu, ?_⟩
        rw [← ru.length]
        simpa using hn
    · cases e
  | fl hq r =>
    cases e
    refine ⟨_, rfl, ⟨_, hq.sq⟩, k φ1 H1 _ hH1 s1 ?_⟩
    intro φ2 ph2 H2 hH2 s2 hc j
    have h2 := RelW.mono s2 (.fl hq r)
    cases h2 with
    | fl h2 r2 =>
      refine ⟨fun w hw2 => ?_, fun hn => ?_⟩
      · obtain ⟨u, eu, ru'⟩ := r2.get hw2
        refine ⟨⟨_, u, h2.sq, eu⟩, fun x H'' hy => ?_⟩
        obtain ⟨rfl, hy⟩ := hy
        have := hy _ h2.sq
        rw [eu] at this; cases this
        exact ⟨hH2, Step.refl, ru'⟩
      · refine ⟨_, h2.sq, ?_⟩
        rw [← r2.length]
        simpa using hn
  | _ => cases e
theorem ii_tup {l : Expr} {m : EM} (hl : IE X l m) : II X tg l (iTupM m) := by
  refine PI.imp (pi_tup hl) fun σ H R h => ?_
  obtain ⟨φ, ph, ws, hH, hS, h⟩ := h
  refine tM.bind hH hS h fun w ph1 φ1 H1 v hH1 s1 r1 h => ?_
  obtain ⟨r, ph', e, k⟩ := run_lift h
  unfold tupI at e
  cases r1 with
  | tup hq r =>
    cases e
    refine ⟨_, rfl, ⟨_, hq⟩, k φ1 H1 _ hH1 s1 ?_⟩
    intro φ2 ph2 H2 hH2 s2 hc j
    have h2 := s2.tup _ _ hq
    have r2 := r.mono s2
    refine ⟨fun w hw2 => ?_, fun hn => ?_⟩
    · obtain ⟨u, eu, ru'⟩ := r2.get hw2
      refine ⟨⟨_, u, h2, eu⟩, fun x H'' hy => ?_⟩
      obtain ⟨rfl, hy⟩ := hy
      have := hy _ h2
      rw [eu] at this; cases this
      exact ⟨hH2, Step.refl, ru'⟩
    · refine ⟨_, h2, ?_⟩
      rw [← r2.length]
      simpa using hn
  | _ => cases e
/-- range(a), range(a, b) -/
def rngW (lo : Int) (n : Nat) : List W := (List.range n).map fun i : Nat => .int (lo + ((i : Nat) : Int))
def rng1 (xs : List W) : Po (List W × (PH → Bool)) := fun ph => match xs with
  | [.int j] => if -(2 ^ 62) ≤ j ∧ j < 2 ^ 62 then some ((rngW 0 j.toNat, fun _ => true), ph) else none
  | _ => none
def rng2 (xs : List W) : Po (List W × (PH → Bool)) := fun ph => match xs with
  | [.int i, .int j] => if -(2 ^ 62) ≤ i ∧ i < 2 ^ 62 ∧ -(2 ^ 62) ≤ j ∧ j < 2 ^ 62 then some ((rngW i (j - i).toNat, fun _ => true), ph) else none
  | _ => none
def iR1 (m : AM) : IM := fun σ => bnd (m σ) fun xs => lift (rng1 xs)
def iR2 (m : AM) : IM := fun σ => bnd (m σ) fun xs => lift (rng2 xs)
theorem rng_it {K : PySem.W.Frag} {lo : Int} {n : Nat} {chk : PH → Bool} {φ : Nat → Addr} {k : Nat} {H : Hp} : ItI K (Itr lo n) (rngW lo n) chk φ k H := by
  intro φ2 ph2 H2 hH2 s2 hc j
  unfold rngW
  refine ⟨fun w hw2 => ?_, fun hn => ?_⟩
  · rw [List.getElem?_map] at hw2
    have hj : j < n := by
      by_cases hj : j < n
      · exact hj
      · rw [List.getElem?_eq_none (by simpa using hj)] at hw2; cases hw2
    rw [List.getElem?_range hj] at hw2
    cases hw2
    refine ⟨hj, fun x H'' hy => ?_⟩
    obtain ⟨rfl, rfl⟩ := hy
    exact ⟨hH2, Step.refl, .int _⟩
  · have : n ≤ j := by simpa using hn
    exact this
theorem ii_range1 {a : Expr} {m : AM} {p : Pos} (hg : Gl X "range") (hm : X.mg "range" = none) (ha : IA X [a] m) (hs : starEach [a] X.env = [(false, eval a X.env)] := by rfl) : II X tg (.Call (.Name "range" p) [a] [] pos) (iR1 m) := by
  refine PI.imp (pi_range1 hg hm ha hs) fun σ H R h => ?_
  obtain ⟨φ, ph, ws, hH, hS, h⟩ := h
  refine tA.bind hH hS h fun xs ph1 φ1 H1 vs hH1 s1 r1 h => ?_
  obtain ⟨r, ph', e, k⟩ := run_lift h
  unfold rng1 at e
  split at e
  · split at e
    · rename_i hc
      cases e
      cases r1 with
      | cons r r' => cases r; cases r'; exact ⟨_, rfl, hc.1, hc.2, k φ1 H1 _ hH1 s1 rng_it⟩
    · cases e
  · cases e
theorem ii_range2 {a b' : Expr} {m : AM} {p : Pos} (hg : Gl X "range") (hm : X.mg "range" = none) (ha : IA X [a, b'] m) (hs : starEach [a, b'] X.env = [(false, eval a X.env), (false, eval b' X.env)] := by rfl) (hs2 : starEach [b'] X.env = [(false, eval b' X.env)] := by rfl) :
    II X tg (.Call (.Name "range" p) [a, b'] [] pos) (iR2 m) := by
  refine PI.imp (pi_range2 hg hm ha hs hs2) fun σ H R h => ?_
  obtain ⟨φ, ph, ws, hH, hS, h⟩ := h
  refine tA.bind hH hS h fun xs ph1 φ1 H1 vs hH1 s1 r1 h => ?_
  obtain ⟨r, ph', e, k⟩ := run_lift h
  unfold rng2 at e
  split at e
  · split at e
    · rename_i hc
      cases e
      cases r1 with
      | cons r r' =>
        cases r
        cases r' with
        | cons r r' => cases r; cases r'; exact ⟨_, _, rfl, hc, k φ1 H1 _ hH1 s1 rng_it⟩
    · cases e
  · cases e
/-! while -/
def whN (t : TM) (b : SM) : Nat → SM
  | 0 => fun _ => nop
  | n + 1 => fun σ => bnd (t σ) fun c => if c = true then bnd (b σ) fun f => match f with
      | .nx σ' => whN t b n σ'
      | .ct σ' => whN t b n σ'
      | .bk σ' => pur (.nx σ')
      | .rt w => pur (.rt w)
    else pur (.nx σ)
def Out.isNo {α : Type} : Out α → Bool
  | .no => true
  | _ => false
open Classical in
noncomputable def sWhile (t : TM) (b : SM) : SM := fun σ ph => if h : ∃ n, (whN t b n σ ph).isNo = false then whN t b h.choose σ ph else .no
theorem while_imp {D : Ends} {σ : L2.St} {H : Hp} (h : tS X (sWhile t b) D σ H) : tWhile (tT X t) (tS X b) D σ H := by
  obtain ⟨φ, ph, ws, hH, hS, h⟩ := h
  have ⟨n, h⟩ : ∃ n, (whN t b n ws ph).Run (fun f ph' => ∀ φ' H', RelH X.K φ' ph' H' → Step X.K φ ph.length H φ' ph'.length H' → EndF X D φ' ph' H' f) (XE X φ ph.length H) := by
    unfold sWhile at h
    split at h
    · exact ⟨_, h⟩
    · exact h.elim
  refine ⟨fun m σ2 H2 => ∃ φ2 ph2 ws2, RelH X.K φ2 ph2 H2 ∧ RelS X.K φ2 ph2.length H2 ws2 σ2 ∧
    (whN t b m ws2 ph2).Run (fun f ph' => ∀ φ' H', RelH X.K φ' ph' H' → Step X.K φ2 ph2.length H2 φ' ph'.length H' → EndF X D φ' ph' H' f) (XE X φ2 ph2.length H2), ⟨n, φ, ph, ws, hH, hS, h⟩, ?_⟩
  rintro m σ2 H2 ⟨φ2, ph2, ws2, hH2, hS2, h2⟩
  cases m with
  | zero => exact h2.elim
  | succ m =>
    refine tT.bind hH2 hS2 h2 fun c ph3 φ3 H3 hH3 s3 h3 => ?_
    cases c with
    | false => exact iteF (h3 φ3 H3 hH3 s3 σ2 (hS2.mono s3))
    | true =>
      have h3' : (bnd (b ws2) (fun f => match f with
        | .nx σ' => whN t b m σ'
        | .ct σ' => whN t b m σ'
        | .bk σ' => pur (.nx σ')
        | .rt w => pur (.rt w)) ph3).Run _ _ := h3
      rw [run_bnd] at h3'
      refine iteT ⟨fun σ' H' => ∃ φ' ph'' ws', RelH X.K φ' ph'' H' ∧ RelS X.K φ' ph''.length H' ws' σ' ∧
        (whN t b m ws' ph'').Run (fun f p' => ∀ φ4 H4, RelH X.K φ4 p' H4 → Step X.K φ' ph''.length H' φ4 p'.length H4 → EndF X D φ4 p' H4 f) (XE X φ' ph''.length H'), fun σ' H' q => ⟨m, Nat.lt_succ_self _, q⟩, ?_⟩
      refine ⟨φ3, ph3, ws2, hH3, hS2.mono s3, h3'.mono (fun f ph5 h5 φ5 H5 hH5 s5 => ?_) fun _ _ z => z⟩
      have s25 := s3.trans s5
      cases f with
      | nx ws5 => exact fun σ5 hS5 => ⟨φ5, ph5, ws5, hH5, hS5, h5.mono (fun f p' k φ' H' r' s' => k φ' H' r' (s25.trans s')) fun _ _ z => z.step s5⟩
      | ct ws5 => exact fun σ5 hS5 => ⟨φ5, ph5, ws5, hH5, hS5, h5.mono (fun f p' k φ' H' r' s' => k φ' H' r' (s25.trans s')) fun _ _ z => z.step s5⟩
      | bk ws5 => exact fun σ5 hS5 => h5 φ5 H5 hH5 s25 σ5 hS5
      | rt w => exact fun v hv => h5 φ5 H5 hH5 s25 v hv
theorem is_while (hp : PassesOwn (model X.prog X.w) X.A X.env X.xe) (hc : IT X c t) (hb : ISs X body b) : IS X (.While c body [] pos) (sWhile t b) :=
  PS.imp (ps_while hp hc hb) fun _ _ _ h => while_imp h
end
end IL

namespace IL
open PySem PySem.Spec PyProof.Rows L2

/-! ### 8. Argument lists, displays -/
def aNil : AM := fun _ => pur []
def aCons (e : EM) (r : AM) : AM := fun σ => bnd (e σ) fun w => bnd (r σ) fun ws => pur (w :: ws)
def newT (ws : List W) : Po W := fun ph => if ws.length ≤ sizeLine then some (.tup ws, ph) else none
def newL (ws : List W) : Po W := fun ph => if ws.length ≤ sizeLine then some (.ref ph.length, ph ++ [.lst ws]) else none
def eTup (a : AM) : EM := fun σ => bnd (a σ) fun ws => lift (newT ws)
def eLst (a : AM) : EM := fun σ => bnd (a σ) fun ws => lift (newL ws)
section
variable {X : Cx} {e : Expr} {es : List Expr} {m : EM} {a : AM} {pos : Pos}
theorem ia_nil : IA X [] aNil := PA.imp pa_nil fun σ H Q h => by
  obtain ⟨φ, ph, ws, hH, hS, h⟩ := h
  exact h φ H [] hH Step.refl .nil
theorem ia_cons (he : IE X e m) (hr : IA X es a) (hs : starEach (e :: es) X.env = (false, eval e X.env) :: starEach es X.env := by rfl) : IA X (e :: es) (aCons m a) := PA.imp (pa_cons he hr hs) fun σ H Q h => by
  obtain ⟨φ, ph, ws, hH, hS, h⟩ := h
  refine tM.bind hH hS h fun w ph1 φ1 H1 v hH1 s1 r1 h => tA.bind hH1 (hS.mono s1) h fun ys ph2 φ2 H2 vs hH2 s2 r2 h => ?_
  exact h φ2 H2 _ hH2 (s1.trans s2) (.cons (r1.mono s2) r2)
theorem ie_tup {x1 : Nat} (h : IA X es a) : IE X (.Tuple es x1 pos) (eTup a) := PE.imp (pe_tup h) fun σ H Q h => by
  obtain ⟨φ, ph, ws, hH, hS, h⟩ := h
  refine tA.bind hH hS h fun xs ph1 φ1 H1 vs hH1 s1 r1 h => ?_
  obtain ⟨w, ph', e, k⟩ := run_lift h
  unfold newT at e
  split at e
  · rename_i hz
    cases e
    refine ⟨by rw [← r1.length]; exact hz, fun p hp => ?_⟩
    exact k φ1 _ _ (hH1.tup hp) (s1.trans (step_tup hp)) (.tup (SqT.of upd_same) (r1.mono (step_tup hp)))
  · cases e
/-- a new list at p -/
theorem new_list {K : PySem.W.Frag} {φ : Nat → Addr} {ph : PH} {H : Hp} {p : Addr} {ws : List W} {vs : List V} (hH : RelH K φ ph H) (r : RelWs K φ ph.length H ws vs) (hp : H p = none) :
    RelH K (ext φ ph.length p) (ph ++ [.lst ws]) (upd H p (.lst vs)) ∧ Step K φ ph.length H (ext φ ph.length p) (ph ++ [PO.lst ws]).length (upd H p (.lst vs)) ∧ RelW K (ext φ ph.length p) (ph ++ [PO.lst ws]).length (upd H p (.lst vs)) (.ref ph.length) (.ref p) := by
  have hl : (ph ++ [PO.lst ws]).length = ph.length + 1 := by simp
  rw [hl]
  have s := step_new (K := K) (φ := φ) (n := ph.length) (o := HO.lst vs) hp
  refine ⟨hH.new hp ⟨vs, upd_same, r.mono s⟩, s, ?_⟩
  have q : RelW K (ext φ ph.length p) (ph.length + 1) (upd H p (.lst vs)) (.ref ph.length) (.ref (ext φ ph.length p ph.length)) := .ref (Nat.lt_succ_self _)
  rw [ext_eq] at q
  exact q
theorem ie_lst (h : IA X es a) : IE X (.List es pos) (eLst a) := PE.imp (pe_lst h) fun σ H Q h => by
  obtain ⟨φ, ph, ws, hH, hS, h⟩ := h
  refine tA.bind hH hS h fun xs ph1 φ1 H1 vs hH1 s1 r1 h => ?_
  obtain ⟨w, ph', e, k⟩ := run_lift h
  unfold newL at e
  split at e
  · rename_i hz
    cases e
    refine ⟨by rw [← r1.length]; exact hz, fun p hp => ?_⟩
    obtain ⟨q1, q2, q3⟩ := new_list hH1 r1 hp
    exact k _ _ _ q1 (s1.trans q2) q3
  · cases e
end

/-! ### 9. Calls -/
def eCall (f : List W → Mo W) (a : AM) : EM := fun σ => bnd (a σ) f
def fEnd : Fl → Mo W
  | .rt w => pur w
  | .nx _ => pur .non
  | _ => nop
/-- a def of np parameters and n names -/
def fM (body : SM) (n np : Nat) (args : List W) : Mo W := if args.length = np then bnd (body (args.map some ++ List.replicate (n - args.length) none)) fEnd else nop
theorem fM_len {body : SM} {n np : Nat} {xs : List W} {ph : PH} (h : xs.length ≠ np) : fM body n np xs ph = .no := by
  unfold fM
  rw [if_neg h]
  rfl
/-- how an exception lies behind a call -/
def CXW (P : Program) (w : World) : CXT := fun l H s E e s' => ∃ C H', Flew P w l H s C H' e s' ∧ E (.ref C) none H'
def spM (K : PySem.W.Frag) (mg : Str → Option Value) (np : Nat) (f : List W → Mo W) : Sp := fun vs H Q E => vs.length = np ∧ ∃ φ ph args, RelH K φ ph H ∧ RelWs K φ ph.length H args vs ∧ (f args ph).Run (fun w ph' =>
  ∀ φ' H' v, RelH K φ' ph' H' → Step K φ ph.length H φ' ph'.length H' → RelW K φ' ph'.length H' w v → Q v H') (fun x ph' =>
  ∀ φ' H' C, RelH K φ' ph' H' → Step K φ ph.length H φ' ph'.length H' → mg x.cls = some (.ref C) → x.fs = [] → E (.ref C) none H')
section
variable {X : Cx} {k : Nat} {f : Addr} {fd : FuncData} {ps : List Str} {fm : List W → Mo W} {x : Str} {p pos : Pos} {e : Expr} {es : List Expr} {a : AM}
/-- the callee runs; its exception is what this body wants of exceptions -/
theorem run_fnx {CX : CXT} {sp : Sp} {E : XK} {pins : List (Addr × Obj)} {σ : L2.St} {H : Hp} {s : Shared} {Q : VK} {us : List Value} {vs : List V} (F : FnOk X.prog X.w X.K X.mg X.base CX k f fd ps sp) (hr : Room k X.A) (hb : Binds X.K fd ps [])
    (I : Inv X pins σ H s) (r : Vals vs us) (h : sp vs H Q E) (hx : ∀ e s', CX X.stack H s E e s' → X.xe e s') : wpAny (model X.prog X.w) X.A (call (.ref f) us) (EP X pins σ Q) X.xe s := by
  have hl : (us ++ []).length = ps.length := by rw [List.append_nil, ← r.length]; exact F.len _ _ _ _ h
  have hbb := hb s us I.kIn hl
  rw [List.append_nil] at hbb
  refine wpAny_call (codeAny_mono (F.run X.A X.stack s H ⟨us, []⟩ us vs Q E hr I.env0 hbb r h) fun r s' hq => ?_)
  cases r with
  | error e => exact hx e s' hq
  | ok fl =>
    cases fl with
    | ret u => exact I.after hq
    | _ => exact False.elim hq
theorem ie_call (F : FnOk X.prog X.w X.K X.mg X.base (CXW X.prog X.w) k f fd ps (spM X.K X.mg ps.length fm)) (hl : ∀ {xs : List W} {ph : PH}, xs.length ≠ ps.length → fm xs ph = .no) (hr : Room k X.A) (hg : Gl X x) (hm : X.mg x = some (.ref f))
    (hk : PySem.W.keepIn X.K (.ref f) = true) (hb : Binds X.K fd ps []) (ha : IA X (e :: es) a) (hdb : (x == ("__debug__" : Str)) = false := by decide) (he : starEach (e :: es) X.env = (false, eval e X.env) :: starEach es X.env := by rfl) (hpl : (backTo pos (starEach es X.env)).any (·.1) = false := by rfl) :
    IE X (.Call (.Name x p) (e :: es) [] pos) (eCall fm a) := by
  intro pins s σ H Q I h
  obtain ⟨φ, ph, ws, hH, hS, h⟩ := h
  have hA : tA X a σ H (fun vs H1 => ∃ φ1 ph1 xs, RelH X.K φ1 ph1 H1 ∧ RelWs X.K φ1 ph1.length H1 xs vs ∧ (fm xs ph1).Run (fun w ph' => ∀ φ' H' v, RelH X.K φ' ph' H' → Step X.K φ1 ph1.length H1 φ' ph'.length H' → RelW X.K φ' ph'.length H' w v → Q v H') (XE X φ1 ph1.length H1)) :=
    tA.bind hH hS h fun xs ph1 φ1 H1 vs hH1 s1 r1 h => ⟨φ1, ph1, xs, hH1, r1, h.mono (fun w ph' k φ' H' v r' s' q => k φ' H' v r' (s1.trans s') q) fun _ _ z => z⟩
  refine wpAny_Call_Name_kw (ld_glob I hg hm (PySem.W.callWith_K (h₀ := X.base) I.ok.mod.kin hk (thn (ha pos pins s σ H _ I hA) fun us s1 ⟨vs, H1, I1, r, q⟩ => ⟨I1.kIn, ?_⟩) he hpl) hdb)
  obtain ⟨φ1, ph1, xs, hH1, r1, h1⟩ := q
  have hlen : vs.length = ps.length := by
    rw [← r1.length]
    by_cases z : xs.length = ps.length
    · exact z
    · rw [hl z] at h1; exact h1.elim
  refine run_fnx (E := fun c _ H' => ∃ x ph' φ', fm xs ph1 = .ex x ph' ∧ RelH X.K φ' ph' H' ∧ Step X.K φ1 ph1.length H1 φ' ph'.length H' ∧ ∃ C, c = .ref C ∧ X.mg x.cls = some (.ref C) ∧ x.fs = []) F hr hb I1 r ⟨hlen, φ1, ph1, xs, hH1, r1, ?_⟩ fun e s' hx => ?_
  · cases q : fm xs ph1 with
    | ok w ph' => rw [q] at h1; exact h1
    | ex x ph' => exact fun φ' H' C hr hs hm hf => ⟨x, ph', φ', rfl, hr, hs, C, rfl, hm, hf⟩
    | no => rw [q] at h1; exact h1
  · obtain ⟨C, H', hfl, x, ph', φ', ef, hr', hs', C', ec, hm', hf'⟩ := hx
    cases ec
    rw [ef] at h1
    exact h1 φ' H' e s' hr' hs' ⟨C, hm', hf', .inr ⟨pins, σ, H1, s1, I1, hfl⟩⟩
end
/-! ### 10. A def, by its body -/
section
variable {P : Program} {w : World} {K : PySem.W.Frag} {mg : Str → Option Value} {base : Heap}
theorem hide_ok {H' : Hp} {h : Heap} {fr : List Addr} (hok : HOk P w H' h) (hf : ∀ b ∈ fr, H' b = none) : HOk P w H' (PySem.W.hideAll h fr) := fun a o e => by
  refine (hok a o e).stay (fun b u hb q => PySem.W.hideAll_get _ q fun hm => ?_) (fun _ q => q) fun _ _ q => q
  have := hf b hm
  rcases hb with z | z
  · rw [z, e] at this; cases this
  · rw [z] at this; cases this
theorem frs_cons {env : Env} {l : List Env} (hf : env.frame = some env.locals) : frs (env :: l) = env.locals :: frs l := by
  unfold frs
  rw [List.filterMap_cons, hf]
theorem leave_made {X : Cx} {C : Addr} {H' : Hp} {e : Value} {s' : Shared} {E : Value → Shared → Prop} (hst : X.stack = X.env :: X.outer) (hf : X.env.frame = some X.env.locals) (hex : X.ex = []) (hm : Made X C H' e s') :
    wpAny (model X.prog X.w) X.A (leaving X.env e) (fun _ s'' => Flew X.prog X.w X.outer X.H₀ X.s₀ C H' e s'') E s' := by
  obtain ⟨pins, σ, s, vs, h', a, rfl, rfl, I, hx⟩ := hm
  have sf := I.stkFree
  have hl := I.stack
  rw [hst] at sf hl
  have hin : ∀ env ∈ X.env :: X.outer, ∀ b, env.frame = some b → b ∈ frs (X.env :: X.outer) := fun env he b hb => List.mem_filterMap.mpr ⟨env, he, hb⟩
  have noX : ∀ b : Addr, b ∉ X.ex := fun b z => by rw [hex] at z; exact nomatch z
  have out : ∀ b o, X.s₀.heap.get? b = some o → b ∉ X.fs → b ∉ frs (X.env :: X.outer) := fun b o e hb hm => by
    rw [frs_cons hf] at hm
    rcases List.mem_cons.mp hm with z | z
    · exact absurd (Nat.lt_of_lt_of_le (Heap.lt_size e) I.ok.above) (by rw [z]; exact Nat.lt_irrefl _)
    · exact hb z
  refine wpAny_leaves_madeW (base := PySem.W.hideAll s.heap (frs (X.env :: X.outer))) (h := s.heap) (by rw [I.ok.frames, hst]) hf (fun b o q => PySem.W.of_hideAll _ q) (PySem.W.funFrames_hide hl hin) hx fun h'' t f1 f2 f3 f4 => ?_
  refine ⟨a, .ref t, _, rfl, I.os, I.bare, f1, hide_ok I.hok sf, ⟨fun b o e n hb => PySem.W.hideAll_get _ (I.base.keep b o e n hb (noX b)) (out b o e hb), fun b o e n hb => ?_, fun b o e n => I.base.free b o e n (noX b), fun b o e hb => ?_, I.base.tups, I.base.frzs, I.base.tbls⟩⟩
  · obtain ⟨sl, e1⟩ := I.base.slot b o e n hb (noX b)
    obtain ⟨_, o', ho, hd⟩ := I.ok.funs.mem hb
    rw [e] at ho
    cases ho
    obtain ⟨sl2, e2⟩ := f4 b _ (hx.keeps b _ e1) hd
    exact ⟨sl2, e2⟩
  · obtain ⟨o', e1⟩ := I.base.there b o e (noX b)
    exact ⟨o', PySem.W.hideAll_get _ e1 (out b o e hb)⟩
theorem leave_flew {X : Cx} {C : Addr} {H' H0 : Hp} {e : Value} {s s' : Shared} {pins : List (Addr × Obj)} {σ : L2.St} {E : Value → Shared → Prop} (hst : X.stack = X.env :: X.outer) (hf : X.env.frame = some X.env.locals) (hex : X.ex = []) (I : Inv X pins σ H0 s)
    (hm : Flew X.prog X.w X.stack H0 s C H' e s') : wpAny (model X.prog X.w) X.A (leaving X.env e) (fun _ s'' => Flew X.prog X.w X.outer X.H₀ X.s₀ C H' e s'') E s' := by
  obtain ⟨a, a0, B, rfl, ho, hbare, hfl, hok, u⟩ := hm
  rw [hst] at hfl u
  have noX : ∀ b : Addr, b ∉ X.ex := fun b z => by rw [hex] at z; exact nomatch z
  have out : ∀ b o, X.s₀.heap.get? b = some o → b ∉ X.fs → b ∉ frs (X.env :: X.outer) := fun b o e hb hm => by
    rw [frs_cons hf] at hm
    rcases List.mem_cons.mp hm with z | z
    · exact absurd (Nat.lt_of_lt_of_le (Heap.lt_size e) I.ok.above) (by rw [z]; exact Nat.lt_irrefl _)
    · exact hb z
  refine wpAny_leaves_onW (by rw [I.ok.frames, hst]) hf hfl fun h'' f1 f4 => ?_
  refine ⟨a, a0, B, rfl, ho.trans I.os, hbare, f1, hok, ⟨fun b o e n hb => u.keep b o (I.base.keep b o e n hb (noX b)) (I.base.free b o e n (noX b)) (out b o e hb), fun b o e n hb => ?_, fun b o e n => ?_, fun b o e hb => ?_,
    fun b xs e => u.tups b xs (I.base.tups b xs e), fun b ob xs e => u.frzs b ob xs (I.base.frzs b ob xs e), fun b ps e => ?_⟩⟩
  · obtain ⟨sl, e1⟩ := I.base.slot b o e n hb (noX b)
    obtain ⟨_, o', ho', hd⟩ := I.ok.funs.mem hb
    rw [e] at ho'
    cases ho'
    obtain ⟨sl2, e2⟩ := u.slot b _ e1 (I.base.free b o e n (noX b)) (by rw [frs_cons hf]; exact List.mem_cons_of_mem _ hb)
    obtain ⟨sl3, e3⟩ := f4 b _ e2 hd
    exact ⟨sl3, e3⟩
  · obtain ⟨o', e1⟩ := I.base.there b o e (noX b)
    exact u.free b o' e1 (I.base.free b o e n (noX b))
  · obtain ⟨o', e1⟩ := I.base.there b o e (noX b)
    exact u.there b o' e1 (out b o e hb)
  · obtain ⟨m1, e1⟩ := I.base.tbls b ps e
    obtain ⟨m2, e2⟩ := u.tbls b _ e1
    exact ⟨m1 ++ m2, by rw [e2, Array.append_assoc]⟩
/-- a def of the text, by its body -/
theorem fun_il {x qual : Str} {st : Stmt} {f : Addr} {fd : FuncData} {N ps : List Str} {k : Nat} {body : SM} (F : Fun K x qual st f fd) (S : FnScope N ps (defScope st))
    (hbody : ∀ (cdv : Value) (A : Around) (outer : List Env) (s : Shared) (H : Hp) (E : XK), Room k (A.deeper (envOfC qual (defScope st) s.heap.objs.size f cdv)) →
      ISs (cxOf (CXW P w) P w K mg base N qual (defScope st) f cdv A outer s H E) (defBody st) body) : FnOk P w K mg base (CXW P w) (k + 1) f fd ps (spM K mg ps.length (fM body N.length ps.length)) := by
  obtain ⟨oc, od, kV, doc, pm, an, cdv, ct, osl, rfl, lk, hcd⟩ := F.ex
  refine fn_of lk hcd S (fun vs H Q E h => h.1) fun A outer s H vs Q E hr h => ?_
  obtain ⟨hl, φ, ph, args, hH, ra, h⟩ := h
  refine ⟨_, hbody cdv A outer s H E hr, ?_⟩
  have hla : args.length = vs.length := ra.length
  unfold fM at h
  rw [if_pos (hla.trans hl), run_bnd, hla] at h
  refine ⟨φ, ph, _, hH, RelS.start (N.length - vs.length) ra, h.mono (fun fl ph' h φ1 H1 hH1 s1 => ?_) fun x ph' h φ' H' e s' r' st' th => ?_⟩
  · cases fl with
    | rt w => exact fun v rv => h φ1 H1 v hH1 s1 rv
    | nx σ' => exact fun σ1 hS1 => h φ1 H1 .non hH1 s1 .non
    | bk σ' => exact h.elim
    | ct σ' => exact h.elim
  · obtain ⟨C, hm, hfs, th⟩ := th
    have hE := h φ' H' C r' st' hm hfs
    have key : wpAny (model P w) (A.deeper (envOfC qual (defScope st) s.heap.objs.size f cdv)) (leaving (envOfC qual (defScope st) s.heap.objs.size f cdv) e) (fun _ s'' => Flew P w outer H s C H' e s'') (fun e' s'' => CXW P w outer H s E e' s'') s' := by
      rcases th with th | ⟨pins, σ, H0, s0, I0, th⟩
      · exact leave_made (X := cxOf (CXW P w) P w K mg base N qual (defScope st) f cdv A outer s H E) rfl rfl rfl th
      · exact leave_flew (X := cxOf (CXW P w) P w K mg base N qual (defScope st) f cdv A outer s H E) rfl rfl rfl I0 th
    exact wpAny_mono key (fun _ s'' q => ⟨C, H', q, hE⟩) fun _ _ q => q
end
/-! ### 11. The law's head -/
theorem fl_ints {K : PySem.W.Frag} {φ : Nat → Addr} {n : Nat} {H : Hp} : ∀ (ns : List Int), RelWs K φ n H (ns.map W.int) (ns.map V.int)
  | [] => .nil
  | n :: ns => .cons (.int n) (fl_ints ns)
theorem law_sp {K : PySem.W.Frag} {mg : Str → Option Value} {H : Hp} {a : Addr} {ns : List Int} {fm : List W → Mo W} (hO : Only H) (hS : SqL K H a (ns.map V.int)) (h : ∃ ph', fm [.fl (ns.map W.int)] [] = .ok (.bl true) ph') :
    spM K mg 1 fm [.ref a] H (fun v _ => v = .bl true) fun _ _ _ => False := by
  obtain ⟨ph', e⟩ := h
  have hf : FrzL K H a (ns.map V.int) := by
    rcases hS with h | h
    · rcases h with h | h
      · rcases hO a with z | ⟨o, xs, z⟩
        · rw [z] at h; cases h
        · rw [z] at h; cases h
      · exact .inl h
    · exact .inr h
  refine ⟨rfl, fun _ => 0, [], [.fl (ns.map W.int)], ⟨fun i o e => by simp at e, fun i j hi => absurd hi (by simp)⟩, .cons (.fl hf (fl_ints ns)) .nil, ?_⟩
  rw [e]
  intro φ' H' v _ _ r
  cases r
  rfl
end IL

namespace IL
open PySem PySem.Spec PyProof.Rows L2

/-! ### 11. Operations -/
theorem OpR.or {X : Cx} {f : Value → Value → Sem Value} {r r' : R2} (h : OpR X f r) (h' : OpR X f r') : OpR X f (fun x y H Q => r x y H Q ∨ r' x y H Q) := by
  intro pins s σ H x y v u Q I rx ry q
  rcases q with q | q
  · exact h pins s σ H x y v u Q I rx ry q
  · exact h' pins s σ H x y v u Q I rx ry q
theorem OpI.inl {K : PySem.W.Frag} {r r' : R2} {f : W → W → Po W} (h : OpI K r f) : OpI K (fun x y H Q => r x y H Q ∨ r' x y H Q) f := fun hH rx ry e k => .inl (h hH rx ry e k)
theorem OpI.inr {K : PySem.W.Frag} {r r' : R2} {f : W → W → Po W} (h : OpI K r' f) : OpI K (fun x y H Q => r x y H Q ∨ r' x y H Q) f := fun hH rx ry e k => .inr (h hH rx ry e k)
/-- what a list or a tuple holds -/
def seqW (w : W) (ph : PH) : Option (List W) := match w with
  | .tup ws => some ws
  | .fl ws => some ws
  | .ref i => match ph[i]? with
    | some (.lst ws) => some ws
    | _ => none
  | _ => none
theorem seqW_rel {K : PySem.W.Frag} {φ : Nat → Addr} {ph : PH} {H : Hp} {w : W} {v : V} {ws : List W} (hH : RelH K φ ph H) (r : RelW K φ ph.length H w v) (e : seqW w ph = some ws) :
    ∃ a vs, v = .ref a ∧ (SqL K H a vs ∨ SqT K H a vs) ∧ RelWs K φ ph.length H ws vs := by
  unfold seqW at e
  cases r with
  | tup h r => cases e; exact ⟨_, _, rfl, .inr h, r⟩
  | fl h r => cases e; exact ⟨_, _, rfl, .inl h.sq, r⟩
  | ref hi =>
    simp only at e
    split at e
    · rename_i ws' hw
      cases e
      obtain ⟨vs, hv, r⟩ := hH.hp _ _ hw
      exact ⟨_, vs, rfl, .inl (SqL.of hv), r⟩
    · cases e
  | _ => cases e
theorem atI_rel {K : PySem.W.Frag} {φ : Nat → Addr} {n : Nat} {H : Hp} {ws : List W} {vs : List V} {i : Int} {w : W} (r : RelWs K φ n H ws vs) (e : atI ws i = some w) : ∃ v, atI vs i = some v ∧ RelW K φ n H w v := by
  unfold atI at e ⊢
  rw [r.length] at e
  cases q : ixN vs.length i with
  | none => rw [q] at e; cases e
  | some j =>
    rw [q] at e
    exact r.get e
def ixW : W → W → Po W := fun x y ph => match y with
  | .int i => match x with
    | .str z => if z.length ≤ sizeLine then (atI z.cps.toList i).map fun c => (.str ⟨#[c]⟩, ph) else none
    | x => (seqW x ph).bind fun ws => (atI ws i).map fun w => (w, ph)
  | _ => none
theorem ixW_i {K : PySem.W.Frag} : OpI K (rIx K) ixW := by
  intro φ ph H x y vx vy w ph' Q hH rx ry e k
  unfold ixW at e
  cases ry with
  | int i =>
    cases rx with
    | str z =>
      simp only at e
      split at e
      · rename_i hz
        cases q : atI z.cps.toList i with
        | none => rw [q] at e; cases e
        | some c =>
          rw [q] at e
          cases e
          exact .inr (.inr ⟨z, i, c, rfl, rfl, hz, q, k φ H _ hH Step.refl (.str _)⟩)
      · cases e
    | _ =>
      all_goals
        first
          | (cases e; done)
          | (rename_i h r
             simp only [seqW, Option.bind] at e
             cases q : atI _ i with
             | none => rw [q] at e; cases e
             | some c =>
               rw [q] at e
               cases e
               obtain ⟨v, ev, rv⟩ := atI_rel r q
               first
                 | exact .inr (.inl ⟨_, _, i, v, rfl, rfl, h, ev, k φ H _ hH Step.refl rv⟩)
                 | exact .inl ⟨_, _, i, v, rfl, rfl, h.sq, ev, k φ H _ hH Step.refl rv⟩)
          | (rename_i hi
             simp only [seqW] at e
             split at e
             · rename_i ws' hw
               simp only [Option.bind] at e
               cases q : atI ws' i with
               | none => rw [q] at e; cases e
               | some c =>
                 rw [q] at e
                 cases e
                 obtain ⟨vs, hv, r⟩ := hH.hp _ _ hw
                 obtain ⟨v, ev, rv⟩ := atI_rel r q
                 exact .inl ⟨_, _, i, v, rfl, rfl, SqL.of hv, ev, k φ H _ hH Step.refl rv⟩
             · cases e)
  | _ => cases e
section
variable {X : Cx} {a b : Expr} {ma mb : EM} {pos : Pos}
theorem ie_ix (ha : IE X a ma) (hb : IE X b mb) (hs : PlainIx b := by intro _ _; rfl) : IE X (.Subscript a b pos) (eOp ixW ma mb) :=
  PE.imp (pe_ix ix_seq ha hb hs) fun _ _ _ h => bin_imp ixW_i h
end
/-! calls of built-ins -/
def CallI (K : PySem.W.Frag) (r : List V → Hp → VK → Prop) (f : List W → Po W) : Prop := ∀ {φ : Nat → Addr} {ph : PH} {H : Hp} {xs : List W} {vs : List V} {w : W} {ph' : PH} {Q : VK}, RelH K φ ph H → RelWs K φ ph.length H xs vs → f xs ph = some (w, ph') →
  (∀ φ' H' v, RelH K φ' ph' H' → Step K φ ph.length H φ' ph'.length H' → RelW K φ' ph'.length H' w v → Q v H') → r vs H Q
def eCallB (f : List W → Po W) (a : AM) : EM := fun σ => bnd (a σ) fun xs => lift (f xs)
section
variable {X : Cx} {x : Str} {p pos : Pos} {e : Expr} {es : List Expr} {t : AM} {id T : String} {r : List V → Hp → VK → Prop} {f : List W → Po W}
theorem call_imp (hi : CallI X.K r f) {σ : L2.St} {H : Hp} {Q : VK} (h : tM X (eCallB f t) σ H Q) : tCB r (tA X t) σ H Q := by
  obtain ⟨φ, ph, ws, hH, hS, h⟩ := h
  refine tA.bind hH hS h fun xs ph1 φ1 H1 vs hH1 s1 r1 h => ?_
  obtain ⟨w, ph', e, k⟩ := run_lift h
  exact hi hH1 r1 e fun φ2 H2 v hH2 s2 r2 => k φ2 H2 v hH2 (s1.trans s2) r2
theorem ie_callB (hc : CallR X (.builtin id) r) (hi : CallI X.K r f) (hg : Gl X x) (hm : X.mg x = none) (hv : bootBuiltins x = some (.builtin id)) (ha : IA X (e :: es) t) (hn : x ≠ "__name__" := by decide) (hdb : (x == ("__debug__" : Str)) = false := by decide)
    (he : starEach (e :: es) X.env = (false, eval e X.env) :: starEach es X.env := by rfl) (hpl : (backTo pos (starEach es X.env)).any (·.1) = false := by rfl) : IE X (.Call (.Name x p) (e :: es) [] pos) (eCallB f t) :=
  PE.imp (pe_callB hc hg hm hv ha hn hdb he hpl) fun _ _ _ h => call_imp hi h
theorem ie_callTy (hc : CallR X (.type T) r) (hi : CallI X.K r f) (hg : Gl X x) (hm : X.mg x = none) (hv : bootBuiltins x = some (.type T)) (ha : IA X (e :: es) t) (hn : x ≠ "__name__" := by decide) (hdb : (x == ("__debug__" : Str)) = false := by decide)
    (he : starEach (e :: es) X.env = (false, eval e X.env) :: starEach es X.env := by rfl) (hpl : (backTo pos (starEach es X.env)).any (·.1) = false := by rfl) : IE X (.Call (.Name x p) (e :: es) [] pos) (eCallB f t) :=
  PE.imp (pe_callTy hc hg hm hv ha hn hdb he hpl) fun _ _ _ h => call_imp hi h
end
theorem CallR.or {X : Cx} {f : Value} {r r' : List V → Hp → VK → Prop} (h : CallR X f r) (h' : CallR X f r') : CallR X f (fun xs H Q => r xs H Q ∨ r' xs H Q) := by
  intro pins s σ H xs us Q I rx q
  rcases q with q | q
  · exact h pins s σ H xs us Q I rx q
  · exact h' pins s σ H xs us Q I rx q
def lenW : List W → Po W := fun xs ph => match xs with
  | [.str z] => if z.length ≤ sizeLine then some (.int z.length, ph) else none
  | [w] => (seqW w ph).map fun ws => (.int ws.length, ph)
  | _ => none
abbrev rLen (K : PySem.W.Frag) : List V → Hp → VK → Prop := fun xs H Q => (∃ p ys, xs = [.ref p] ∧ (SqL K H p ys ∨ SqT K H p ys) ∧ Q (.int ys.length) H) ∨ (∃ z, xs = [.str z] ∧ z.length ≤ sizeLine ∧ Q (.int z.length) H)
theorem lenW_i {K : PySem.W.Frag} : CallI K (rLen K) lenW := by
  intro φ ph H xs vs w ph' Q hH r e k
  unfold lenW at e
  split at e
  · split at e
    · rename_i hz
      cases e
      cases r with
      | cons r r' => cases r; cases r'; exact .inr ⟨_, rfl, hz, k φ H _ hH Step.refl (.int _)⟩
    · cases e
  · rename_i w0 hne
    cases r with
    | cons r r' =>
      cases r'
      cases q : seqW w0 ph with
      | none => rw [q] at e; cases e
      | some ws =>
        rw [q] at e
        cases e
        obtain ⟨a, ys, rfl, hs, rs⟩ := seqW_rel hH r q
        exact .inl ⟨a, ys, rfl, hs, by rw [← rs.length]; exact k φ H _ hH Step.refl (.int _)⟩
  · cases e
theorem call_lenW {X : Cx} : CallR X (.builtin "len") (rLen X.K) := CallR.or call_len_seq call_len_str
/-! methods of lists -/
def MtI (K : PySem.W.Frag) (T : String) (r : V → List V → Hp → VK → Prop) (f : W → List W → Po W) : Prop := ∀ {φ : Nat → Addr} {ph : PH} {H : Hp} {x : W} {xs : List W} {vx : V} {vs : List V} {w : W} {ph' : PH} {Q : VK},
  RelH K φ ph H → RelW K φ ph.length H x vx → RelWs K φ ph.length H xs vs → f x xs ph = some (w, ph') →
  (∀ φ' H' v, RelH K φ' ph' H' → Step K φ ph.length H φ' ph'.length H' → RelW K φ' ph'.length H' w v → Q v H') → r vx vs H Q
/-- that x is of the kind, ahead of the arguments -/
def TyI (K : PySem.W.Frag) (T : String) (ty : W → PH → Bool) : Prop := ∀ {φ : Nat → Addr} {ph : PH} {H : Hp} {x : W} {vx : V}, RelH K φ ph H → RelW K φ ph.length H x vx → ty x ph = true → tyV K T vx H
def chkT (b : PH → Bool) : Po Unit := fun ph => if b ph = true then some ((), ph) else none
def eMeth (ty : W → PH → Bool) (f : W → List W → Po W) (o : EM) (a : AM) : EM := fun σ => bnd (o σ) fun x => bnd (lift (chkT (ty x))) fun _ => bnd (a σ) fun xs => lift (f x xs)
def isL (w : W) (ph : PH) : Bool := match w with
  | .ref i => match ph[i]? with
    | some (.lst _) => true
    | _ => false
  | .fl _ => true
  | _ => false
theorem isL_i {K : PySem.W.Frag} : TyI K "list" isL := by
  intro φ ph H x vx hH rx e
  unfold isL at e
  cases rx with
  | ref hi =>
    simp only at e
    split at e
    · rename_i ws' hw
      obtain ⟨vs, hv, r⟩ := hH.hp _ _ hw
      exact .inl ⟨rfl, vs, SqL.of hv⟩
    · cases e
  | fl h r => exact .inl ⟨rfl, _, h.sq⟩
  | _ => cases e
section
variable {X : Cx} {o e : Expr} {es : List Expr} {mo : EM} {t : AM} {name : Str} {apos cpos : Pos} {T id : String} {r : V → List V → Hp → VK → Prop} {ty : W → PH → Bool} {f : W → List W → Po W}
theorem meth_imp (ht : TyI X.K T ty) (hi : MtI X.K T r f) {σ : L2.St} {H : Hp} {Q : VK} (h : tM X (eMeth ty f mo t) σ H Q) : tBM X.K T r (tM X mo) (tA X t) σ H Q := by
  obtain ⟨φ, ph, ws, hH, hS, h⟩ := h
  refine tM.bind hH hS h fun x ph1 φ1 H1 v hH1 s1 r1 h => ?_
  rw [run_bnd] at h
  obtain ⟨_, ph2, e2, h⟩ := run_lift h
  unfold chkT at e2
  split at e2
  · rename_i hy
    cases e2
    refine ⟨ht hH1 r1 hy, tA.bind hH1 (hS.mono s1) h fun xs ph2 φ2 H2 vs hH2 s2 r2 h => ?_⟩
    obtain ⟨w, ph', e, k⟩ := run_lift h
    exact hi hH2 (r1.mono s2) r2 e fun φ3 H3 v hH3 s3 r3 => k φ3 H3 v hH3 ((s1.trans s2).trans s3) r3
  · cases e2
theorem ie_bm (pa : PlainAttrs T) (slot : Slot T name id) (hty : typeOf (.builtin id) = pure (.type "method_descriptor")) (hm : MtR X id r) (ht : TyI X.K T ty) (hi : MtI X.K T r f) (ho : IE X o mo) (ha : IA X (e :: es) t)
    (hbase : attributeBase o name X.env (eval o X.env) = eval o X.env := by rfl)
    (hfew : ((backTo cpos (starEach (e :: es) X.env)).all (fun x => !x.1) && (backToKw cpos (keywordEach [] X.env)).all (fun x => x.1.isSome)
      && decide ((e :: es).length + ([] : List Keyword).length + (if ([] : List Keyword).isEmpty then 0 else 1) < 30)) = true := by rfl)
    (hline : (apos.endLine == cpos.line) = true := by rfl) (hs : starEach (e :: es) X.env = (false, eval e X.env) :: starEach es X.env := by rfl) (hplain : (backTo cpos (starEach es X.env)).any (·.1) = false := by rfl) :
    IE X (.Call (.Attribute o name apos) (e :: es) [] cpos) (eMeth ty f mo t) :=
  PE.imp (pe_bm pa slot hty hm ho ha hbase hfew hline hs hplain) fun _ _ _ h => meth_imp ht hi h
theorem ie_bm0 (pa : PlainAttrs T) (slot : Slot T name id) (hty : typeOf (.builtin id) = pure (.type "method_descriptor")) (hm : MtR X id r) (ht : TyI X.K T ty) (hi : MtI X.K T r f) (ho : IE X o mo)
    (hbase : attributeBase o name X.env (eval o X.env) = eval o X.env := by rfl) (hline : (apos.endLine == cpos.line) = true := by rfl) : IE X (.Call (.Attribute o name apos) [] [] cpos) (eMeth ty f mo aNil) := by
  refine PE.imp (pe_bm0 pa slot hty hm ho hbase hline) fun σ H Q h => ?_
  obtain ⟨φ, ph, ws, hH, hS, h⟩ := h
  refine tM.bind hH hS h fun x ph1 φ1 H1 v hH1 s1 r1 h => ?_
  rw [run_bnd] at h
  obtain ⟨_, ph2, e2, h⟩ := run_lift h
  unfold chkT at e2
  split at e2
  · rename_i hy
    cases e2
    refine ⟨ht hH1 r1 hy, ?_⟩
    obtain ⟨w, ph', e, k⟩ := run_lift h
    exact hi hH1 r1 .nil e fun φ3 H3 v hH3 s3 r3 => k φ3 H3 v hH3 (s1.trans s3) r3
  · cases e2
end
/-- a list rewritten -/
theorem put_list {K : PySem.W.Frag} {φ : Nat → Addr} {ph : PH} {H : Hp} {i : Nat} {ws : List W} {vs : List V} (hH : RelH K φ ph H) (hi : i < ph.length) (r : RelWs K φ ph.length H ws vs) :
    RelH K φ (ph.set i (.lst ws)) (upd H (φ i) (.lst vs)) ∧ Step K φ ph.length H φ (ph.set i (.lst ws)).length (upd H (φ i) (.lst vs)) := by
  obtain ⟨y, ey, my⟩ := hH.at hi
  have s := step_set (K := K) (φ := φ) (n := ph.length) (y := HO.lst vs) ey my
  rw [List.length_set]
  exact ⟨hH.put hi ⟨vs, upd_same, r.mono s⟩, s⟩
def appendW : W → List W → Po W := fun x xs ph => match x, xs with
  | .ref i, [y] => match ph[i]? with
    | some (.lst ws) => if ws.length < sizeLine then some (.non, ph.set i (.lst (ws ++ [y]))) else none
    | _ => none
  | _, _ => none
theorem appendW_i {K : PySem.W.Frag} : MtI K "list" rAppend appendW := by
  intro φ ph H x xs vx vs w ph' Q hH rx rs e k
  unfold appendW at e
  split at e
  · rename_i i y
    split at e
    · rename_i ws hw
      split at e
      · rename_i hz
        cases e
        cases rx with
        | ref hi =>
          cases rs with
          | cons ry rr =>
            cases rr
            obtain ⟨us, hv, r⟩ := hH.hp _ _ hw
            obtain ⟨q1, q2⟩ := put_list hH hi (r.append (.cons ry .nil))
            exact ⟨_, us, _, rfl, rfl, hv, by rw [← r.length]; exact hz, k φ _ _ q1 q2 .non⟩
      · cases e
    · cases e
  · cases e
def clearW : W → List W → Po W := fun x xs ph => match x, xs with
  | .ref i, [] => match ph[i]? with
    | some (.lst _) => some (.non, ph.set i (.lst []))
    | _ => none
  | _, _ => none
theorem clearW_i {K : PySem.W.Frag} : MtI K "list" rClear clearW := by
  intro φ ph H x xs vx vs w ph' Q hH rx rs e k
  unfold clearW at e
  split at e
  · rename_i i
    split at e
    · rename_i ws hw
      cases e
      cases rx with
      | ref hi =>
        cases rs
        obtain ⟨us, hv, r⟩ := hH.hp _ _ hw
        obtain ⟨q1, q2⟩ := put_list hH hi (ws := []) (vs := []) .nil
        exact ⟨_, us, rfl, rfl, hv, k φ _ _ q1 q2 .non⟩
    · cases e
  · cases e
def popW : W → List W → Po W := fun x xs ph => match x, xs with
  | .ref i, [] => match ph[i]? with
    | some (.lst ws) => match ws[ws.length - 1]? with
      | some y => some (y, ph.set i (.lst ws.dropLast))
      | none => none
    | _ => none
  | _, _ => none
theorem RelWs.dropLast {K : PySem.W.Frag} {φ : Nat → Addr} {n : Nat} {H : Hp} : ∀ {ws : List W} {vs : List V}, RelWs K φ n H ws vs → RelWs K φ n H ws.dropLast vs.dropLast
  | _, _, .nil => .nil
  | _, _, .cons h .nil => .nil
  | _, _, .cons h (.cons h' r) => .cons h (RelWs.dropLast (.cons h' r))
theorem popW_i {K : PySem.W.Frag} : MtI K "list" rPop popW := by
  intro φ ph H x xs vx vs w ph' Q hH rx rs e k
  unfold popW at e
  split at e
  · rename_i i
    split at e
    · rename_i ws hw
      split at e
      · rename_i y hy
        cases e
        cases rx with
        | ref hi =>
          cases rs
          obtain ⟨us, hv, r⟩ := hH.hp _ _ hw
          obtain ⟨u, hu, ru⟩ := r.get hy
          rw [r.length] at hu
          obtain ⟨q1, q2⟩ := put_list hH hi r.dropLast
          exact ⟨_, us, u, rfl, rfl, hv, hu, k φ _ _ q1 q2 (ru.mono (by rw [List.length_set] at q2; simpa using q2))⟩
      · cases e
    · cases e
  · cases e
end IL

namespace IL
open PySem PySem.Spec PyProof.Rows L2

/-! ### 12. Arithmetic, comparisons -/
def negW : W → Po W := fun x => match x with
  | .int i => ret (.int (-i))
  | _ => nono
theorem negW_i {K : PySem.W.Frag} : UnI K (rU fun i => .int (-i)) negW := by
  intro φ ph H x vx w ph' Q hH rx e k
  unfold negW at e
  split at e
  · cases e; cases rx
    exact ⟨_, rfl, k φ H _ hH Step.refl (.int _)⟩
  · cases e
def subW : W → W → Po W := iop fun i j => i - j
theorem subW_i {K : PySem.W.Frag} : OpI K (rI0 fun i j => .int (i - j)) subW := iop_i
def modW : W → W → Po W := iopC (fun _ j => decide (j ≠ 0)) fun i j => i.fmod j
theorem modW_i {K : PySem.W.Frag} : OpI K (rI (fun _ j => j ≠ 0) fun i j => .int (i.fmod j)) modW := iopC_i fun i j h => by simpa using h
/-- // by a number that is not too great -/
def CDivB (i j : Int) : Prop := j ≠ 0 ∧ j.natAbs < 2 ^ 64
theorem op_fdivB {X : Cx} : OpR X (binaryOp .FloorDiv) (rI CDivB fun i j => .int (i.fdiv j)) := opI fun i j _ _ _ _ _ hc q => floordiv_int hc.1 q (.inl (PyProof.noPylong_of_log2 (by
  have h0 : j.natAbs ≠ 0 := by have := hc.1; omega
  have := (Nat.log2_lt h0).mpr hc.2
  omega)))
def divW : W → W → Po W := iopC (fun _ j => decide (j ≠ 0) && decide (j.natAbs < 2 ^ 64)) fun i j => i.fdiv j
theorem divW_i {K : PySem.W.Frag} : OpI K (rI CDivB fun i j => .int (i.fdiv j)) divW := iopC_i fun i j h => by
  rw [Bool.and_eq_true] at h
  exact ⟨of_decide_eq_true h.1, of_decide_eq_true h.2⟩
def ltW : W → W → Po W := icmp fun i j => decide (i < j)
def leW : W → W → Po W := icmp fun i j => decide (i ≤ j)
def gtW : W → W → Po W := icmp fun i j => decide (j < i)
def geW : W → W → Po W := icmp fun i j => decide (j ≤ i)
def mulC (i j : Int) : Bool := (decide (-(2 ^ 64) < i) && decide (i < 2 ^ 64)) || (decide (-(2 ^ 64) < j) && decide (j < 2 ^ 64))
def mulW : W → W → Po W := fun x y => match x, y with
  | .int i, .int j => if mulC i j = true then ret (.int (i * j)) else nono
  | _, _ => nono
theorem mulW_i {K : PySem.W.Frag} : OpI K (rI CMul fun i j => .int (i * j)) mulW := by
  intro φ ph H x y vx vy w ph' Q hH rx ry e k
  unfold mulW at e
  split at e
  · split at e
    · rename_i hc
      cases e; cases rx; cases ry
      refine ⟨_, _, rfl, rfl, ?_, k φ H _ hH Step.refl (.int _)⟩
      unfold mulC at hc
      simp only [Bool.or_eq_true, Bool.and_eq_true, decide_eq_true_eq] at hc
      exact hc
    · cases e
  · cases e
def addW : W → W → Po W := fun x y ph => match x, y with
  | .int i, .int j => some (.int (i + j), ph)
  | .str i, .str j => if i.length + j.length ≤ sizeLine then some (.str (i ++ j), ph) else none
  | .ref a, .ref b => match ph[a]?, ph[b]? with
    | some (.lst xs), some (.lst ys) => if xs.length + ys.length ≤ sizeLine then some (.ref ph.length, ph ++ [.lst (xs ++ ys)]) else none
    | _, _ => none
  | .tup xs, .tup ys => if xs ≠ [] ∧ xs.length + ys.length ≤ sizeLine then some (.tup (xs ++ ys), ph) else none
  | _, _ => none
abbrev rAddW (K : PySem.W.Frag) : R2 := fun x y H Q => ((rI0 fun i j => .int (i + j)) x y H Q ∨ ∃ i j, x = .str i ∧ y = .str j ∧ i.length + j.length ≤ sizeLine ∧ Q (.str (i ++ j)) H) ∨ (rCat x y H Q ∨ rCatT K x y H Q)
theorem op_addW {X : Cx} : OpR X (binaryOp .Add) (rAddW X.K) := OpR.or (OpR.or op_add op_add_str) (OpR.or op_cat op_catT)
theorem addW_i {K : PySem.W.Frag} : OpI K (rAddW K) addW := by
  intro φ ph H x y vx vy w ph' Q hH rx ry e k
  unfold addW at e
  split at e
  · cases e; cases rx; cases ry
    exact .inl (.inl ⟨_, _, rfl, rfl, k φ H _ hH Step.refl (.int _)⟩)
  · split at e
    · rename_i hz
      cases e; cases rx; cases ry
      exact .inl (.inr ⟨_, _, rfl, rfl, hz, k φ H _ hH Step.refl (.str _)⟩)
    · cases e
  · split at e
    · rename_i xs ys hx hy
      split at e
      · rename_i hz
        cases e
        cases rx; cases ry
        obtain ⟨us, hu, ru⟩ := hH.hp _ _ hx
        obtain ⟨vs, hv, rv⟩ := hH.hp _ _ hy
        refine .inr (.inl ⟨_, _, us, vs, rfl, rfl, hu, hv, by rw [← ru.length, ← rv.length]; exact hz, fun p hp => ?_⟩)
        obtain ⟨q1, q2, q3⟩ := new_list hH (ru.append rv) hp
        exact k _ _ _ q1 q2 q3
      · cases e
    · cases e
  · split at e
    · rename_i xs ys hz
      cases e
      cases rx with
      | tup hx rx =>
        cases ry with
        | tup hy ry =>
          rename_i a us b vs
          refine .inr (.inr ⟨a, b, us, vs, rfl, rfl, hx, hy, ?_, by rw [← rx.length, ← ry.length]; exact hz.2, fun he => ?_, fun hn p hp => ?_⟩)
          · rintro rfl
            cases rx
            exact hz.1 rfl
          · subst he
            cases ry
            refine k φ H _ hH Step.refl ?_
            rw [List.append_nil]
            exact .tup hx rx
          · exact k φ _ _ (hH.tup hp) (step_tup hp) (.tup (SqT.of upd_same) ((rx.append ry).mono (step_tup hp)))
    · cases e
  · cases e
/-! is None -/
def isNW : W → W → Po W := fun x y => match y with
  | .non => ret (.bl (decide (x = .non)))
  | _ => nono
def notNW : W → W → Po W := fun x y => match y with
  | .non => ret (.bl (!decide (x = .non)))
  | _ => nono
theorem non_iff {K : PySem.W.Frag} {φ : Nat → Addr} {n : Nat} {H : Hp} {x : W} {v : V} (r : RelW K φ n H x v) : decide (x = .non) = decide (v = .non) := by
  cases r <;> simp
theorem isNW_i {K : PySem.W.Frag} : OpI K (fun x y H Q => y = .non ∧ Q (.bl (decide (x = .non))) H) isNW := by
  intro φ ph H x y vx vy w ph' Q hH rx ry e k
  unfold isNW at e
  split at e
  · cases e; cases ry
    exact ⟨rfl, by rw [← non_iff rx]; exact k φ H _ hH Step.refl (.bl _)⟩
  · cases e
theorem notNW_i {K : PySem.W.Frag} : OpI K (fun x y H Q => y = .non ∧ Q (.bl (!decide (x = .non))) H) notNW := by
  intro φ ph H x y vx vy w ph' Q hH rx ry e k
  unfold notNW at e
  split at e
  · cases e; cases ry
    exact ⟨rfl, by rw [← non_iff rx]; exact k φ H _ hH Step.refl (.bl _)⟩
  · cases e
/-! int(..), abs(..) -/
def intW : List W → Po W := fun xs => match xs with
  | [.int i] => ret (.int i)
  | [.bl b] => ret (.int (if b then 1 else 0))
  | _ => nono
theorem intW_i {K : PySem.W.Frag} : CallI K (fun xs H Q => (∃ i, xs = [.int i] ∧ Q (.int i) H) ∨ ∃ k, xs = [.bl k] ∧ Q (.int (if k then 1 else 0)) H) intW := by
  intro φ ph H xs vs w ph' Q hH r e k
  unfold intW at e
  split at e
  · cases e
    cases r with
    | cons r r' => cases r; cases r'; exact .inl ⟨_, rfl, k φ H _ hH Step.refl (.int _)⟩
  · cases e
    cases r with
    | cons r r' => cases r; cases r'; exact .inr ⟨_, rfl, k φ H _ hH Step.refl (.int _)⟩
  · cases e
def absW : List W → Po W := fun xs => match xs with
  | [.int i] => ret (.int (if i < 0 then -i else i))
  | _ => nono
theorem absW_i {K : PySem.W.Frag} : CallI K (fun xs H Q => ∃ i, xs = [.int i] ∧ Q (.int (if i < 0 then -i else i)) H) absW := by
  intro φ ph H xs vs w ph' Q hH r e k
  unfold absW at e
  split at e
  · cases e
    cases r with
    | cons r r' => cases r; cases r'; exact ⟨_, rfl, k φ H _ hH Step.refl (.int _)⟩
  · cases e
end IL

namespace IL
open PySem PySem.Spec PyProof.Rows L2

/-! ### 13. isinstance(x, c), c a built-in kind -/
def kindW (w : W) (ph : PH) : Option String := match w with
  | .non => some "NoneType"
  | .bl _ => some "bool"
  | .int _ => some "int"
  | .str _ => some "str"
  | .tup _ => some "tuple"
  | .fl _ => some "list"
  | .ref i => match ph[i]? with
    | some (.lst _) => some "list"
    | some (.dct _) => some "dict"
    | none => none
  | .exc .. => none
def subK (t c : String) : Bool := t == c || (t == "bool" && c == "int")
def isP (c : String) (w : W) : Po W := fun ph => match kindW w ph with
  | some t => some (.bl (subK t c), ph)
  | none => none
def eIs (c : String) (m : EM) : EM := fun σ => bnd (m σ) fun w => lift (isP c w)
inductive KindV (K : PySem.W.Frag) (H : Hp) : V → String → Prop where
  | non : KindV K H .non "NoneType"
  | bl (x : Bool) : KindV K H (.bl x) "bool"
  | int (i : Int) : KindV K H (.int i) "int"
  | str (x : Str) : KindV K H (.str x) "str"
  | lst {a : Addr} {xs : List V} (e : SqL K H a xs) : KindV K H (.ref a) "list"
  | tup {a : Addr} {xs : List V} (e : SqT K H a xs) : KindV K H (.ref a) "tuple"
theorem kindW_v {K : PySem.W.Frag} {φ : Nat → Addr} {ph : PH} {H : Hp} {w : W} {v : V} {t : String} (hH : RelH K φ ph H) (r : RelW K φ ph.length H w v) (e : kindW w ph = some t) : KindV K H v t := by
  unfold kindW at e
  cases r with
  | non => cases e; exact .non
  | bl b => cases e; exact .bl b
  | int b => cases e; exact .int b
  | str b => cases e; exact .str b
  | tup h r => cases e; exact .tup h
  | fl h r => cases e; exact .lst h.sq
  | ref hi =>
    simp only at e
    split at e
    · rename_i ws hw
      cases e
      obtain ⟨vs, hv, _⟩ := hH.hp _ _ hw
      exact .lst (SqL.of hv)
    · rename_i ws hw
      exact (hH.hp _ _ hw).elim
    · cases e
  | exc => cases e
def Kits (K : PySem.W.Frag) (c : String) : Prop := ∀ t ∈ ["NoneType", "bool", "int", "str", "list", "tuple", "dict"], PySem.W.kitOne K (.type t) (.type c) = some (subK t c)
def rIs (K : PySem.W.Frag) (c : String) : List V → Hp → VK → Prop := fun xs H Q => ∃ x t, xs = [x, .ty c] ∧ KindV K H x t ∧ Q (.bl (subK t c)) H
theorem call_is {X : Cx} {c : String} (hk : Kits X.K c) : CallR X (.builtin "isinstance") (rIs X.K c) := by
  intro pins s σ H xs us Q I r h
  obtain ⟨x, t, rfl, kv, q⟩ := h
  obtain ⟨u, u2, rfl, rx, rc⟩ := Vals.two r
  obtain rfl : u2 = Value.type c := rc
  have fin : ∀ tk, EP X pins σ Q (.bool (subK t c)) { s with toks := tk } := fun tk => ⟨.bl _, H, I.tok tk, rfl, q⟩
  cases kv with
  | non => cases (show u = Value.none from rx); exact PySem.W.kia_one PySem.W.kitx_none I.kIn True.intro (hk _ (by decide)) (fun z => nomatch z) fin
  | bl y => cases (show u = Value.bool y from rx); exact PySem.W.kia_one PySem.W.kitx_bool I.kIn True.intro (hk _ (by decide)) (fun z => nomatch z) fin
  | int i => obtain ⟨t, rfl⟩ := (show ∃ t, u = Value.int i t from rx); exact PySem.W.kia_one PySem.W.kitx_int I.kIn True.intro (hk _ (by decide)) (fun z => nomatch z) fin
  | str y => obtain ⟨t, rfl⟩ := (show ∃ t, u = Value.str y t from rx); exact PySem.W.kia_one PySem.W.kitx_str I.kIn True.intro (hk _ (by decide)) (fun z => nomatch z) fin
  | @lst a ys e =>
    cases (show u = Value.ref a from rx)
    obtain ⟨its, _, ⟨o, n, h1, h2, _⟩, _⟩ := I.list e
    exact PySem.W.kia_one PySem.W.kitx_list I.kIn ⟨_, h1, h2⟩ (hk _ (by decide)) (fun z => nomatch z) fin
  | @tup a ys e =>
    cases (show u = Value.ref a from rx)
    obtain ⟨its, _, ⟨o, h1, h2, _⟩, _⟩ := I.tuple e
    exact PySem.W.kia_one PySem.W.kitx_tuple I.kIn ⟨_, h1, h2⟩ (hk _ (by decide)) (fun z => nomatch z) fin
section
variable {X : Cx} {e : Expr} {m : EM} {p p2 pos : Pos}
theorem ie_is {c : Str} {cn : String} (hk : Kits X.K cn) (hv : bootBuiltins c = some (.type cn)) (hg : Gl X "isinstance") (hm : X.mg "isinstance" = none) (hgc : Gl X c) (hmc : X.mg c = none) (he : IE X e m)
    (hn : c ≠ "__name__" := by decide) (hd : (c == ("__debug__" : Str)) = false := by decide)
    (hs : starEach [e, .Name c p2] X.env = [(false, eval e X.env), (false, eval (.Name c p2) X.env)] := by rfl) (hs2 : starEach [.Name c p2] X.env = [(false, eval (.Name c p2) X.env)] := by rfl)
    (hpl : (backTo pos (starEach [.Name c p2] X.env)).any (·.1) = false := by rfl) :
    IE X (.Call (.Name "isinstance" p) [e, .Name c p2] [] pos) (eIs cn m) := by
  refine PE.imp (pe_callB (call_is hk) hg hm PyProof.Rows.boot_isinstance (pa_cons he (pa_cons (pe_bltn (v := .ty cn) hgc hmc hv rfl hn hd) pa_nil (by rw [hs2]; rfl)) (by rw [hs, hs2])) (he := by rw [hs, hs2]) (hpl := hpl)) fun σ H Q h => ?_
  obtain ⟨φ, ph, ws, hH, hS, h⟩ := h
  refine tM.bind hH hS h fun x ph1 φ1 H1 vx hH1 s1 rx h => ?_
  obtain ⟨w, ph', e, k⟩ := run_lift h
  unfold isP at e
  split at e
  · rename_i t ht
    cases e
    exact ⟨vx, t, rfl, kindW_v hH1 rx ht, k φ1 H1 _ hH1 s1 (.bl _)⟩
  · cases e
end
theorem kits_int {K : PySem.W.Frag} : Kits K "int" := by
  intro t ht
  simp only [List.mem_cons, List.mem_nil_iff, or_false] at ht
  rcases ht with rfl | rfl | rfl | rfl | rfl | rfl | rfl <;> rfl
theorem kits_bool {K : PySem.W.Frag} : Kits K "bool" := by
  intro t ht
  simp only [List.mem_cons, List.mem_nil_iff, or_false] at ht
  rcases ht with rfl | rfl | rfl | rfl | rfl | rfl | rfl <;> rfl
theorem kits_str {K : PySem.W.Frag} : Kits K "str" := by
  intro t ht
  simp only [List.mem_cons, List.mem_nil_iff, or_false] at ht
  rcases ht with rfl | rfl | rfl | rfl | rfl | rfl | rfl <;> rfl
theorem kits_list {K : PySem.W.Frag} : Kits K "list" := by
  intro t ht
  simp only [List.mem_cons, List.mem_nil_iff, or_false] at ht
  rcases ht with rfl | rfl | rfl | rfl | rfl | rfl | rfl <;> rfl
theorem kits_tuple {K : PySem.W.Frag} : Kits K "tuple" := by
  intro t ht
  simp only [List.mem_cons, List.mem_nil_iff, or_false] at ht
  rcases ht with rfl | rfl | rfl | rfl | rfl | rfl | rfl <;> rfl
theorem kits_dict {K : PySem.W.Frag} : Kits K "dict" := by
  intro t ht
  simp only [List.mem_cons, List.mem_nil_iff, or_false] at ht
  rcases ht with rfl | rfl | rfl | rfl | rfl | rfl | rfl <;> rfl
end IL

namespace IL
open PySem PySem.Spec PyProof.Rows L2

/-! ### 14. == and in, to any depth -/
def mapO {α β : Type} (f : α → Option β) : List α → Option (List β)
  | [] => some []
  | a :: as => match f a, mapO f as with
    | some b, some bs => some (b :: bs)
    | _, _ => none
def dat (ph : PH) : Nat → W → Option PyData
  | _, .non => some .none
  | _, .bl b => some (.bool b)
  | _, .int i => some (.int i)
  | _, .str x => if PyData.strOk x = true then some (.str x) else none
  | n + 1, .tup ws => (mapO (dat ph n) ws).map .tuple
  | n + 1, .fl ws => (mapO (dat ph n) ws).map .list
  | n + 1, .ref i => match ph[i]? with
    | some (.lst ws) => (mapO (dat ph n) ws).map .list
    | _ => none
  | _, _ => none
section
variable {X : Cx} {pins : List (Addr × Obj)} {σ : L2.St} {H : Hp} {s : Shared} {φ : Nat → Addr} {ph : PH}
/-- what a value reads as -/
def RdD (s : Shared) (n : Nat) (u : Value) (d : PyData) : Prop := (∃ as, Reads s.heap u d as) ∧ d.canLay0 = true ∧ d.depth ≤ n
theorem dats_reads {n : Nat} (ih : ∀ {w : W} {v : V} {u : Value} {d : PyData}, RelW X.K φ ph.length H w v → RelV v u → dat ph n w = some d → RdD s n u d) :
    ∀ {ws : List W} {vs : List V} {us : List Value} {ds : List PyData}, RelWs X.K φ ph.length H ws vs → Vals vs us → mapO (dat ph n) ws = some ds →
      (∃ as, ReadsAll s.heap us ds as) ∧ PyData.canLayAll0 ds = true ∧ PyData.depthAll ds ≤ n
  | _, _, _, _, .nil, .nil, e => by cases e; exact ⟨⟨_, .nil⟩, rfl, Nat.zero_le _⟩
  | w :: ws, _, _, ds, .cons h r, .cons hv rv, e => by
    unfold mapO at e
    split at e
    · rename_i b bs e1 e2
      cases e
      obtain ⟨⟨as, r1⟩, c1, d1⟩ := ih h hv e1
      obtain ⟨⟨bs', r2⟩, c2, d2⟩ := dats_reads ih r rv e2
      refine ⟨⟨_, .cons r1 r2⟩, ?_, ?_⟩
      · simp only [PyData.canLayAll0, c1, c2, Bool.and_self]
      · simp only [PyData.depthAll]; omega
    · cases e
theorem dat_reads (I : Inv X pins σ H s) (hH : RelH X.K φ ph H) : ∀ (n : Nat) {w : W} {v : V} {u : Value} {d : PyData}, RelW X.K φ ph.length H w v → RelV v u → dat ph n w = some d → RdD s n u d := by
  have seqs : ∀ (n : Nat) (ih : ∀ {w : W} {v : V} {u : Value} {d : PyData}, RelW X.K φ ph.length H w v → RelV v u → dat ph n w = some d → RdD s n u d) {ws : List W} {vs : List V} {d : PyData} {a : Addr},
      RelWs X.K φ ph.length H ws vs → ((SqL X.K H a vs ∧ (mapO (dat ph n) ws).map PyData.list = some d) ∨ (SqT X.K H a vs ∧ (mapO (dat ph n) ws).map PyData.tuple = some d)) → RdD s (n + 1) (.ref a) d := by
    intro n ih ws vs d a r h
    rcases h with ⟨hq, e⟩ | ⟨hq, e⟩
    · obtain ⟨its, rv, ⟨o, k, h1, h2, h3, h4⟩, _⟩ := I.list hq
      obtain ⟨ds, e1, e2⟩ := Option.map_eq_some_iff.mp e
      subst e2
      obtain ⟨⟨as, r1⟩, c1, d1⟩ := dats_reads ih r rv e1
      refine ⟨⟨_, .list h1 h2 h4 (by simpa using r1)⟩, by simpa only [PyData.canLay0] using c1, ?_⟩
      simp only [PyData.depth]; omega
    · obtain ⟨its, rv, ⟨o, h1, h2, k, h4⟩, _⟩ := I.tuple hq
      obtain ⟨ds, e1, e2⟩ := Option.map_eq_some_iff.mp e
      subst e2
      obtain ⟨⟨as, r1⟩, c1, d1⟩ := dats_reads ih r rv e1
      refine ⟨⟨_, .tuple h1 h2 h4 (by simpa using r1)⟩, by simpa only [PyData.canLay0] using c1, ?_⟩
      simp only [PyData.depth]; omega
  intro n
  induction n with
  | zero =>
    intro w v u d r rv e
    cases r with
    | non => cases rv; cases e; exact ⟨⟨_, .none⟩, rfl, Nat.le_refl _⟩
    | bl b => cases rv; cases e; exact ⟨⟨_, .bool b⟩, rfl, Nat.le_refl _⟩
    | int i => obtain ⟨t, rfl⟩ := rv; cases e; exact ⟨⟨_, .int i t⟩, rfl, Nat.le_refl _⟩
    | str x =>
      obtain ⟨t, rfl⟩ := rv
      unfold dat at e
      split at e
      · rename_i hx; cases e; exact ⟨⟨_, .str x t⟩, by simpa only [PyData.canLay0] using hx, Nat.le_refl _⟩
      · cases e
    | _ => cases e
  | succ n ih =>
    intro w v u d r rv e
    cases r with
    | non => cases rv; cases e; exact ⟨⟨_, .none⟩, rfl, Nat.zero_le _⟩
    | bl b => cases rv; cases e; exact ⟨⟨_, .bool b⟩, rfl, Nat.zero_le _⟩
    | int i => obtain ⟨t, rfl⟩ := rv; cases e; exact ⟨⟨_, .int i t⟩, rfl, Nat.zero_le _⟩
    | str x =>
      obtain ⟨t, rfl⟩ := rv
      unfold dat at e
      split at e
      · rename_i hx; cases e; exact ⟨⟨_, .str x t⟩, by simpa only [PyData.canLay0] using hx, Nat.zero_le _⟩
      · cases e
    | tup h r => cases rv; exact seqs n ih r (.inr ⟨h, e⟩)
    | exc => unfold dat at e; cases e
    | fl h r => cases rv; exact seqs n ih r (.inl ⟨h.sq, e⟩)
    | ref hi =>
      cases rv
      unfold dat at e
      split at e
      · rename_i ws hw
        obtain ⟨vs, hv, r⟩ := hH.hp _ _ hw
        exact seqs n ih r (.inl ⟨SqL.of hv, e⟩)
      · cases e
end
def eqD (ph : PH) (x y : W) : Option Bool := match dat ph 40 x, dat ph 40 y with
  | some a, some b => some (PyData.eqv a b)
  | _, _ => none
def eqW : W → W → Po W := fun x y ph => (eqD ph x y).map fun b => (.bl b, ph)
def neW : W → W → Po W := fun x y ph => (eqD ph x y).map fun b => (.bl (!b), ph)
def rD (K : PySem.W.Frag) (f : Bool → Bool) : R2 := fun x y H Q => ∃ φ ph wx wy b, RelH K φ ph H ∧ RelW K φ ph.length H wx x ∧ RelW K φ ph.length H wy y ∧ eqD ph wx wy = some b ∧ Q (.bl (f b)) H
theorem eqD_some {ph : PH} {x y : W} {b : Bool} (h : eqD ph x y = some b) : ∃ dx dy, dat ph 40 x = some dx ∧ dat ph 40 y = some dy ∧ b = PyData.eqv dx dy := by
  unfold eqD at h
  split at h
  · rename_i dx dy h1 h2
    cases h
    exact ⟨dx, dy, h1, h2, rfl⟩
  · cases h
theorem op_eqW {X : Cx} (hu : X.A.units + 64 < cLine) : OpR X (compareOp .Eq) (rD X.K fun b => b) := by
  intro pins s σ H x y v u Q I rx ry h
  obtain ⟨φ, ph, wx, wy, b, hH, r1, r2, e, q⟩ := h
  obtain ⟨dx, dy, e1, e2, rfl⟩ := eqD_some e
  obtain ⟨⟨as, k1⟩, c1, l1⟩ := dat_reads I hH 40 r1 rx e1
  obtain ⟨⟨bs, k2⟩, c2, l2⟩ := dat_reads I hH 40 r2 ry e2
  exact SeqAt.compareEq_reads k1 k2 c1 c2 (by omega) ⟨.bl _, H, I, rfl, q⟩
theorem op_neW {X : Cx} (hu : X.A.units + 64 < cLine) : OpR X (compareOp .NotEq) (rD X.K fun b => !b) := by
  intro pins s σ H x y v u Q I rx ry h
  obtain ⟨φ, ph, wx, wy, b, hH, r1, r2, e, q⟩ := h
  obtain ⟨dx, dy, e1, e2, rfl⟩ := eqD_some e
  obtain ⟨⟨as, k1⟩, c1, l1⟩ := dat_reads I hH 40 r1 rx e1
  obtain ⟨⟨bs, k2⟩, c2, l2⟩ := dat_reads I hH 40 r2 ry e2
  exact SeqAt.compareNe_reads k1 k2 c1 c2 (by omega) ⟨.bl _, H, I, rfl, q⟩
theorem eqW_i {K : PySem.W.Frag} : OpI K (rD K fun b => b) eqW := by
  intro φ ph H x y vx vy w ph' Q hH rx ry e k
  obtain ⟨b, e1, e2⟩ := Option.map_eq_some_iff.mp e
  cases e2
  exact ⟨φ, ph, x, y, b, hH, rx, ry, e1, k φ H _ hH Step.refl (.bl _)⟩
theorem neW_i {K : PySem.W.Frag} : OpI K (rD K fun b => !b) neW := by
  intro φ ph H x y vx vy w ph' Q hH rx ry e k
  obtain ⟨b, e1, e2⟩ := Option.map_eq_some_iff.mp e
  cases e2
  exact ⟨φ, ph, x, y, b, hH, rx, ry, e1, k φ H _ hH Step.refl (.bl _)⟩
/-! x in a list or tuple -/
def inD (ph : PH) (x y : W) : Option Bool := match seqW y ph, dat ph 40 x with
  | some ws, some dx => (mapO (dat ph 40) ws).map fun ds => ds.any fun d => PyData.eqv d dx
  | _, _ => none
def inW : W → W → Po W := fun x y ph => (inD ph x y).map fun b => (.bl b, ph)
def ninW : W → W → Po W := fun x y ph => (inD ph x y).map fun b => (.bl (!b), ph)
def rInD (K : PySem.W.Frag) (f : Bool → Bool) : R2 := fun x y H Q => ∃ φ ph wx wy b, RelH K φ ph H ∧ RelW K φ ph.length H wx x ∧ RelW K φ ph.length H wy y ∧ inD ph wx wy = some b ∧ Q (.bl (f b)) H
open Classical in
/-- the answer of one item, read off the heap -/
noncomputable def ansOf (s : Shared) (dx : PyData) (u : Value) : Bool := if h : ∃ d, RdD s 40 u d then PyData.eqv h.choose dx else false
theorem ansOf_eq {s : Shared} {dx d : PyData} {u : Value} (h : RdD s 40 u d) : ansOf s dx u = PyData.eqv d dx := by
  unfold ansOf
  have hx : ∃ d, RdD s 40 u d := ⟨d, h⟩
  rw [dif_pos hx]
  obtain ⟨⟨as, r⟩, c, _⟩ := h
  obtain ⟨⟨as', r'⟩, c', _⟩ := hx.choose_spec
  rw [SeqAt.Reads.unique _ _ _ _ _ c' r' r]
section
variable {X : Cx} {pins : List (Addr × Obj)} {σ : L2.St} {H : Hp} {s : Shared} {φ : Nat → Addr} {ph : PH}
theorem ans_all (I : Inv X pins σ H s) (hH : RelH X.K φ ph H) {dx : PyData} : ∀ {ws : List W} {vs : List V} {us : List Value} {ds : List PyData}, RelWs X.K φ ph.length H ws vs → Vals vs us → mapO (dat ph 40) ws = some ds →
    (us.any (ansOf s dx) = ds.any fun d => PyData.eqv d dx) ∧ ∀ u ∈ us, ∃ d, RdD s 40 u d
  | _, _, _, _, .nil, .nil, e => by cases e; exact ⟨rfl, fun _ h => nomatch h⟩
  | w :: ws, _, _, ds, .cons h r, .cons hv rv, e => by
    unfold mapO at e
    split at e
    · rename_i b bs e1 e2
      cases e
      have q := dat_reads I hH 40 h hv e1
      obtain ⟨r1, r2⟩ := ans_all I hH (dx := dx) r rv e2
      refine ⟨by rw [List.any_cons, List.any_cons, r1, ansOf_eq q], fun u hu => ?_⟩
      rcases List.mem_cons.mp hu with rfl | hu
      · exact ⟨_, q⟩
      · exact r2 u hu
    · cases e
theorem in_core (I : Inv X pins σ H s) (hH : RelH X.K φ ph H) {wx wy : W} {x y : V} {v u : Value} {b : Bool} (hu : X.A.units + 64 < cLine) (r1 : RelW X.K φ ph.length H wx x) (r2 : RelW X.K φ ph.length H wy y) (rx : RelV x v) (ry : RelV y u) (e : inD ph wx wy = some b) :
    ∃ (a : Addr) (its : List Value) (f : Value → Bool), u = .ref a ∧ (s.heap.IsList a its.toArray ∨ s.heap.IsTuple a its.toArray) ∧ (∀ z, z ∈ its.toArray → SeqAt.EqAt X.A.in1 s z v (f z)) ∧ its.toArray.any f = b := by
  unfold inD at e
  split at e
  · rename_i ws dx hs hd
    obtain ⟨ds, e1, e2⟩ := Option.map_eq_some_iff.mp e
    obtain ⟨a, vs, rfl, hq, rs⟩ := seqW_rel hH r2 hs
    cases ry
    obtain ⟨⟨as, k1⟩, c1, l1⟩ := dat_reads I hH 40 r1 rx hd
    have fin : ∀ {its : List Value}, Vals vs its → (∀ z, z ∈ its.toArray → SeqAt.EqAt X.A.in1 s z v (ansOf s dx z)) ∧ its.toArray.any (ansOf s dx) = b := fun {its} rv => by
      obtain ⟨q1, q2⟩ := ans_all I hH (dx := dx) rs rv e1
      refine ⟨fun z hz => ?_, by rw [show its.toArray.any (ansOf s dx) = its.any (ansOf s dx) by simp, q1, e2]⟩
      obtain ⟨d, hd⟩ := q2 z (by simpa using hz)
      rw [ansOf_eq hd]
      obtain ⟨⟨bs, k2⟩, c2, l2⟩ := hd
      intro prog w E Q hQ
      exact SeqAt.eqBoolOverData prog w _ E s z v d dx bs as Q k2 k1 c2 c1 (by show X.A.units + 1 + _ < _; omega) hQ
    rcases hq with hq | hq
    · obtain ⟨its, rv, pl, _⟩ := I.list hq
      obtain ⟨f1, f2⟩ := fin rv
      exact ⟨a, its, _, rfl, .inl pl.isList, f1, f2⟩
    · obtain ⟨its, rv, pl, _⟩ := I.tuple hq
      obtain ⟨f1, f2⟩ := fin rv
      exact ⟨a, its, _, rfl, .inr pl, f1, f2⟩
  · cases e
end
theorem op_inW {X : Cx} (hu : X.A.units + 64 < cLine) : OpR X (compareOp .In) (rInD X.K fun b => b) := by
  intro pins s σ H x y v u Q I rx ry h
  obtain ⟨φ, ph, wx, wy, b, hH, r1, r2, e, q⟩ := h
  obtain ⟨a, its, f, rfl, hq, hf, hb⟩ := in_core I hH hu r1 r2 rx ry e
  subst hb
  rcases hq with hq | hq
  · exact SeqAt.in_listAt f hq hf ⟨.bl _, H, I, rfl, q⟩
  · exact SeqAt.in_tupleAt f hq hf ⟨.bl _, H, I, rfl, q⟩
theorem op_ninW {X : Cx} (hu : X.A.units + 64 < cLine) : OpR X (compareOp .NotIn) (rInD X.K fun b => !b) := by
  intro pins s σ H x y v u Q I rx ry h
  obtain ⟨φ, ph, wx, wy, b, hH, r1, r2, e, q⟩ := h
  obtain ⟨a, its, f, rfl, hq, hf, hb⟩ := in_core I hH hu r1 r2 rx ry e
  subst hb
  rcases hq with hq | hq
  · exact SeqAt.notIn_listAt f hq hf ⟨.bl _, H, I, rfl, q⟩
  · exact SeqAt.notIn_tupleAt f hq hf ⟨.bl _, H, I, rfl, q⟩
theorem inW_i {K : PySem.W.Frag} : OpI K (rInD K fun b => b) inW := by
  intro φ ph H x y vx vy w ph' Q hH rx ry e k
  obtain ⟨b, e1, e2⟩ := Option.map_eq_some_iff.mp e
  cases e2
  exact ⟨φ, ph, x, y, b, hH, rx, ry, e1, k φ H _ hH Step.refl (.bl _)⟩
theorem ninW_i {K : PySem.W.Frag} : OpI K (rInD K fun b => !b) ninW := by
  intro φ ph H x y vx vy w ph' Q hH rx ry e k
  obtain ⟨b, e1, e2⟩ := Option.map_eq_some_iff.mp e
  cases e2
  exact ⟨φ, ph, x, y, b, hH, rx, ry, e1, k φ H _ hH Step.refl (.bl _)⟩
end IL

namespace IL
open PySem PySem.Spec PyProof.Rows L2

/-! ### 15. A list comprehension, one clause, at most one test -/
def closBody (env : Env) (x : Str × NameKind) (s : List (Str × Addr)) : Sem (ForInStep (List (Str × Addr))) :=
  if (x.2 == NameKind.free) = true then do
    let a ← cellOf env x.1
    pure (ForInStep.yield ((x.1, a) :: s))
  else pure (ForInStep.yield s)
theorem clos_aux (env : Env) : ∀ (names : List (Str × NameKind)) (acc : List (Str × Addr)), (∀ y ∈ names, y.2 = .free → ∃ c, env.cells.lookup y.1 = some c) →
    ∃ cl, (forIn names acc (closBody env) : Sem (List (Str × Addr))) = pure cl ∧ (∀ x c, cl.lookup x = some c → acc.lookup x = some c ∨ (env.cells.lookup x = some c ∧ (x, NameKind.free) ∈ names)) ∧
      (∀ x, ((∃ c, acc.lookup x = some c) ∨ (x, NameKind.free) ∈ names) → ∃ c, cl.lookup x = some c)
  | [], acc, _ => ⟨acc, rfl, fun x c h => .inl h, fun x h => h.elim id fun z => nomatch z⟩
  | (n, k) :: r, acc, h => by
    by_cases hk : k = .free
    · subst hk
      obtain ⟨c, hc⟩ := h (n, .free) List.mem_cons_self rfl
      obtain ⟨cl, e, h1, h2⟩ := clos_aux env r ((n, c) :: acc) fun y hy => h y (List.mem_cons_of_mem _ hy)
      refine ⟨cl, ?_, fun x c' hx => ?_, fun x hx => h2 x ?_⟩
      · rw [List.forIn_cons]
        have eb : closBody env (n, .free) acc = pure (ForInStep.yield ((n, c) :: acc)) := by
          unfold closBody
          rw [if_pos (by rfl)]
          unfold cellOf
          rw [hc]
          rfl
        rw [eb]
        exact e
      · rcases h1 x c' hx with z | z
        · rw [List.lookup_cons] at z
          cases q : x == n with
          | true =>
            rw [q] at z
            cases z
            have : x = n := eq_of_beq q
            subst this
            exact .inr ⟨hc, List.mem_cons_self⟩
          | false => rw [q] at z; exact .inl z
        · exact .inr ⟨z.1, List.mem_cons_of_mem _ z.2⟩
      · rcases hx with ⟨c', hx⟩ | hx
        · rw [List.lookup_cons]
          cases q : x == n with
          | true => exact .inl ⟨c, rfl⟩
          | false => exact .inl ⟨c', hx⟩
        · rcases List.mem_cons.mp hx with z | z
          · cases z
            exact .inl ⟨c, by rw [List.lookup_cons]; simp⟩
          · exact .inr z
    · obtain ⟨cl, e, h1, h2⟩ := clos_aux env r acc fun y hy => h y (List.mem_cons_of_mem _ hy)
      refine ⟨cl, ?_, fun x c' hx => ?_, fun x hx => h2 x ?_⟩
      · rw [List.forIn_cons]
        have eb : closBody env (n, k) acc = pure (ForInStep.yield acc) := by
          unfold closBody
          rw [if_neg (by simpa using hk)]
        rw [eb]
        exact e
      · rcases h1 x c' hx with z | z
        · exact .inl z
        · exact .inr ⟨z.1, List.mem_cons_of_mem _ z.2⟩
      · rcases hx with hx | hx
        · exact .inl hx
        · rcases List.mem_cons.mp hx with z | z
          · cases z; exact absurd rfl hk
          · exact .inr z
theorem clos_ok {scope : Scope} {env : Env} (h : ∀ y ∈ scope.names, y.2 = .free → ∃ c, env.cells.lookup y.1 = some c) :
    ∃ cl, closureFor scope env = pure cl ∧ (∀ x c, cl.lookup x = some c → env.cells.lookup x = some c ∧ (x, NameKind.free) ∈ scope.names) ∧ (∀ x, (x, NameKind.free) ∈ scope.names → ∃ c, cl.lookup x = some c) := by
  obtain ⟨cl, e, h1, h2⟩ := clos_aux env scope.names [] h
  refine ⟨cl, ?_, fun x c hx => ?_, fun x hx => h2 x (.inr hx)⟩
  · unfold closureFor
    show (forIn scope.names [] (closBody env) >>= fun s => pure s) = pure cl
    rw [e]
    rfl
  · rcases h1 x c hx with z | z
    · cases z
    · exact z

/-- the context of the block -/
def blk (X : Cx) (N : List Str) (scope : Scope) (cl : List (Str × Addr)) (C : Addr) (s₀ : Shared) (H₀ : Hp) (ex : List Addr) : Cx :=
  { X with N := N, s₀ := s₀, H₀ := H₀, env := compEnvC scope cl C X.env, outer := X.stack, stack := X.stack, ex := ex, fn := fun _ => false, pn := [], xe := fun _ _ => False }
/-- the captured names' values -/
def capV (cap : List (Option Nat)) (σ : L2.St) : L2.St := cap.map fun o => o.bind fun i => (σ[i]?).join
def tComp (wi : TI) (cap : List (Option Nat)) (g : TG) (tc : TT) (te : TE) : TE := fun σ H Q => wi σ H fun J H1 => ∀ D, H1 D = none → ∃ W : Nat → Nat → L2.St → Hp → Prop, (∃ m, W 0 m (capV cap σ) (upd H1 D (.lst []))) ∧
  ∀ i m σ2 H2, W i m σ2 H2 → (J.stop i H2 ∧ Q (.ref D) H2) ∨ (J.go i H2 ∧ ∀ x H3, J.yld i H2 x H3 → g x σ2 H3 fun σ4 H4 => tc σ4 H4 fun b H5 =>
    if b = true then te σ4 H5 fun v H6 => ∃ xs, H6 D = some (.lst xs) ∧ xs.length < sizeLine ∧ ∃ m', m' < m ∧ W (i + 1) m' σ4 (upd H6 D (.lst (xs ++ [v]))) else ∃ m', m' < m ∧ W (i + 1) m' σ4 H5)
/-- the tests of a clause -/
def PF (X : Cx) (ifs : List Expr) (t : TT) : Prop :=
  ∀ (pins : List (Addr × Obj)) (s : Shared) (σ : L2.St) (H : Hp) (Q : Bool → Hp → Prop), Inv X pins σ H s → t σ H Q →
    wpAny (model X.prog X.w) X.A (forIn ifs true fun c r => if r = true then do let ok ← isTrue c X.env (eval c X.env); pure (ForInStep.yield ok) else pure (ForInStep.yield r)) (TP X pins σ Q) X.xe s
theorem pf_nil {X : Cx} : PF X [] (fun _ H Q => Q true H) := fun pins s σ H Q I h => wpAny_tests_nil ⟨H, I, h⟩
theorem pf_one {X : Cx} {c : Expr} {t : TT} (h : PT X c t) : PF X [c] t := fun pins s σ H Q I q => wpAny_tests_one (h pins s σ H Q I q)
end IL

namespace IL
open PySem PySem.Spec PyProof.Rows L2

theorem lookup_relabel_free {env : Env} {x : Str} : ∀ {names : List (Str × NameKind)}, names.lookup x = some .free →
    (names.map fun (n, k) => if (k == NameKind.free && env.scope.kind == .function && env.kindOf n == some .cell) then (n, NameKind.cell) else (n, k)).lookup x = some .cell ∨
    (names.map fun (n, k) => if (k == NameKind.free && env.scope.kind == .function && env.kindOf n == some .cell) then (n, NameKind.cell) else (n, k)).lookup x = some .free
  | [], h => by cases h
  | (n, k) :: r, h => by
    rw [List.map_cons]
    cases q : x == n with
    | true =>
      rw [List.lookup_cons, q] at h
      cases h
      by_cases hc : (NameKind.free == NameKind.free && env.scope.kind == .function && env.kindOf n == some .cell) = true
      · left
        show List.lookup x ((if (NameKind.free == NameKind.free && env.scope.kind == .function && env.kindOf n == some .cell) = true then (n, NameKind.cell) else (n, NameKind.free)) :: _) = _
        rw [if_pos hc, List.lookup_cons, q]
      · right
        show List.lookup x ((if (NameKind.free == NameKind.free && env.scope.kind == .function && env.kindOf n == some .cell) = true then (n, NameKind.cell) else (n, NameKind.free)) :: _) = _
        rw [if_neg hc, List.lookup_cons, q]
    | false =>
      rw [List.lookup_cons, q] at h
      have ih := lookup_relabel_free (env := env) h
      show List.lookup x ((if (k == NameKind.free && env.scope.kind == .function && env.kindOf n == some .cell) = true then (n, NameKind.cell) else (n, k)) :: _) = _ ∨ List.lookup x ((if (k == NameKind.free && env.scope.kind == .function && env.kindOf n == some .cell) = true then (n, NameKind.cell) else (n, k)) :: _) = _
      by_cases hc : (k == NameKind.free && env.scope.kind == .function && env.kindOf n == some .cell) = true
      · rw [if_pos hc, List.lookup_cons, q]; exact ih
      · rw [if_neg hc, List.lookup_cons, q]; exact ih
theorem relabel_back {env : Env} {x : Str} {k' : NameKind} (hk' : k' = .cell ∨ k' = .free) : ∀ {names : List (Str × NameKind)}, (∀ y ∈ names, y.2 ≠ .cell) →
    (names.map fun (n, k) => if (k == NameKind.free && env.scope.kind == .function && env.kindOf n == some .cell) then (n, NameKind.cell) else (n, k)).lookup x = some k' → names.lookup x = some .free
  | [], _, h => by cases h
  | (n, k) :: r, hc, h => by
    have h' : List.lookup x ((if (k == NameKind.free && env.scope.kind == .function && env.kindOf n == some .cell) = true then (n, NameKind.cell) else (n, k)) :: r.map _) = some k' := h
    rw [List.lookup_cons]
    cases q : x == n with
    | true =>
      by_cases hb : (k == NameKind.free && env.scope.kind == .function && env.kindOf n == some .cell) = true
      · simp only [Bool.and_eq_true] at hb
        have : k = .free := by simpa using hb.1.1
        rw [this]
      · rw [if_neg hb, List.lookup_cons, q] at h'
        cases h'
        rcases hk' with z | z
        · exact absurd z (hc (n, k') List.mem_cons_self)
        · rw [z]
    | false =>
      refine relabel_back (env := env) hk' (names := r) (fun y hy => hc y (List.mem_cons_of_mem _ hy)) ?_
      by_cases hb : (k == NameKind.free && env.scope.kind == .function && env.kindOf n == some .cell) = true
      · rw [if_pos hb, List.lookup_cons, q] at h'; exact h'
      · rw [if_neg hb, List.lookup_cons, q] at h'; exact h'
theorem mem_lookup {x : Str} {k : NameKind} : ∀ {names : List (Str × NameKind)}, names.lookup x = some k → (x, k) ∈ names
  | [], h => by cases h
  | (n, j) :: r, h => by
    rw [List.lookup_cons] at h
    cases q : x == n with
    | true => rw [q] at h; cases h; rw [eq_of_beq q]; exact List.mem_cons_self
    | false => rw [q] at h; exact List.mem_cons_of_mem _ (mem_lookup h)

/-- how the block's names stand to the outer ones -/
structure Cap (X : Cx) (N : List Str) (cap : List (Option Nat)) (scope : Scope) : Prop where
  len : cap.length = N.length
  at_ : ∀ (i j : Nat) (x : Str), N[i]? = some x → cap[i]? = some (some j) → X.N[j]? = some x ∧ scope.names.lookup x = some .free ∧ (X.env.kindOf x = some .cell ∨ X.env.kindOf x = some .free)
  free : ∀ y ∈ scope.names, y.2 = .free → X.env.kindOf y.1 = some .cell ∨ X.env.kindOf y.1 = some .free
  cell : ∀ y ∈ scope.names, y.2 ≠ .cell
  kind : scope.kind = .function
  loc : ∀ y ∈ scope.names, y.2 = .local → scope.names.lookup y.1 = some .local
section
variable {X : Cx} {pins : List (Addr × Obj)} {σ : L2.St} {H : Hp} {s : Shared} {N : List Str} {cap : List (Option Nat)} {scope : Scope} {cl : List (Str × Addr)} {fp : List Addr}
theorem blk_inv (I : Inv X pins σ H s) (c : Cap X N cap scope) (hcl : ∀ x c, cl.lookup x = some c → X.env.cells.lookup x = some c ∧ (x, NameKind.free) ∈ scope.names) (hcl2 : ∀ x, (x, NameKind.free) ∈ scope.names → ∃ c, cl.lookup x = some c)
    (hf : ∀ b ∈ fp, b < s.heap.objs.size ∧ b ≠ X.env.locals ∧ b ∉ X.fs ∧ (b ∈ X.ex ∨ X.s₀.heap.objs.size ≤ b) ∧ (∀ x c, X.env.cells.lookup x = some c → c ≠ b)) {h₁ : Heap} {m : Str → Option Value} {tk : Nat}
    (hns : h₁.Ns s.heap.objs.size m) (hk : ∀ b o, s.heap.get? b = some o → h₁.get? b = some o) : Inv (blk X N scope cl s.heap.objs.size s H fp) [] (capV cap σ) H { s with heap := h₁, toks := tk } := by
  have memF : ∀ {x : Str}, ((blk X N scope cl s.heap.objs.size s H fp).env.kindOf x = some .cell ∨ (blk X N scope cl s.heap.objs.size s H fp).env.kindOf x = some .free) → scope.names.lookup x = some .free := fun {x} hx => by
    rcases hx with hx | hx
    · exact relabel_back (env := X.env) (.inl rfl) c.cell hx
    · exact relabel_back (env := X.env) (.inr rfl) c.cell hx
  have ok : (blk X N scope cl s.heap.objs.size s H fp).Ok :=
    { mod := I.ok.mod
      kind := c.kind
      glob := I.ok.glob
      blt := I.ok.blt
      above := Nat.le_refl _
      inj := fun x y d h1 h2 => I.ok.inj x y d (hcl x d h1).1 (hcl y d h2).1
      has := fun x hx => hcl2 x (mem_lookup (memF hx))
      cab := fun x d hz => nomatch hz
      hd := I.ok.hd
      frames := I.ok.frames
      stk := .inl rfl
      exf := fun b hb => ⟨Nat.ne_of_lt (hf b hb).1, fun x d hd => (hf b hb).2.2.2.2 x d (hcl x d hd).1⟩
      bs := I.bs
      bsz := Nat.le_trans I.ok.bsz I.sz
      noex := fun b o e hb => by
        rcases (hf b hb).2.2.2.1 with z | z
        · exact I.ok.noex b o e z
        · exact absurd (Nat.lt_of_lt_of_le (Heap.lt_size (I.ok.bs b o e).1) z) (Nat.lt_irrefl _)
      exfs := fun b hb hz => by
        rcases List.mem_cons.mp (I.stkSub b hz) with e | e
        · exact (hf b hb).2.1 e
        · exact (hf b hb).2.2.1 e
      funs := I.stack
      frf := I.stkFree }
  refine ⟨ok, rfl, I.bare, Un.kept hk, ⟨m, hns, fun i x v e1 e2 _ => ?_⟩, fun x d e => ?_, I.hok.fresh (Nat.le_refl _), fun x d e => I.freeC x d (hcl x d e).1, (fun p hp => nomatch hp), I.hok.kept hk, ?_⟩
  · unfold capV at e2
    rw [List.getElem?_map] at e2
    cases q : cap[i]? with
    | none => rw [q] at e2; cases e2
    | some o =>
      rw [q] at e2
      cases o with
      | none => cases e2
      | some j =>
        have e3 : (σ[j]?).join = some v := Option.some.inj e2
        have e4 : σ[j]? = some (some v) := by
          cases z : σ[j]? with
          | none => rw [z] at e3; cases e3
          | some w => rw [z] at e3; exact congrArg some e3
        obtain ⟨h1, h2, h3⟩ := c.at_ i j x e1 q
        obtain ⟨m0, _, hl⟩ := I.loc
        obtain ⟨u, ru, lk⟩ := hl j x v h1 e4 (.inr h3)
        refine ⟨u, ru, ?_⟩
        rcases lk with ⟨z, _⟩ | ⟨_, d, hd, hcell⟩
        · rcases h3 with z' | z' <;> (rw [z] at z'; cases z')
        · obtain ⟨d', hd'⟩ := hcl2 x (mem_lookup h2)
          have e5 := (hcl x d' hd').1
          rw [hd] at e5
          cases e5
          obtain ⟨ob, ho, hdta⟩ := hcell
          exact .inr ⟨lookup_relabel_free (env := X.env) h2, d, hd', ob, hk _ _ ho, hdta⟩
  · obtain ⟨v, ob, ho, hdta⟩ := I.cell x d (hcl x d e).1
    exact ⟨v, ob, hk _ _ ho, hdta⟩
  · show (capV cap σ).length = N.length
    unfold capV
    rw [List.length_map]
    exact c.len
theorem Un.but {fs ex : List Addr} {H H' : Hp} {h h1 h2 : Heap} {C : Addr} (u : Un fs ex H H' h h1) (sb : ∀ b, b ≠ C → h2.get? b = h1.get? b) (hC : h.get? C = none) : Un fs ex H H' h h2 := by
  have ne : ∀ b o, h.get? b = some o → b ≠ C := fun b o e z => by rw [z, hC] at e; cases e
  exact ⟨fun b o e n h1 h2 => (sb b (ne b o e)).trans (u.keep b o e n h1 h2), fun b o e n h1 h2 => by
    obtain ⟨sl, q⟩ := u.slot b o e n h1 h2
    exact ⟨sl, (sb b (ne b o e)).trans q⟩, u.free, fun b o e h1 => by
    obtain ⟨o', q⟩ := u.there b o e h1
    exact ⟨o', (sb b (ne b o e)).trans q⟩, u.tups, u.frzs, u.tbls⟩
/-- behind the block -/
theorem blk_out {σ' : L2.St} {H' : Hp} {s' : Shared} {h' : Heap} (I : Inv X pins σ H s) (J : Inv (blk X N scope cl s.heap.objs.size s H fp) [] σ' H' s') (sb : Heap.SameBut s.heap.objs.size s'.heap h')
    (hf : ∀ b ∈ fp, FpOk X pins H b) : Inv X pins σ H' { s' with heap := h' } := by
  have hC : H' s.heap.objs.size = none := J.free
  refine I.call' (ch := fp) J.os (Un.but J.base sb.2 (Heap.get?_none_of_le (Nat.le_refl _))) (fun a o e => ?_) J.bare fun b hb => ⟨(hf b hb).2.2.2.1, (hf b hb).2.1, (hf b hb).2.2.2.2.1, (hf b hb).2.2.2.2.2⟩
  refine (J.hok a o e).stay (fun b u hb q => (sb.2 b ?_).trans q) (fun _ q => q) fun _ _ q => q
  rintro rfl
  rcases hb with z | z
  · rw [← z, hC] at e; cases e
  · rw [hC] at z; cases z
end
end IL

namespace IL
open PySem PySem.Spec PyProof.Rows L2

section
variable {prog : Program} {w : World} {A : Around} {R : Result → Shared → Prop} {s : Shared}
/-- the block's loop, any target -/
theorem comp_loop {elt target iter : Expr} {ifs : List Expr} {scope : Scope} {pos : Pos} {it acc : Value} {env : Env} (J : Nat → Shared → Prop)
    (turn : ∀ k s, J k s → wpAny (model prog w) A (pyNext it) (fun r s1 => match r with
      | none => R (.ok .next) s1
      | some v => wpAny (model prog w) A (letOwnedTupleGo target it v) (fun _ s2 => wpAny (model prog w) A (assign target env v) (fun _ s3 =>
          wpAny (model prog w) A (forIn ifs true fun c r => if r = true then do let ok ← isTrue c env (eval c env); pure (ForInStep.yield ok) else pure (ForInStep.yield r)) (fun ok s4 =>
            if ok = true then wpAny (model prog w) A (eval elt env) (fun x s5 => wpAny (model prog w) A (call (.builtin "list.append") [acc, x]) (fun _ s6 => ∃ j, j < k ∧ J j s6) (fun _ _ => False) s5) (fun _ _ => False) s4
            else ∃ j, j < k ∧ J j s4) (fun _ _ => False) s3) (fun _ _ => False) s2) (fun _ _ => False) s1) (fun _ _ => False) s)
    (k : Nat) (h : J k s) : codeAny (model prog w) A (.compLoop (.ListComp elt [⟨target, iter, ifs, 0⟩] scope pos) 0 it acc env) R s := by
  have no : ∀ {E : Value → Shared → Prop} (e : Value) (s : Shared), False → E e s := fun _ _ z => z.elim
  refine codeAny_loop (c := .compLoop (.ListComp elt [⟨target, iter, ifs, 0⟩] scope pos) 0 it acc env) rfl J (fun k s hJ => ?_) k h
  show wpAny (model prog w) A ((compTurn (.ListComp elt [⟨target, iter, ifs, 0⟩] scope pos) 0 it acc env).onRaise fun x => do noteFrame x env; theTreesLotGoes x) _ _ s
  refine wpAny_noted ?_
  rw [compTurn_list]
  refine wpAny_bind (wpAny_standAt (wpAny_bind (wpAny_mono (turn k s hJ) (fun r s1 h1 => ?_) no)))
  cases r with
  | none => exact wpAny_pure h1
  | some v =>
    refine wpAny_bind (wpAny_mono h1 (fun _ s2 h2 => wpAny_bind (wpAny_mono h2 (fun _ s3 h3 => wpAny_bind (wpAny_mono h3 (fun ok s4 h4 => ?_) no)) no)) no)
    cases ok with
    | false => exact wpAny_pure ⟨rfl, h4⟩
    | true => exact wpAny_bind (wpAny_bind (wpAny_mono h4 (fun x s5 h5 => wpAny_bind (wpAny_mono h5 (fun _ s6 h6 => wpAny_pure (wpAny_pure ⟨rfl, h6⟩)) no)) no))
end
section
variable {X : Cx} {tg iter elt : Expr} {ifs : List Expr} {scope : Scope} {pos : Pos} {N : List Str} {cap : List (Option Nat)} {wi : TI} {g : TG} {tc : TT} {te : TE}
/-- the block run, whatever is done with the list -/
theorem comp_core {use : Option (Value → Sem Unit)} {Q' : Value → Shared → Prop} {pins : List (Addr × Obj)} {s : Shared} {σ : L2.St} {H : Hp} {Q : VK} {p0 : Pos} (hc : X.calm = true) (c : Cap X N cap scope) (hi : PI X tg iter wi) (hg : ∀ cl C s₀ H₀ ex, PG (blk X N scope cl C s₀ H₀ ex) tg g) (ht : ∀ cl C s₀ H₀ ex, PF (blk X N scope cl C s₀ H₀ ex) ifs tc)
    (he : ∀ cl C s₀ H₀ ex, PE (blk X N scope cl C s₀ H₀ ex) elt te) (hs : ∀ x, foldedSetIterable iter X.env x = pure x) (I : Inv X pins σ H s) (h : tComp wi cap g tc te σ H Q)
    (fin : ∀ (s3 s6 : Shared) (H3 H6 : Hp) (fp : List Addr) (σ6 : L2.St) (cl : List (Str × Addr)) (D : Addr), Inv X pins σ H3 s3 → (∀ b ∈ fp, FpOk X pins H3 b) → Inv (blk X N scope cl s3.heap.objs.size s3 H3 fp) [] σ6 H6 s6 → Q (.ref D) H6 →
      compPost (model X.prog X.w) X.A X.xe use Q' (.ref D) s3.heap.objs.size (.ok .next) s6) :
    wpAny (model X.prog X.w) X.A (comprehension (.ListComp elt [⟨tg, iter, ifs, 0⟩] scope pos) scope X.env p0 (newList []) false (eval iter X.env) use) Q' X.xe s := by
  obtain ⟨cl, hclos, hcl, hcl2⟩ := clos_ok (scope := scope) (env := X.env) fun y hy hf => I.ok.has y.1 (c.free y hy hf)
  refine wpAny_comprehension_free (use := use) rfl hs hclos c.kind c.loc (wpAny_mono (hi pins s σ H _ I h) (fun v s1 h1 => wpAny_mono h1 (fun itv s2 h2 => ?_) fun _ _ z => z) fun _ _ z => z)
  obtain ⟨it, fp, tn, J, H2, rfl, I2, T, st2, f2, h2⟩ := h2
  refine wpAny_newObj_type (wpAny_newFunctionEnv c.cell (by intro y hy; simp at hy) (fun h₁ hns hsb => ?_) c.kind)
  have hD : H2 s2.heap.objs.size = none := I2.fresh
  obtain ⟨W, ⟨m0, w0⟩, turn⟩ := h2 s2.heap.objs.size hD
  have I3 := I2.lnew (its := []) (ys := []) (t' := s2.toks) .nil (Nat.zero_le _)
  have fp3 : ∀ b ∈ fp, FpOk X pins (upd H2 s2.heap.objs.size (.lst [])) b := fun b hb => by
    obtain ⟨a1, a2⟩ := f2 b hb
    refine ⟨?_, a2⟩
    obtain ⟨o, ho, _⟩ := T.obj 0 _ st2 b hb
    rw [upd_ne (Nat.ne_of_lt (Heap.lt_size ho))]
    exact a1
  have lt3 : ∀ b ∈ fp, b < s2.heap.objs.size := fun b hb => by
    obtain ⟨o, ho, _⟩ := T.obj 0 _ st2 b hb
    exact Heap.lt_size ho
  revert hns hsb
  generalize hs3 : ({ s2 with heap := s2.heap.push { cls := .type "list", data := .seq ([] : List Value).toArray }, toks := s2.toks } : Shared) = s3 at I3
  intro hns hsb
  have e3h : s3.heap = s2.heap.push { cls := .type "list", data := .seq ([] : List Value).toArray } := by rw [← hs3]
  have e3 : s3.heap.objs.size = s2.heap.objs.size + 1 := by rw [e3h, Heap.size_push]
  have k23 : ∀ b o, s2.heap.get? b = some o → s3.heap.get? b = some o := fun b o e => by rw [e3h]; exact Heap.get?_push_of_some _ e
  have k34 : ∀ b o, s3.heap.get? b = some o → h₁.get? b = some o := fun b o e => hsb.extBut b o (Nat.ne_of_lt (Heap.lt_size e)) (Heap.get?_push_of_some _ e)
  have hnsC : h₁.Ns s3.heap.objs.size (fun x => ([] : List (Str × Value)).reverse.lookup x) := hns
  have I4 := blk_inv (fp := fp) (tk := s3.toks + ([] : List (Str × Value)).length) I3 c hcl hcl2 (fun b hb => ⟨by rw [e3]; exact Nat.lt_succ_of_lt (lt3 b hb), (fp3 b hb).2.1, (fp3 b hb).2.2.1, (fp3 b hb).2.2.2.1, (fp3 b hb).2.2.2.2.1⟩) hnsC k34
  have loop : ∀ s4 : Shared, s4 = { s3 with heap := h₁, toks := s3.toks + ([] : List (Str × Value)).length } →
      codeAny (model X.prog X.w) X.A (.compLoop (.ListComp elt [⟨tg, iter, ifs, 0⟩] scope pos) 0 (.ref it) (.ref s2.heap.objs.size) (compEnvC scope cl s3.heap.objs.size X.env))
        (compPost (model X.prog X.w) X.A X.xe use Q' (.ref s2.heap.objs.size) s3.heap.objs.size) s4 := by
    rintro s4 rfl
    refine comp_loop (fun m s => ∃ i σ2 H2', Inv (blk X N scope cl s3.heap.objs.size s3 (upd H2 s2.heap.objs.size (.lst [])) fp) [] σ2 H2' s ∧ tn i s.heap ∧ (∀ b ∈ fp, H2' b = none) ∧ W i m σ2 H2') ?_ m0
      ⟨0, capV cap σ, _, I4, T.keep _ _ _ st2 fun b hb o e => k34 b o (k23 b o e), fun b hb => (fp3 b hb).1, w0⟩
    rintro k s5 ⟨i, σ5, H5, I5, st5, fr5, w5⟩
    have fok : ∀ {H' : Hp} {ps : List (Addr × Obj)}, (∀ b ∈ fp, H' b = none) → (∀ p ∈ ps, ∀ b ∈ fp, p.1 ≠ b) → ∀ b ∈ fp, FpOk (blk X N scope cl s3.heap.objs.size s3 (upd H2 s2.heap.objs.size (.lst [])) fp) ps H' b := fun {H' ps} hn hp b hb =>
      ⟨hn b hb, (fun z => by have q := lt3 b hb; have z' : b = s3.heap.objs.size := z; rw [z', e3] at q; exact absurd q (Nat.not_lt.mpr (Nat.le_succ _))), I5.ok.exfs b hb, .inl hb, fun x d hd => (fp3 b hb).2.2.2.2.1 x d (hcl x d hd).1, fun p hp' => hp p (by simpa [blk] using hp') b hb⟩
    rcases turn i k σ5 H5 w5 with ⟨stop, qn⟩ | ⟨go, step⟩
    · refine wpAny_mono (T.done (blk X N scope cl s3.heap.objs.size s3 (upd H2 s2.heap.objs.size (.lst [])) fp) rfl rfl rfl hc i [] s5 σ5 H5 _ I5 (fok fr5 (fun _ z => nomatch z)) st5 stop) (fun r s6 hr => ?_) fun _ _ z => z
      obtain ⟨rfl, I6⟩ := hr
      exact fin s3 s6 _ H5 fp σ5 cl _ I3 fp3 I6 qn
    · refine wpAny_mono (T.item (blk X N scope cl s3.heap.objs.size s3 (upd H2 s2.heap.objs.size (.lst [])) fp) rfl rfl rfl hc i [] s5 σ5 H5 _ I5 (fok fr5 (fun _ z => nomatch z)) st5 go) (fun r s6 hr => ?_) fun _ _ z => z
      obtain ⟨u, rfl, h6⟩ := hr
      refine wpAny_mono h6 (fun _ s7 ⟨x, H7, I7, rx, y7, st7, fr7⟩ => ?_) fun _ _ z => z
      have I7' := I7.pinned (fok fr7 (fun _ z => nomatch z)) (T.obj _ _ st7)
      have back : ∀ {σ8 : L2.St} {H8 : Hp} {s8 : Shared}, Inv (blk X N scope cl s3.heap.objs.size s3 (upd H2 s2.heap.objs.size (.lst [])) fp) ([] ++ pinsAt fp s7.heap) σ8 H8 s8 →
          Inv (blk X N scope cl s3.heap.objs.size s3 (upd H2 s2.heap.objs.size (.lst [])) fp) [] σ8 H8 s8 ∧ tn (i + 1) s8.heap ∧ ∀ b ∈ fp, H8 b = none := fun {σ8 H8 s8} I8 => by
        refine ⟨I8.unpinned, T.keep _ _ _ st7 fun b hb o e => (I8.pin (b, o) (List.mem_append_right _ (List.mem_append_right _ (mem_pinsAt hb e)))).1, fun b hb => ?_⟩
        obtain ⟨o, e, d⟩ := T.obj _ _ st7 b hb
        exact (I8.pin (b, o) (List.mem_append_right _ (List.mem_append_right _ (mem_pinsAt hb e)))).2.1
      refine thn (hg cl _ _ _ fp _ s7 σ5 H7 x u _ I7' rx (step x H7 y7)) fun _ s8 ⟨σ8, H8, I8, q8⟩ => ?_
      refine thn (ht cl _ _ _ fp _ s8 σ8 H8 _ I8 q8) fun ok s9 ⟨H9, I9, q9⟩ => ?_
      cases ok with
      | false =>
        obtain ⟨m', hm, w9⟩ := q9
        obtain ⟨a1, a2, a3⟩ := back I9
        exact ⟨m', hm, i + 1, σ8, H9, a1, a2, a3, w9⟩
      | true =>
        refine thn (he cl _ _ _ fp _ s9 σ8 H9 _ I9 q9) fun y s10 ⟨v10, H10, I10, r10, xs, hx, hz, m', hm, w10⟩ => ?_
        refine thn (mt_append (X := blk X N scope cl s3.heap.objs.size s3 (upd H2 s2.heap.objs.size (.lst [])) fp) _ s10 σ8 H10 (.ref s2.heap.objs.size) [v10] (.ref s2.heap.objs.size) [y] (fun _ H' => W (i + 1) m' σ8 H') I10 rfl (.cons r10 .nil) ⟨_, xs, _, rfl, rfl, hx, hz, w10⟩) fun _ s11 ⟨_, H11, I11, _, w11⟩ => ?_
        obtain ⟨a1, a2, a3⟩ := back I11
        exact ⟨m', hm, i + 1, σ8, H11, a1, a2, a3, w11⟩
  exact codeAny_compStart_list (loop _ rfl) (T.self _ 0 _ _ _ (T.keep _ _ _ st2 fun b hb o e => k34 b o (k23 b o e)) (loop _ rfl))
theorem pe_comp (hc : X.calm = true) (c : Cap X N cap scope) (hi : PI X tg iter wi) (hg : ∀ cl C s₀ H₀ ex, PG (blk X N scope cl C s₀ H₀ ex) tg g) (ht : ∀ cl C s₀ H₀ ex, PF (blk X N scope cl C s₀ H₀ ex) ifs tc)
    (he : ∀ cl C s₀ H₀ ex, PE (blk X N scope cl C s₀ H₀ ex) elt te) (hs : ∀ x, foldedSetIterable iter X.env x = pure x := by intro _; rfl) : PE X (.ListComp elt [⟨tg, iter, ifs, 0⟩] scope pos) (tComp wi cap g tc te) := by
  intro pins s σ H Q I h
  rw [eval_ListComp]
  refine comp_core hc c hi hg ht he hs I h fun s3 s6 H3 H6 fp σ6 cl D I3 fp3 I6 q => ?_
  obtain ⟨m6, hn6, _⟩ := I6.loc
  exact ⟨m6, hn6, fun h' sb => ⟨.ref D, H6, blk_out I3 I6 sb fp3, rfl, q⟩⟩
/-- x = [..], x a local name -/
theorem ps_comp {i : Nat} {x : Str} {pos' pos2 : Pos} (hN : X.N.Nodup) (hi' : X.N[i]? = some x) (hx : X.env.scope.names.lookup x = some .local) (hsw : swapsWith (.ListComp elt [⟨tg, iter, ifs, 0⟩] scope pos) (some (.Name x pos')) pos2.line X.env = pure true)
    (hc : X.calm = true) (c : Cap X N cap scope) (hi : PI X tg iter wi) (hg : ∀ cl C s₀ H₀ ex, PG (blk X N scope cl C s₀ H₀ ex) tg g) (ht : ∀ cl C s₀ H₀ ex, PF (blk X N scope cl C s₀ H₀ ex) ifs tc)
    (he : ∀ cl C s₀ H₀ ex, PE (blk X N scope cl C s₀ H₀ ex) elt te) (hs : ∀ x, foldedSetIterable iter X.env x = pure x := by intro _; rfl) :
    PS X (.Assign [.Name x pos'] (.ListComp elt [⟨tg, iter, ifs, 0⟩] scope pos) pos2) (tAsg (tComp wi cap g tc te) (gName i)) := by
  intro pins s σ H D I h
  rw [exec_Assign_Name_used x pos' _ pos2 hsw]
  refine wpAny_bind (wpAny_standAt (wpAny_bind ?_))
  show wpAny (model X.prog X.w) X.A (comprehension (.ListComp elt [⟨tg, iter, ifs, 0⟩] scope pos) scope X.env _ (newList []) false (eval iter X.env) (some (assign (.Name x pos') X.env)) >>= fun _ => pure ()) _ _ s
  refine wpAny_bind (comp_core hc c hi hg ht he hs I h fun s3 s6 H3 H6 fp σ6 cl Dl I3 fp3 I6 q => ?_)
  obtain ⟨m6, hn6, _⟩ := I6.loc
  have hn6' : s6.heap.Ns s3.heap.objs.size m6 := hn6
  have I7 : Inv X pins σ H6 s6 := blk_out (h' := s6.heap) I3 I6 ⟨rfl, fun _ _ => rfl⟩ fp3
  refine wpAny_assign_Name (store_ok2 I7 hN hi' (.inl hx) (v := .ref Dl) rfl (fun s8 I8 h8 => ?_) (.inr hx))
  obtain ⟨a, sb8, ha⟩ := h8
  have fresh : H6 s3.heap.objs.size = none := I6.free
  have neL : s3.heap.objs.size ≠ X.env.locals := Nat.ne_of_gt I3.lt
  have neC : ∀ y d, X.env.cells.lookup y = some d → d ≠ s3.heap.objs.size := fun y d e => by
    obtain ⟨v, o, ho, _⟩ := I3.cell y d e
    exact Nat.ne_of_lt (Heap.lt_size ho)
  have neP : ∀ p ∈ X.pn ++ pins, p.1 ≠ s3.heap.objs.size := fun p hp => Nat.ne_of_lt (Heap.lt_size (I3.pin p hp).1)
  have neA : s3.heap.objs.size ≠ a := by
    rcases ha with z | z
    · rw [z]; exact neL
    · exact Ne.symm (neC x a z)
  refine ⟨m6, hn6'.sameBut sb8 neA, fun h' sb => wpAny_pure (wpAny_pure ⟨_, H6, ?_, q⟩)⟩
  exact I8.turned (t' := s8.toks) (fun b o hb e => (sb.2 b hb).trans e) fresh neL (.inr I3.sz) neC neP
end
end IL

namespace IL
open PySem PySem.Spec PyProof.Rows L2

def capP (cap : List (Option Nat)) (σ : PSt) : PSt := cap.map fun o => o.bind fun i => (σ[i]?).join
/-- no exception leaves a comprehension here -/
def noEx {α : Type} (m : Mo α) : Mo α := fun ph => match m ph with
  | .ok a ph' => .ok a ph'
  | _ => .no
theorem run_noEx {α : Type} {m : Mo α} {ph : PH} {N : α → PH → Prop} {E E' : XC → PH → Prop} (h : (noEx m ph).Run N E) : (m ph).Run N E' := by
  unfold noEx at h
  cases e : m ph with
  | ok a ph' => rw [e] at h; exact h
  | ex x ph' => rw [e] at h; exact h.elim
  | no => rw [e] at h; exact h
def compG (chk : PH → Bool) (g : GM) (c : TM) (e : EM) (L : Nat) : List W → PSt → Mo Unit
  | [], _ => fun ph => if chk ph = true then .ok () ph else .no
  | x :: xs, σ => fun ph => if chk ph = true then bnd (noEx (g x σ)) (fun σ1 => bnd (noEx (c σ1)) fun t => if t = true then bnd (noEx (e σ1)) fun w => bnd (lift (appendW (.ref L) [w])) fun _ => compG chk g c e L xs σ1 else compG chk g c e L xs σ1) ph else .no
def eComp (im : IM) (cap : List (Option Nat)) (g : GM) (c : TM) (e : EM) : EM := fun σ => bnd (im σ) fun r ph => bnd (compG r.2 g c e ph.length r.1 (capP cap σ)) (fun _ => pur (.ref ph.length)) (ph ++ [.lst []])
section
variable {K : PySem.W.Frag} {φ : Nat → Addr} {n : Nat} {H : Hp}
theorem RelS.cap {ws : PSt} {σ : L2.St} (h : RelS K φ n H ws σ) : ∀ (cap : List (Option Nat)), RelS K φ n H (capP cap ws) (capV cap σ)
  | [] => .nil
  | o :: r => by
    have ih := RelS.cap h r
    unfold capP capV at ih ⊢
    rw [List.map_cons, List.map_cons]
    cases o with
    | none => exact .nn ih
    | some i =>
      cases q : ws[i]? with
      | none => simp only [Option.bind_some, q, Option.join_none]; exact .nn ih
      | some o =>
        cases o with
        | none => simp only [Option.bind_some, q, Option.join_some]; exact .nn ih
        | some w =>
          obtain ⟨v, ev, rv⟩ := h.get q
          simp only [Option.bind_some, q, ev, Option.join_some]
          exact .sm rv ih
theorem append_some {L : Nat} {w u : W} {ph ph' : PH} (h : appendW (.ref L) [w] ph = some (u, ph')) : ∃ ws, ph[L]? = some (.lst ws) ∧ ws.length < sizeLine ∧ ph' = ph.set L (.lst (ws ++ [w])) := by
  unfold appendW at h
  simp only at h
  split at h
  · rename_i ws hw
    split at h
    · rename_i hz
      cases h
      exact ⟨ws, hw, hz, rfl⟩
    · cases h
  · cases h
end
/-! the judgements without exceptions, the same in every block -/
def tM0 (K : PySem.W.Frag) (m : EM) : TE := fun σ H Q => ∃ φ ph ws, RelH K φ ph H ∧ RelS K φ ph.length H ws σ ∧ (m ws ph).Run (fun w ph' =>
  ∀ φ' H' v, RelH K φ' ph' H' → Step K φ ph.length H φ' ph'.length H' → RelW K φ' ph'.length H' w v → Q v H') (fun _ _ => False)
def tT0 (K : PySem.W.Frag) (m : TM) : TT := fun σ H Q => ∃ φ ph ws, RelH K φ ph H ∧ RelS K φ ph.length H ws σ ∧ (m ws ph).Run (fun b ph' =>
  ∀ φ' H', RelH K φ' ph' H' → Step K φ ph.length H φ' ph'.length H' → Q b H') (fun _ _ => False)
def tG0 (K : PySem.W.Frag) (g : GM) : TG := fun v σ H Q => ∃ φ ph ws w, RelH K φ ph H ∧ RelS K φ ph.length H ws σ ∧ RelW K φ ph.length H w v ∧ (g w ws ph).Run (fun ws' ph' =>
  ∀ φ' H' σ', RelH K φ' ph' H' → Step K φ ph.length H φ' ph'.length H' → RelS K φ' ph'.length H' ws' σ' → Q σ' H') (fun _ _ => False)
section
variable {X : Cx} {e : Expr}
theorem e0 {m : EM} (h : IE X e m) : PE X e (tM0 X.K m) := PE.imp h fun _ _ _ ⟨φ, ph, ws, a, b, c⟩ => ⟨φ, ph, ws, a, b, c.mono (fun _ _ z => z) fun _ _ z => z.elim⟩
theorem t0 {m : TM} (h : IT X e m) : PT X e (tT0 X.K m) := PT.imp h fun _ _ _ ⟨φ, ph, ws, a, b, c⟩ => ⟨φ, ph, ws, a, b, c.mono (fun _ _ z => z) fun _ _ z => z.elim⟩
theorem g0 {g : GM} (h : IG X e g) : PG X e (tG0 X.K g) := PG.imp h fun _ _ _ _ ⟨φ, ph, ws, w, a, b, r, c⟩ => ⟨φ, ph, ws, w, a, b, r, c.mono (fun _ _ z => z) fun _ _ z => z.elim⟩
end
section
variable {X : Cx} {tg iter elt : Expr} {ifs : List Expr} {scope : Scope} {pos : Pos} {N : List Str} {cap : List (Option Nat)} {im : IM} {g : GM} {c : TM} {e : EM}
theorem comp_imp {σ : L2.St} {H : Hp} {Q : VK} (h : tM X (eComp im cap g c e) σ H Q) : tComp (tI X im) cap (tG0 X.K g) (tT0 X.K c) (tM0 X.K e) σ H Q := by
  obtain ⟨φ, ph, ws, hH, hS, h⟩ := h
  unfold eComp at h
  rw [run_bnd] at h
  refine ⟨φ, ph, ws, hH, hS, h.mono (fun r ph1 h φ1 H1 J hH1 s1 hJ D hD => ?_) fun _ _ z => z⟩
  obtain ⟨items, chk⟩ := r
  rw [run_bnd] at h
  have nl := new_list (ws := []) (vs := []) hH1 .nil hD
  have hl : (ph1 ++ [PO.lst []]).length = ph1.length + 1 := by simp
  rw [hl] at nl
  obtain ⟨hH2, s2, _⟩ := nl
  refine ⟨fun i m σ2 H2 => ∃ φ2 ph2 ws2, m = (items.drop i).length ∧ RelH X.K φ2 ph2 H2 ∧ RelS X.K φ2 ph2.length H2 ws2 σ2 ∧ Step X.K (ext φ1 ph1.length D) (ph1.length + 1) (upd H1 D (.lst [])) φ2 ph2.length H2 ∧
      (compG chk g c e ph1.length (items.drop i) ws2 ph2).Run (fun _ ph' => ∀ φ' H' v, RelH X.K φ' ph' H' → Step X.K φ2 ph2.length H2 φ' ph'.length H' → RelW X.K φ' ph'.length H' (.ref ph1.length) v → Q v H') (fun _ _ => True),
    ⟨_, ext φ1 ph1.length D, ph1 ++ [PO.lst []], capP cap ws, rfl, hH2, ?_, by rw [hl]; exact Step.refl, ?_⟩, ?_⟩
  · rw [hl]
    exact (RelS.cap ((hS.mono s1).mono s2) cap)
  · exact Out.Run.mono h (fun _ ph' k φ' H' v r' st' rv => k φ' H' v r' ((s1.trans s2).trans (by rw [hl] at st'; exact st')) rv) fun _ _ _ => trivial
  rintro i m σ2 H2 ⟨φ2, ph2, ws2, rfl, hr2, hS2, st2, h4⟩
  have hphi : φ2 ph1.length = D := by rw [st2.eq _ (Nat.lt_succ_self _), ext_eq]
  cases hd : items.drop i with
  | nil =>
    rw [hd] at h4
    unfold compG at h4
    split at h4
    · rename_i hc
      have hn : items[i]? = none := by
        have : items.length ≤ i := by simpa using hd
        simpa using this
      refine .inl ⟨(hJ φ2 _ H2 hr2 (s2.trans st2) hc i).2 hn, h4 φ2 H2 _ hr2 Step.refl ?_⟩
      rw [← hphi]
      exact .ref (Nat.lt_of_lt_of_le (Nat.lt_succ_self _) st2.le)
    · exact h4.elim
  | cons x xs =>
    rw [hd] at h4
    unfold compG at h4
    split at h4
    · rename_i hc
      have hx : items[i]? = some x := by
        have := congrArg (fun l => l[0]?) hd
        simpa using this
      have hxs : items.drop (i + 1) = xs := by
        have := congrArg (fun l => l.drop 1) hd
        simpa [List.drop_drop, Nat.add_comm] using this
      obtain ⟨hgo, hy⟩ := (hJ φ2 _ H2 hr2 (s2.trans st2) hc i).1 x hx
      refine .inr ⟨hgo, fun v H3 y => ?_⟩
      obtain ⟨hH3, s3, rv⟩ := hy v H3 y
      rw [run_bnd] at h4
      refine ⟨φ2, ph2, ws2, x, hH3, hS2.mono s3, rv, (run_noEx h4).mono (fun ws5 ph5 h5 φ5 H5 σ5 hH5 s5 hS5 => ?_) fun _ _ z => z⟩
      rw [run_bnd] at h5
      refine ⟨φ5, ph5, ws5, hH5, hS5, (run_noEx h5).mono (fun t ph6 h6 φ6 H6 hH6 s6 => ?_) fun _ _ z => z⟩
      have s26 := (s3.trans s5).trans s6
      have sall := st2.trans s26
      cases t with
      | false =>
        refine iteF ⟨xs.length, by simp, φ6, ph6, ws5, by rw [hxs], hH6, hS5.mono s6, sall, ?_⟩
        rw [hxs]
        exact Out.Run.mono h6 (fun _ ph' k φ' H' v r' st' q => k φ' H' v r' (s26.trans st') q) fun _ _ z => z
      | true =>
        have h6' : (bnd (noEx (e ws5)) (fun w => bnd (lift (appendW (.ref ph1.length) [w])) fun _ => compG chk g c e ph1.length xs ws5) ph6).Run _ _ := h6
        rw [run_bnd] at h6'
        refine iteT ⟨φ6, ph6, ws5, hH6, hS5.mono s6, (run_noEx h6').mono (fun w7 ph7 h7 φ7 H7 v7 hH7 s7 r7 => ?_) fun _ _ z => z⟩
        rw [run_bnd] at h7
        obtain ⟨u8, ph8, e8, h8⟩ := run_lift h7
        obtain ⟨wsL, hL, hz, rfl⟩ := append_some e8
        have s27 := s26.trans s7
        have sall2 := sall.trans s7
        have hphi7 : φ7 ph1.length = D := by rw [sall2.eq _ (Nat.lt_succ_self _), ext_eq]
        obtain ⟨vs, hv, rvs⟩ := hH7.hp _ _ hL
        have hlt : ph1.length < ph7.length := (List.getElem?_eq_some_iff.mp hL).1
        obtain ⟨q1, q2⟩ := put_list hH7 hlt (rvs.append (.cons r7 .nil))
        rw [hphi7] at hv q1 q2
        refine ⟨vs, hv, by rw [← rvs.length]; exact hz, xs.length, by simp, φ7, _, ws5, by rw [hxs], q1, ((hS5.mono s6).mono s7).mono q2, sall2.trans q2, ?_⟩
        rw [hxs]
        exact Out.Run.mono h8 (fun _ ph' k φ' H' v r' st' q => k φ' H' v r' ((s27.trans q2).trans st') q) fun _ _ z => z
    · exact h4.elim
theorem PF.imp {t t' : TT} (h : PF X ifs t) (k : ∀ σ H Q, t' σ H Q → t σ H Q) : PF X ifs t' := fun pins s σ H Q I q => h pins s σ H Q I (k σ H Q q)
def cTrue : TM := fun _ => pur true
theorem if_nil : PF X [] (tT0 X.K cTrue) := PF.imp pf_nil fun σ H Q h => by
  obtain ⟨φ, ph, ws, hH, hS, h⟩ := h
  exact h φ H hH Step.refl
theorem if_one {cd : Expr} (h : IT X cd c) : PF X [cd] (tT0 X.K c) := pf_one (t0 h)
theorem ie_comp (hc : X.calm = true) (cp : Cap X N cap scope) (hi : II X tg iter im) (hg : ∀ cl C s₀ H₀ ex, IG (blk X N scope cl C s₀ H₀ ex) tg g) (ht : ∀ cl C s₀ H₀ ex, PF (blk X N scope cl C s₀ H₀ ex) ifs (tT0 X.K c))
    (he : ∀ cl C s₀ H₀ ex, IE (blk X N scope cl C s₀ H₀ ex) elt e) (hs : ∀ x, foldedSetIterable iter X.env x = pure x := by intro _; rfl) : IE X (.ListComp elt [⟨tg, iter, ifs, 0⟩] scope pos) (eComp im cap g c e) :=
  PE.imp (pe_comp hc cp hi (fun cl C s₀ H₀ ex => g0 (hg cl C s₀ H₀ ex)) ht (fun cl C s₀ H₀ ex => e0 (he cl C s₀ H₀ ex)) hs) fun _ _ _ h => comp_imp h
theorem is_comp {i : Nat} {x : Str} {pos' pos2 : Pos} (hN : X.N.Nodup) (hi' : X.N[i]? = some x) (hx : X.env.scope.names.lookup x = some .local)
    (hc : X.calm = true) (cp : Cap X N cap scope) (hi : II X tg iter im) (hg : ∀ cl C s₀ H₀ ex, IG (blk X N scope cl C s₀ H₀ ex) tg g) (ht : ∀ cl C s₀ H₀ ex, PF (blk X N scope cl C s₀ H₀ ex) ifs (tT0 X.K c))
    (he : ∀ cl C s₀ H₀ ex, IE (blk X N scope cl C s₀ H₀ ex) elt e) (hsw : swapsWith (.ListComp elt [⟨tg, iter, ifs, 0⟩] scope pos) (some (.Name x pos')) pos2.line X.env = pure true := by rfl) (hs : ∀ x, foldedSetIterable iter X.env x = pure x := by intro _; rfl) :
    IS X (.Assign [.Name x pos'] (.ListComp elt [⟨tg, iter, ifs, 0⟩] scope pos) pos2) (sAsg (eComp im cap g c e) (gN i)) :=
  PS.imp (ps_comp hN hi' hx hsw hc cp hi (fun cl C s₀ H₀ ex => g0 (hg cl C s₀ H₀ ex)) ht (fun cl C s₀ H₀ ex => e0 (he cl C s₀ H₀ ex)) hs) fun D σ H h => by
    obtain ⟨φ, ph, ws, hH, hS, h⟩ := h
    unfold sAsg at h
    rw [run_bnd] at h
    exact comp_imp ⟨φ, ph, ws, hH, hS, h.mono (fun w ph1 h φ1 H1 v hH1 s1 r1 => h φ1 H1 hH1 s1 _ ((hS.mono s1).set r1 i)) fun _ _ z => z⟩
end
end IL

namespace IL
open PySem PySem.Spec PyProof.Rows L2

/-! ### 16. Targets that are tuples; stores into a list -/
def gAll : List GM → List W → PSt → Mo PSt
  | [], [], σ => pur σ
  | g :: gs, w :: ws, σ => bnd (g w σ) fun σ' => gAll gs ws σ'
  | _, _, _ => nop
def gT (gs : List GM) : GM := fun w σ => match w with
  | .tup ws => gAll gs ws σ
  | _ => nop
def tGs (X : Cx) (gs : List GM) : TGs := fun vs σ H Q => ∃ φ ph ws xs, RelH X.K φ ph H ∧ RelS X.K φ ph.length H ws σ ∧ RelWs X.K φ ph.length H xs vs ∧ (gAll gs xs ws ph).Run (fun ws' ph' =>
  ∀ φ' H' σ', RelH X.K φ' ph' H' → Step X.K φ ph.length H φ' ph'.length H' → RelS X.K φ' ph'.length H' ws' σ' → Q σ' H') (XE X φ ph.length H)
def gLen (n : Nat) (gs : List GM) : GM := fun w σ => match w with
  | .tup ws => if ws.length = n then gAll gs ws σ else nop
  | _ => nop
section
variable {X : Cx} {tg : Expr} {es : List Expr} {g : GM} {gs : List GM} {pos : Pos}
theorem PGs.imp {t t' : TGs} (h : PGs X es t) (k : ∀ v σ H Q, t' v σ H Q → t v σ H Q) : PGs X es t' := fun pins s σ H v u Q I r q => h pins s σ H v u Q I r (k v σ H Q q)
theorem igs_nil : PGs X [] (tGs X []) := PGs.imp pgs_nil fun vs σ H Q h => by
  obtain ⟨φ, ph, ws, xs, hH, hS, r, h⟩ := h
  cases r with
  | nil => exact ⟨rfl, h φ H σ hH Step.refl hS⟩
  | cons _ _ => exact h.elim
theorem igs_cons {e : Expr} (h1 : IG X e g) (h2 : PGs X es (tGs X gs)) (hs : (assignEach (e :: es) X.env).map (·.2) = assign e X.env :: (assignEach es X.env).map (·.2) := by rfl) : PGs X (e :: es) (tGs X (g :: gs)) :=
  PGs.imp (pgs_cons h1 h2 hs) fun vs σ H Q h => by
    obtain ⟨φ, ph, ws, xs, hH, hS, r, h⟩ := h
    cases r with
    | nil => exact h.elim
    | cons rw' rr =>
      refine ⟨_, _, rfl, tG.bind hH hS rw' h fun ws1 ph1 φ1 H1 σ1 hH1 s1 hS1 h1 => ?_⟩
      exact ⟨φ1, ph1, ws1, _, hH1, hS1, rr.mono s1, h1.mono (fun ws' ph' k φ' H' σ' r' s' q => k φ' H' σ' r' (s1.trans s') q) fun _ _ z => z⟩
theorem ig_tup {k n : Nat} (hc : X.calm = true) (h : PGs X es (tGs X gs)) (hn : (assignEach es X.env).length = n := by rfl) (hst : (assignEach es X.env).findIdx? (·.1) = none := by rfl) : IG X (.Tuple es k pos) (gLen n gs) :=
  PG.imp (pg_tup hc h hn hst) fun v σ H Q h => by
    obtain ⟨φ, ph, ws, w, hH, hS, r, h⟩ := h
    unfold gLen at h
    cases r with
    | tup hq r =>
      simp only at h
      split at h
      · rename_i hl
        exact ⟨_, _, rfl, hq, by rw [← r.length]; exact hl, φ, ph, ws, _, hH, hS, r, h⟩
      · exact h.elim
    | _ => exact h.elim
/-- xs[i] = v -/
def setW (o i v : W) : Po Unit := fun ph => match o, i with
  | .ref r, .int k => match ph[r]? with
    | some (.lst ws) => match ixN ws.length k with
      | some j => some ((), ph.set r (.lst (ws.set j v)))
      | none => none
    | _ => none
  | _, _ => none
def gSubM (o i : EM) : GM := fun v σ => bnd (o σ) fun ow => bnd (i σ) fun iw => bnd (lift (setW ow iw v)) fun _ => pur σ
theorem ig_sub {o i : Expr} {mo mi : EM} (ho : IE X o mo) (hi : IE X i mi) (ha : ∀ v, assign (.Subscript o i pos) X.env v = (do
      let ov ← holding [v] (eval o X.env)
      let iv ← holding [v, ov] (eval i X.env)
      standAt pos
      holding [v, ov, iv] (setItem ov iv v)
      release [v, ov, iv] []) := by intro _; rfl) : IG X (.Subscript o i pos) (gSubM mo mi) :=
  PG.imp (pg_sub ho hi set_list ha) fun v σ H Q h => by
    obtain ⟨φ, ph, ws, w, hH, hS, rv, h⟩ := h
    refine tM.bind hH hS h fun ow ph1 φ1 H1 vo hH1 s1 ro h => tM.bind hH1 (hS.mono s1) h fun iw ph2 φ2 H2 vi hH2 s2 ri h => ?_
    rw [run_bnd] at h
    obtain ⟨_, ph3, e, k⟩ := run_lift h
    have ro' := ro.mono s2
    have rv' := (rv.mono s1).mono s2
    unfold setW at e
    split at e
    · rename_i r k'
      split at e
      · rename_i ws' hw
        split at e
        · rename_i j hj
          cases e
          cases ro' with
          | ref hlt =>
            cases ri
            obtain ⟨us, hu, ru⟩ := hH2.hp _ _ hw
            obtain ⟨q1, q2⟩ := put_list hH2 hlt (ru.set rv' j)
            exact ⟨_, us, _, j, rfl, rfl, hu, by rw [← ru.length]; exact hj, k φ2 _ σ q1 ((s1.trans s2).trans q2) (((hS.mono s1).mono s2).mono q2)⟩
        · cases e
      · cases e
    · cases e
end

/-! ### 17. Slices -/
def cutW (ws : List W) (lo hi : Option Int) : List W := (ws.drop (HT.sIx ws.length 0 lo)).take (HT.sIx ws.length ws.length hi - HT.sIx ws.length 0 lo)
theorem cut_rel {K : PySem.W.Frag} {φ : Nat → Addr} {n : Nat} {H : Hp} {ws : List W} {vs : List V} (r : RelWs K φ n H ws vs) (lo hi : Option Int) : RelWs K φ n H (cutW ws lo hi) (cutV vs lo hi) := by
  unfold cutW cutV
  rw [r.length]
  exact (r.drop _).take _
def slW (w : W) (lo hi : Option Int) : Po W := fun ph => match w with
  | .tup ws => if HT.sIx ws.length 0 lo = 0 ∧ HT.sIx ws.length ws.length hi = ws.length then none else some (.tup (cutW ws lo hi), ph)
  | .fl ws => some (.ref ph.length, ph ++ [.lst (cutW ws lo hi)])
  | .ref i => match ph[i]? with
    | some (.lst ws) => some (.ref ph.length, ph ++ [.lst (cutW ws lo hi)])
    | _ => none
  | _ => none
abbrev OM := PSt → Mo (Option Int)
def oNone : OM := fun _ => pur none
def oSome (m : EM) : OM := fun σ => bnd (m σ) fun w => lift (match w with
  | .int i => ret (some i)
  | _ => nono)
def eSl (m : EM) (lo hi : OM) : EM := fun σ => bnd (m σ) fun w => bnd (lo σ) fun l => bnd (hi σ) fun h => lift (slW w l h)
def tO (X : Cx) (m : OM) : TO := fun σ H Q => ∃ φ ph ws, RelH X.K φ ph H ∧ RelS X.K φ ph.length H ws σ ∧ (m ws ph).Run (fun o ph' =>
  ∀ φ' H', RelH X.K φ' ph' H' → Step X.K φ ph.length H φ' ph'.length H' → Q o H') (XE X φ ph.length H)
abbrev IO' (X : Cx) (e : Option Expr) (m : OM) : Prop := L2.PO X e (tO X m)
abbrev rSl (K : PySem.W.Frag) : V → Option Int → Option Int → Hp → VK → Prop := fun x lo hi H Q => rSlT K x lo hi H Q ∨ rSlL K x lo hi H Q
section
variable {X : Cx} {e : Expr} {lo hi : Option Expr} {m : EM} {ml mh : OM} {pos p2 : Pos}
theorem io_none : IO' X none oNone := fun pins s σ H Q I ⟨φ, ph, ws, hH, hS, h⟩ => po_none pins s σ H Q I (h φ H hH Step.refl)
theorem io_some (he : IE X e m) : IO' X (some e) (oSome m) := fun pins s σ H Q I ⟨φ, ph, ws, hH, hS, h⟩ => po_some he pins s σ H Q I (tM.bind hH hS h fun w ph1 φ1 H1 v hH1 s1 r1 h => by
  obtain ⟨o, ph', e, k⟩ := run_lift h
  split at e
  · cases e; cases r1; exact ⟨_, rfl, k φ1 H1 hH1 s1⟩
  · cases e)
theorem tO.bind {β : Type} {m : OM} {σ : L2.St} {H : Hp} {Q : Option Int → Hp → Prop} {φ : Nat → Addr} {ph : PH} {ws : PSt} {f : Option Int → Mo β} {N : β → PH → Prop} (hH : RelH X.K φ ph H) (hS : RelS X.K φ ph.length H ws σ) (h : (bnd (m ws) f ph).Run N (XE X φ ph.length H))
    (k : ∀ b ph1 φ1 H1, RelH X.K φ1 ph1 H1 → Step X.K φ ph.length H φ1 ph1.length H1 → (f b ph1).Run N (XE X φ1 ph1.length H1) → Q b H1) : tO X m σ H Q := by
  rw [run_bnd] at h
  exact ⟨φ, ph, ws, hH, hS, h.mono (fun b ph1 h1 φ1 H1 hH1 s1 => k b ph1 φ1 H1 hH1 s1 (h1.mono (fun _ _ z => z) fun _ _ z => z.step s1)) fun _ _ z => z⟩
theorem ie_sl (he : IE X e m) (hl : IO' X lo ml) (hh : IO' X hi mh) : IE X (.Subscript e (.Slice lo hi none p2) pos) (eSl m ml mh) :=
  PE.imp (pe_slice (SlR.or sl_tup sl_list) he hl hh) fun σ H Q h => by
    obtain ⟨φ, ph, ws, hH, hS, h⟩ := h
    refine tM.bind hH hS h fun w ph1 φ1 H1 v hH1 s1 r1 h => tO.bind hH1 (hS.mono s1) h fun l ph2 φ2 H2 hH2 s2 h => tO.bind hH2 ((hS.mono s1).mono s2) h fun u ph3 φ3 H3 hH3 s3 h => ?_
    obtain ⟨w', ph', e, k⟩ := run_lift h
    have r3 := (r1.mono s2).mono s3
    have s13 := (s1.trans s2).trans s3
    unfold slW at e
    cases r3 with
    | tup hq r =>
      simp only at e
      split at e
      · cases e
      · rename_i hw
        cases e
        refine .inl ⟨_, _, rfl, hq, by rw [← r.length]; exact hw, fun p hp => ?_⟩
        exact k φ3 _ _ (hH3.tup hp) (s13.trans (step_tup hp)) (.tup (SqT.of upd_same) ((cut_rel r l u).mono (step_tup hp)))
    | fl hq r =>
      cases e
      refine .inr ⟨_, _, rfl, hq.sq, fun p hp => ?_⟩
      obtain ⟨q1, q2, q3⟩ := new_list hH3 (cut_rel r l u) hp
      exact k _ _ _ q1 (s13.trans q2) q3
    | ref hi' =>
      simp only at e
      split at e
      · rename_i ws' hw
        cases e
        obtain ⟨vs, hv, r⟩ := hH3.hp _ _ hw
        refine .inr ⟨_, _, rfl, SqL.of hv, fun p hp => ?_⟩
        obtain ⟨q1, q2, q3⟩ := new_list hH3 (cut_rel r l u) hp
        exact k _ _ _ q1 (s13.trans q2) q3
      · cases e
    | _ => cases e
end

/-! ### 18. list(..), tuple(..), min, max of two ints; chains -/
def listW : List W → Po W := fun xs ph => match xs with
  | [w] => match seqW w ph with
    | some ws => some (.ref ph.length, ph ++ [.lst ws])
    | none => none
  | _ => none
theorem listW_i {K : PySem.W.Frag} : CallI K (fun xs H Q => ∃ p ys, xs = [.ref p] ∧ (SqL K H p ys ∨ SqT K H p ys) ∧ ∀ l, H l = none → Q (.ref l) (upd H l (.lst ys))) listW := by
  intro φ ph H xs vs w ph' Q hH r e k
  unfold listW at e
  split at e
  · split at e
    · rename_i w0 ws hw
      cases e
      cases r with
      | cons r r' =>
        cases r'
        obtain ⟨a, ys, rfl, hs, rs⟩ := seqW_rel hH r hw
        refine ⟨a, ys, rfl, hs, fun l hl => ?_⟩
        obtain ⟨q1, q2, q3⟩ := new_list hH rs hl
        exact k _ _ _ q1 q2 q3
    · cases e
  · cases e
def tupleW : List W → Po W := fun xs ph => match xs with
  | [w] => match seqW w ph with
    | some ws => some (.tup ws, ph)
    | none => none
  | _ => none
theorem tupleW_i {K : PySem.W.Frag} : CallI K (fun xs H Q => ∃ p ys, xs = [.ref p] ∧ ((SqL K H p ys ∧ ∀ l, H l = none → Q (.ref l) (upd H l (.tup ys))) ∨ (SqT K H p ys ∧ Q (.ref p) H))) tupleW := by
  intro φ ph H xs vs w ph' Q hH r e k
  unfold tupleW at e
  split at e
  · split at e
    · rename_i w0 ws hw
      cases e
      cases r with
      | cons r r' =>
        cases r'
        obtain ⟨a, ys, rfl, hs, rs⟩ := seqW_rel hH r hw
        refine ⟨a, ys, rfl, ?_⟩
        rcases hs with hs | hs
        · exact .inl ⟨hs, fun l hl => k φ _ _ (hH.tup hl) (step_tup hl) (.tup (SqT.of upd_same) (rs.mono (step_tup hl)))⟩
        · exact .inr ⟨hs, k φ H _ hH Step.refl (.tup hs rs)⟩
    · cases e
  · cases e
def max2W : List W → Po W := fun xs => match xs with
  | [.int i, .int j] => ret (.int (if j > i then j else i))
  | _ => nono
def min2W : List W → Po W := fun xs => match xs with
  | [.int i, .int j] => ret (.int (if j < i then j else i))
  | _ => nono
theorem max2W_i {K : PySem.W.Frag} : CallI K (fun xs H Q => ∃ i j, xs = [.int i, .int j] ∧ Q (.int (if j > i then j else i)) H) max2W := by
  intro φ ph H xs vs w ph' Q hH r e k
  unfold max2W at e
  split at e
  · cases e
    cases r with
    | cons r r' =>
      cases r
      cases r' with
      | cons r r' => cases r; cases r'; exact ⟨_, _, rfl, k φ H _ hH Step.refl (.int _)⟩
  · cases e
theorem min2W_i {K : PySem.W.Frag} : CallI K (fun xs H Q => ∃ i j, xs = [.int i, .int j] ∧ Q (.int (if j < i then j else i)) H) min2W := by
  intro φ ph H xs vs w ph' Q hH r e k
  unfold min2W at e
  split at e
  · cases e
    cases r with
    | cons r r' =>
      cases r
      cases r' with
      | cons r r' => cases r; cases r'; exact ⟨_, _, rfl, k φ H _ hH Step.refl (.int _)⟩
  · cases e
/-- a op b op' c -/
def eChain (f f' : W → W → Po W) (a b c : EM) : EM := fun σ => bnd (a σ) fun x => bnd (b σ) fun y => bnd (lift (f x y)) fun z => match z with
  | .bl k => if k = true then bnd (c σ) fun u => lift (f' y u) else pur (.bl false)
  | _ => nop
/-- an operation that lays nothing and answers a bool -/
def BoolOp2 (f : W → W → Po W) : Prop := ∀ x y ph w ph', f x y ph = some (w, ph') → ph' = ph ∧ ∃ b, w = .bl b
section
variable {X : Cx} {a b c : Expr} {ma mb mc : EM} {pos : Pos} {op op' : CmpOp} {r r' : R2} {f f' : W → W → Po W}
theorem chain_imp (hi : OpI X.K r f) (hi' : OpI X.K r' f') {σ : L2.St} {H : Hp} {Q : VK} (h : tM X (eChain f f' ma mb mc) σ H Q) : tChain r r' (tM X ma) (tM X mb) (tM X mc) σ H Q := by
  obtain ⟨φ, ph, ws, hH, hS, h⟩ := h
  refine tM.bind hH hS h fun x ph1 φ1 H1 vx hH1 s1 rx h => tM.bind hH1 (hS.mono s1) h fun y ph2 φ2 H2 vy hH2 s2 ry h => ?_
  rw [run_bnd] at h
  obtain ⟨z, ph3, e, h⟩ := run_lift h
  refine hi hH2 (rx.mono s2) ry e fun φ3 H3 vz hH3 s3 rz => ?_
  have hS3 := ((hS.mono s1).mono s2).mono s3
  cases rz with
  | bl k =>
    refine ⟨k, rfl, ?_⟩
    cases k with
    | false => exact iteF (h φ3 H3 _ hH3 ((s1.trans s2).trans s3) (.bl false))
    | true =>
      have h' : (bnd (mc ws) (fun u => lift (f' y u)) ph3).Run (fun w ph' => ∀ φ' H' v, RelH X.K φ' ph' H' → Step X.K φ ph.length H φ' ph'.length H' → RelW X.K φ' ph'.length H' w v → Q v H') (XE X φ3 ph3.length H3) := Out.Run.mono h (fun _ _ z => z) fun _ _ z => z.step s3
      refine iteT (tM.bind hH3 hS3 h' fun u ph4 φ4 H4 vu hH4 s4 ru h => ?_)
      obtain ⟨w, ph', e', k'⟩ := run_lift h
      exact hi' hH4 ((ry.mono s3).mono s4) ru e' fun φ5 H5 v hH5 s5 r5 => k' φ5 H5 v hH5 ((((s1.trans s2).trans s3).trans s4).trans s5) r5
  | _ => exact h.elim
theorem ie_chain (ho : OpR X (compareOp op) r) (hi : OpI X.K r f) (ho' : OpR X (compareOp op') r') (hi' : OpI X.K r' f') (ha : IE X a ma) (hb : IE X b mb) (hc : IE X c mc) (hm : lastMarks [op, op'] [b, c] = false := by with_unfolding_all rfl) :
    IE X (.Compare a [op, op'] [b, c] pos) (eChain f f' ma mb mc) := PE.imp (pe_chain ho ho' ha hb hc hm) fun _ _ _ h => chain_imp hi hi' h
theorem it_chain (ho : OpR X (compareOp op) r) (hi : OpI X.K r f) (ho' : OpR X (compareOp op') r') (hi' : OpI X.K r' f') (ha : IE X a ma) (hb : IE X b mb) (hc : IE X c mc) (hm : lastMarks [op, op'] [b, c] = false := by with_unfolding_all rfl) :
    IT X (.Compare a [op, op'] [b, c] pos) (eT (eChain f f' ma mb mc)) := PT.imp (pt_chain ho ho' ha hb hc hm) fun σ H Q h => by
  obtain ⟨φ, ph, ws, hH, hS, h⟩ := h
  refine chain_imp hi hi' (tM.bind hH hS h fun x ph1 φ1 H1 vx hH1 s1 rx h => ?_)
  obtain ⟨w, ph', e, k⟩ := run_lift h
  split at e
  · cases e
    cases rx
    exact ⟨_, rfl, k φ1 H1 hH1 s1⟩
  · cases e
end
end IL

namespace IL
open PySem PySem.Spec PyProof.Rows L2

/-! ### 19. What a body's context is known to be: the terms of a def speak of X alone -/
structure BdL (X : Cx) (N : List Str) (sc : Scope) : Prop where
  hN : X.N = N
  vis : ∀ x, Vis sc x → Vis X.env.scope x
  loc : ∀ x, Loc sc x → Loc X.env.scope x
  gl : ∀ x, sc.names.lookup x = some .globalImplicit → Gl X x
  fn : ∀ x, Loc sc x → X.fn x = true ∨ X.env.scope.names.lookup x = some .local
  nd : N.Nodup
/-- also within a try, not within an except suite -/
structure BdT (X : Cx) (N : List Str) (sc : Scope) (k : Nat) : Prop extends BdL X N sc where
  calm : X.calm = true
  room : Room k X.A
structure Bd (X : Cx) (N : List Str) (sc : Scope) (k : Nat) : Prop extends BdT X N sc k where
  pass : PassesOwn (model X.prog X.w) X.A X.env X.xe
section
variable {X : Cx} {N : List Str} {sc : Scope} {k : Nat} {pos : Pos}
theorem BdL.var (B : BdL X N sc) (i : Nat) {x : Str} (hN : N[i]? = some x) (hv : Vis sc x) (hd : (x == ("__debug__" : Str)) = false) (hcd : (x == ("__classdict__" : Str)) = false) : IE X (.Name x pos) (eVar i) :=
  ie_var i (hN := by rw [B.hN]; exact hN) (hv := B.vis x hv) (hd := hd) (hcd := hcd)
theorem BdL.name (B : BdL X N sc) (i : Nat) {x : Str} (hN : N[i]? = some x) (hl : Loc sc x) : IG X (.Name x pos) (gN i) :=
  ig_name (by rw [B.hN]; exact B.nd) (by rw [B.hN]; exact hN) (B.loc x hl) (B.fn x hl)
theorem BdL.set (B : BdL X N sc) (i : Nat) {x : Str} {e : Expr} {m : EM} {pos' : Pos} (hN : N[i]? = some x) (hl : Loc sc x) (he : IE X e m) (hs : swapsWith e (some (.Name x pos')) pos.line X.env = pure false := by rfl) : IS X (.Assign [.Name x pos'] e pos) (sAsg m (gN i)) :=
  is_set (by rw [B.hN]; exact B.nd) (by rw [B.hN]; exact hN) (B.loc x hl) he hs (B.fn x hl)
theorem Bd.for_ (B : Bd X N sc k) {iter tg : Expr} {im : IM} {g : GM} {b : SM} {body : List Stmt} (hi : II X tg iter im) (hg : IG X tg g) (hb : ISs X body b) (hs : ∀ x, foldedSetIterable iter X.env x = pure x := by intro _; rfl) : IS X (.For tg iter body [] pos) (sFor im g b) :=
  is_for B.pass B.calm hi hg hb hs
theorem Bd.while_ (B : Bd X N sc k) {c : Expr} {t : TM} {b : SM} {body : List Stmt} (hc : IT X c t) (hb : ISs X body b) : IS X (.While c body [] pos) (sWhile t b) := is_while B.pass hc hb
theorem lookup_relabel_glob {env : Env} {x : Str} : ∀ {names : List (Str × NameKind)}, names.lookup x = some .globalImplicit →
    (names.map fun (n, k) => if (k == NameKind.free && env.scope.kind == .function && env.kindOf n == some .cell) then (n, NameKind.cell) else (n, k)).lookup x = some .globalImplicit
  | [], h => by cases h
  | (n, k) :: r, h => by
    show List.lookup x ((if (k == NameKind.free && env.scope.kind == .function && env.kindOf n == some .cell) = true then (n, NameKind.cell) else (n, k)) :: _) = _
    rw [List.lookup_cons] at h
    cases q : x == n with
    | true =>
      rw [q] at h
      cases h
      have hno : ¬ ((NameKind.globalImplicit == NameKind.free && env.scope.kind == .function && env.kindOf n == some .cell) = true) := by
        rw [show (NameKind.globalImplicit == NameKind.free) = false from rfl, Bool.false_and, Bool.false_and]
        exact Bool.false_ne_true
      rw [if_neg hno, List.lookup_cons, q]
    | false =>
      rw [q] at h
      have ih := lookup_relabel_glob (env := env) h
      split
      · rw [List.lookup_cons, q]; exact ih
      · rw [List.lookup_cons, q]; exact ih
/-- the block of a comprehension -/
theorem Bd.blk (B : Bd X N sc k) {N' : List Str} {scope : Scope} {cl : List (Str × Addr)} {C : Addr} {s₀ : Shared} {H₀ : Hp} {ex : List Addr} (hc : ∀ y ∈ scope.names, y.2 ≠ .cell) (nd : N'.Nodup) : Bd (blk X N' scope cl C s₀ H₀ ex) N' scope k where
  hN := rfl
  vis := fun x h => by
    rcases h with h | h | h
    · exact .inl (lookup_relabel_local (env := X.env) h)
    · exact absurd rfl (hc _ (mem_lookup h))
    · exact .inr (lookup_relabel_free (env := X.env) h)
  loc := fun x h => by
    rcases h with h | h
    · exact .inl (lookup_relabel_local (env := X.env) h)
    · exact absurd rfl (hc _ (mem_lookup h))
  gl := fun x h => lookup_relabel_glob (env := X.env) h
  calm := B.calm
  room := B.room
  fn := fun x h => by
    rcases h with h | h
    · exact .inr (lookup_relabel_local (env := X.env) h)
    · exact absurd rfl (hc _ (mem_lookup h))
  pass := PassesOwn.never
  nd := nd
/-- how a block's names are captured, by lists that can be looked at -/
def capOk (sc scope : Scope) (N N' : List Str) (cap : List (Option Nat)) : Bool :=
  cap.length == N'.length && (List.range N'.length).all (fun i => match cap[i]? with
    | some (some j) => (match N'[i]? with
      | some x => N[j]? == some x && scope.names.lookup x == some .free && (sc.names.lookup x == some .cell || sc.names.lookup x == some .free)
      | none => false)
    | _ => true) && scope.names.all (fun y => y.2 != .cell && (y.2 != .free || sc.names.lookup y.1 == some .cell || sc.names.lookup y.1 == some .free) && (y.2 != .local || scope.names.lookup y.1 == some .local)) && scope.kind == .function
theorem Bd.cap (hN : X.N = N) (hsc : X.env.scope = sc) {N' : List Str} {scope : Scope} {cap : List (Option Nat)} (h : capOk sc scope N N' cap = true) : Cap X N' cap scope := by
  unfold capOk at h
  simp only [Bool.and_eq_true, List.all_eq_true, beq_iff_eq, bne_iff_ne, Bool.or_eq_true, ne_eq] at h
  obtain ⟨⟨⟨h1, h2⟩, h3⟩, h4⟩ := h
  have hk : ∀ x, X.env.kindOf x = sc.names.lookup x := fun x => by unfold Env.kindOf; rw [hsc]
  refine ⟨h1, fun i j x e1 e2 => ?_, fun y hy hf => ?_, fun y hy => (h3 y hy).1.1, h4, fun y hy hl => ?_⟩
  · have hi : i < N'.length := (List.getElem?_eq_some_iff.mp e1).1
    have := h2 i (List.mem_range.mpr hi)
    rw [e2, e1] at this
    simp only [Bool.and_eq_true, beq_iff_eq, Bool.or_eq_true] at this
    obtain ⟨⟨a1, a2⟩, a3⟩ := this
    rw [hN, hk]
    exact ⟨a1, a2, a3⟩
  · rw [hk]
    rcases (h3 y hy).1.2 with (z | z) | z
    · exact absurd hf z
    · exact .inl z
    · exact .inr z
  · rcases (h3 y hy).2 with z | z
    · exact absurd hl z
    · exact z
end
end IL

namespace IL
open PySem PySem.Spec PyProof.Rows L2

/-! ### 20. Arguments without a star, by a look at their heads -/
def isStar : Expr → Bool
  | .Starred .. => true
  | _ => false
theorem star_cons {e : Expr} {es : List Expr} {env : Env} (h : isStar e = false) : starEach (e :: es) env = (false, eval e env) :: starEach es env := by
  cases e <;> first | rfl | cases h
def noStars (es : List Expr) : Bool := es.all fun e => !isStar e
theorem any_none {env : Env} {pos : Pos} : ∀ {es : List Expr}, noStars es = true → (backTo pos (starEach es env)).any (·.1) = false
  | [], _ => rfl
  | e :: es, h => by
    unfold noStars at h
    rw [List.all_cons, Bool.and_eq_true] at h
    have h1 : isStar e = false := by simpa using h.1
    rw [star_cons h1]
    show (false || (backTo pos (starEach es env)).any (·.1)) = false
    rw [any_none (es := es) h.2]
    rfl
theorem all_none {env : Env} {pos : Pos} : ∀ {es : List Expr}, noStars es = true → (backTo pos (starEach es env)).all (fun x => !x.1) = true
  | [], _ => rfl
  | e :: es, h => by
    unfold noStars at h
    rw [List.all_cons, Bool.and_eq_true] at h
    have h1 : isStar e = false := by simpa using h.1
    rw [star_cons h1]
    show (!false && (backTo pos (starEach es env)).all (fun x => !x.1)) = true
    rw [all_none (es := es) h.2]
    rfl
section
variable {X : Cx} {e : Expr} {es : List Expr} {m : EM} {a : AM} {pos : Pos}
theorem ia_c (h : isStar e = false) (he : IE X e m) (hr : IA X es a) : IA X (e :: es) (aCons m a) := ia_cons he hr (star_cons h)
end
section
variable {X : Cx} {k : Nat} {f : Addr} {fd : FuncData} {ps : List Str} {fm : List W → Mo W} {x : Str} {p pos : Pos} {e : Expr} {es : List Expr} {a : AM}
theorem ie_cal (hn : noStars (e :: es) = true) (hdb : (x == ("__debug__" : Str)) = false) (F : FnOk X.prog X.w X.K X.mg X.base (CXW X.prog X.w) k f fd ps (spM X.K X.mg ps.length fm)) (hl : ∀ {xs : List W} {ph : PH}, xs.length ≠ ps.length → fm xs ph = .no) (hr : Room k X.A) (hg : Gl X x) (hm : X.mg x = some (.ref f))
    (hk : PySem.W.keepIn X.K (.ref f) = true) (hb : Binds X.K fd ps []) (ha : IA X (e :: es) a) : IE X (.Call (.Name x p) (e :: es) [] pos) (eCall fm a) := by
  unfold noStars at hn
  rw [List.all_cons, Bool.and_eq_true] at hn
  exact ie_call F hl hr hg hm hk hb ha hdb (star_cons (by simpa using hn.1)) (any_none hn.2)
variable {t : AM} {id T : String} {r : List V → Hp → VK → Prop} {fp : List W → Po W}
theorem ie_blt (hns : noStars (e :: es) = true) (hn : x ≠ "__name__") (hdb : (x == ("__debug__" : Str)) = false) (hc : CallR X (.builtin id) r) (hi : CallI X.K r fp) (hg : Gl X x) (hm : X.mg x = none) (hv : bootBuiltins x = some (.builtin id)) (ha : IA X (e :: es) t) : IE X (.Call (.Name x p) (e :: es) [] pos) (eCallB fp t) := by
  unfold noStars at hns
  rw [List.all_cons, Bool.and_eq_true] at hns
  exact ie_callB hc hi hg hm hv ha hn hdb (star_cons (by simpa using hns.1)) (any_none hns.2)
theorem ie_typ (hns : noStars (e :: es) = true) (hn : x ≠ "__name__") (hdb : (x == ("__debug__" : Str)) = false) (hc : CallR X (.type T) r) (hi : CallI X.K r fp) (hg : Gl X x) (hm : X.mg x = none) (hv : bootBuiltins x = some (.type T)) (ha : IA X (e :: es) t) : IE X (.Call (.Name x p) (e :: es) [] pos) (eCallB fp t) := by
  unfold noStars at hns
  rw [List.all_cons, Bool.and_eq_true] at hns
  exact ie_callTy hc hi hg hm hv ha hn hdb (star_cons (by simpa using hns.1)) (any_none hns.2)
end
section
variable {X : Cx} {o e : Expr} {es : List Expr} {mo : EM} {t : AM} {name : Str} {apos cpos : Pos} {T id : String} {r : V → List V → Hp → VK → Prop} {ty : W → PH → Bool} {f : W → List W → Po W}
theorem ie_mth (hns : noStars (e :: es) = true) (hlen : decide ((e :: es).length < 30) = true) (pa : PlainAttrs T) (slot : Slot T name id) (hty : typeOf (.builtin id) = pure (.type "method_descriptor")) (hm : MtR X id r) (ht : TyI X.K T ty) (hi : MtI X.K T r f) (ho : IE X o mo) (ha : IA X (e :: es) t)
    (hbase : attributeBase o name X.env (eval o X.env) = eval o X.env := by rfl) (hline : (apos.endLine == cpos.line) = true := by rfl) : IE X (.Call (.Attribute o name apos) (e :: es) [] cpos) (eMeth ty f mo t) := by
  have hall := all_none (env := X.env) (pos := cpos) hns
  unfold noStars at hns
  rw [List.all_cons, Bool.and_eq_true] at hns
  refine ie_bm pa slot hty hm ht hi ho ha hbase ?_ hline (star_cons (by simpa using hns.1)) (any_none hns.2)
  rw [hall, show (backToKw cpos (keywordEach [] X.env)).all (fun x => x.1.isSome) = true from rfl]
  simpa using hlen
end
end IL

namespace IL
open PySem PySem.Spec PyProof.Rows L2

/-! ### 21. The judgements closed up (the elaborator looks into an open one at each step) -/
structure JE (X : Cx) (e : Expr) (m : EM) : Prop where
  h : IE X e m
structure JT (X : Cx) (e : Expr) (m : TM) : Prop where
  h : IT X e m
structure JW (X : Cx) (e : Expr) (m : TM) : Prop where
  h : PW X e (tT X m)
structure JA (X : Cx) (es : List Expr) (m : AM) : Prop where
  h : IA X es m
structure JS (X : Cx) (st : Stmt) (m : SM) : Prop where
  h : IS X st m
structure JB (X : Cx) (st : List Stmt) (m : SM) : Prop where
  h : ISs X st m
structure JG (X : Cx) (e : Expr) (g : GM) : Prop where
  h : IG X e g
structure JGs (X : Cx) (es : List Expr) (gs : List GM) : Prop where
  h : PGs X es (tGs X gs)
structure JI (X : Cx) (tg iter : Expr) (im : IM) : Prop where
  h : II X tg iter im
structure JO (X : Cx) (e : Option Expr) (m : OM) : Prop where
  h : IO' X e m
structure JF (X : Cx) (ifs : List Expr) (c : TM) : Prop where
  h : PF X ifs (tT0 X.K c)
section
variable {X : Cx} {N : List Str} {sc : Scope} {k : Nat} {a b c e o : Expr} {es rest : List Expr} {ma mb mc m mo : EM} {ta tb t : TM} {am : AM} {sa sb : SM} {st : Stmt} {as bs body : List Stmt} {p p2 pos pos' : Pos} {g : GM} {gs : List GM} {im : IM} {tg iter : Expr}
theorem BdL.jvar (B : BdL X N sc) (i : Nat) {x : Str} (hN : N[i]? = some x) (hv : Vis sc x) (hd : (x == ("__debug__" : Str)) = false) (hcd : (x == ("__classdict__" : Str)) = false) : JE X (.Name x pos) (eVar i) := ⟨B.var i hN hv hd hcd⟩
theorem je_int {i : Int} {j : Nat} : JE X (.Constant (.int i) j pos) (eC (.int i)) := ⟨ie_int⟩
theorem je_str {x : Str} {j : Nat} : JE X (.Constant (.str x) j pos) (eC (.str x)) := ⟨ie_str⟩
theorem je_bl {x : Bool} {j : Nat} : JE X (.Constant (.bool x) j pos) (eC (.bl x)) := ⟨ie_bl⟩
theorem je_non {j : Nat} : JE X (.Constant .none j pos) (eC .non) := ⟨ie_non⟩
theorem je_gint {x : Str} {i : Int} {tk : Tok} (hg : Gl X x) (hm : X.mg x = some (.int i tk)) (hd : (x == ("__debug__" : Str)) = false) : JE X (.Name x pos) (eC (.int i)) := ⟨ie_c (pe_glob (v := .int i) hg hm ⟨_, rfl⟩ hd) fun _ _ _ => .int i⟩
theorem je_gstr {x y : Str} {tk : Tok} (hg : Gl X x) (hm : X.mg x = some (.str y tk)) (hd : (x == ("__debug__" : Str)) = false) : JE X (.Name x pos) (eC (.str y)) := ⟨ie_c (pe_glob (v := .str y) hg hm ⟨_, rfl⟩ hd) fun _ _ _ => .str y⟩
theorem je_neg (ha : JE X a ma) : JE X (.UnaryOp .USub a pos) (eUn negW ma) := ⟨ie_un un_neg negW_i ha.h⟩
theorem je_not (ha : JE X a ma) : JE X (.UnaryOp .Not a pos) (eNot ma) := ⟨ie_not ha.h⟩
theorem je_add (ha : JE X a ma) (hb : JE X b mb) : JE X (.BinOp a .Add b pos) (eOp addW ma mb) := ⟨ie_op op_addW addW_i ha.h hb.h⟩
theorem je_sub (ha : JE X a ma) (hb : JE X b mb) : JE X (.BinOp a .Sub b pos) (eOp subW ma mb) := ⟨ie_op op_sub subW_i ha.h hb.h⟩
theorem je_mul (ha : JE X a ma) (hb : JE X b mb) : JE X (.BinOp a .Mult b pos) (eOp mulW ma mb) := ⟨ie_op op_mul mulW_i ha.h hb.h⟩
theorem je_mod (ha : JE X a ma) (hb : JE X b mb) : JE X (.BinOp a .Mod b pos) (eOp modW ma mb) := ⟨ie_op op_modN modW_i ha.h hb.h⟩
theorem je_div (ha : JE X a ma) (hb : JE X b mb) : JE X (.BinOp a .FloorDiv b pos) (eOp divW ma mb) := ⟨ie_op op_fdivB divW_i ha.h hb.h⟩
/-- a comparison: how the machine does it, and its pure reading -/
structure Cp (X : Cx) (op : CmpOp) (b : Expr) (f : W → W → Po W) : Prop where
  ex : ∃ r, OpR X (compareOp op) r ∧ OpI X.K r f
  bm : behindInMarks op b = false
theorem cp_lt : Cp X .Lt b ltW := ⟨⟨_, op_lt, icmp_i⟩, nomark _⟩
theorem cp_le : Cp X .LtE b leW := ⟨⟨_, op_le, icmp_i⟩, nomark _⟩
theorem cp_gt : Cp X .Gt b gtW := ⟨⟨_, op_gt, icmp_i⟩, nomark _⟩
theorem cp_ge : Cp X .GtE b geW := ⟨⟨_, op_ge, icmp_i⟩, nomark _⟩
theorem BdT.eq (B : BdT X N sc k) : Cp X .Eq b eqW := ⟨⟨_, op_eqW B.room.units, eqW_i⟩, nomark _⟩
theorem BdT.ne (B : BdT X N sc k) : Cp X .NotEq b neW := ⟨⟨_, op_neW B.room.units, neW_i⟩, nomark _⟩
theorem BdT.in_ (B : BdT X N sc k) (h : behindInMarks .In b = false) : Cp X .In b inW := ⟨⟨_, op_inW B.room.units, inW_i⟩, h⟩
theorem BdT.nin (B : BdT X N sc k) (h : behindInMarks .NotIn b = false) : Cp X .NotIn b ninW := ⟨⟨_, op_ninW B.room.units, ninW_i⟩, h⟩
theorem cp_is : Cp X .Is b isNW := ⟨⟨_, op_isN, isNW_i⟩, nomark _⟩
theorem cp_isn : Cp X .IsNot b notNW := ⟨⟨_, op_notN, notNW_i⟩, nomark _⟩
theorem je_cmp {op : CmpOp} {f : W → W → Po W} (hc : Cp X op b f) (ha : JE X a ma) (hb : JE X b mb) : JE X (.Compare a [op] [b] pos) (eOp f ma mb) := let ⟨_, h1, h2⟩ := hc.ex; ⟨ie_cmp h1 h2 ha.h hb.h hc.bm⟩
theorem jt_cmp {op : CmpOp} {f : W → W → Po W} (hc : Cp X op b f) (ha : JE X a ma) (hb : JE X b mb) : JT X (.Compare a [op] [b] pos) (eT (eOp f ma mb)) := let ⟨_, h1, h2⟩ := hc.ex; ⟨it_cmp h1 h2 ha.h hb.h hc.bm⟩
theorem je_chain {op op' : CmpOp} {f f' : W → W → Po W} (h1 : Cp X op b f) (h2 : Cp X op' c f') (hm : lastMarks [op, op'] [b, c] = false) (ha : JE X a ma) (hb : JE X b mb) (hc : JE X c mc) : JE X (.Compare a [op, op'] [b, c] pos) (eChain f f' ma mb mc) :=
  let ⟨_, q1, q2⟩ := h1.ex; let ⟨_, q3, q4⟩ := h2.ex; ⟨ie_chain q1 q2 q3 q4 ha.h hb.h hc.h hm⟩
theorem jt_chain {op op' : CmpOp} {f f' : W → W → Po W} (h1 : Cp X op b f) (h2 : Cp X op' c f') (hm : lastMarks [op, op'] [b, c] = false) (ha : JE X a ma) (hb : JE X b mb) (hc : JE X c mc) : JT X (.Compare a [op, op'] [b, c] pos) (eT (eChain f f' ma mb mc)) :=
  let ⟨_, q1, q2⟩ := h1.ex; let ⟨_, q3, q4⟩ := h2.ex; ⟨it_chain q1 q2 q3 q4 ha.h hb.h hc.h hm⟩
theorem je_one {op : BoolOp} (ha : JE X a ma) : JE X (.BoolOp op [a] pos) ma := ⟨ie_one ha.h⟩
theorem je_and (ha : JE X a ma) (hb : JE X (.BoolOp .And (b :: rest) pos) mb) : JE X (.BoolOp .And (a :: b :: rest) pos) (eAnd ma mb) := ⟨ie_and ha.h hb.h⟩
theorem je_or (ha : JE X a ma) (hb : JE X (.BoolOp .Or (b :: rest) pos) mb) : JE X (.BoolOp .Or (a :: b :: rest) pos) (eOr ma mb) := ⟨ie_or ha.h hb.h⟩
theorem jw_one {op : BoolOp} (ha : JT X a ta) : JW X (.BoolOp op [a] pos) ta := ⟨iw_one ha.h⟩
theorem jw_and (ha : JT X a ta) (hb : JW X (.BoolOp .And (b :: rest) pos) tb) : JW X (.BoolOp .And (a :: b :: rest) pos) (tAndM ta tb) := ⟨iw_and ha.h hb.h⟩
theorem jw_or (ha : JT X a ta) (hb : JW X (.BoolOp .Or (b :: rest) pos) tb) : JW X (.BoolOp .Or (a :: b :: rest) pos) (tOrM ta tb) := ⟨iw_or ha.h hb.h⟩
theorem jt_w (h : JW X a ta) : JT X a ta := ⟨h.h.pt⟩
theorem jt_not (ha : JT X a ta) : JT X (.UnaryOp .Not a pos) (tNotM ta) := ⟨it_not ha.h⟩
/-- whose test is its value's truth -/
def plainT : Expr → Bool
  | .Name .. => true | .Call .. => true | .Subscript .. => true | .Constant .. => true | .BinOp .. => true
  | _ => false
theorem jt_tru (hp : plainT a = true) (ha : JE X a ma) : JT X a (eTru ma) := ⟨by
  cases a <;> first | cases hp; done | exact it_tru ha.h⟩
theorem je_if (hc : JT X c ta) (ha : JE X a ma) (hb : JE X b mb) : JE X (.IfExp c a b pos) (eIf ta ma mb) := ⟨ie_if hc.h ha.h hb.h⟩
theorem ja_nil : JA X [] aNil := ⟨ia_nil⟩
theorem ja_c (h : isStar e = false) (he : JE X e m) (hr : JA X es am) : JA X (e :: es) (aCons m am) := ⟨ia_c h he.h hr.h⟩
theorem je_tup {x1 : Nat} (h : JA X es am) : JE X (.Tuple es x1 pos) (eTup am) := ⟨ie_tup h.h⟩
theorem je_lst (h : JA X es am) : JE X (.List es pos) (eLst am) := ⟨ie_lst h.h⟩
/-- what stands as an index -/
def plainI : Expr → Bool
  | .Slice .. => false
  | .Tuple .. => false
  | _ => true
theorem je_ix (hp : PlainIx b) (ha : JE X a ma) (hb : JE X b mb) : JE X (.Subscript a b pos) (eOp ixW ma mb) := ⟨ie_ix ha.h hb.h hp⟩
theorem jo_none : JO X none oNone := ⟨io_none⟩
theorem jo_some (he : JE X e m) : JO X (some e) (oSome m) := ⟨io_some he.h⟩
theorem je_sl {lo hi : Option Expr} {ml mh : OM} (he : JE X e m) (hl : JO X lo ml) (hh : JO X hi mh) : JE X (.Subscript e (.Slice lo hi none p2) pos) (eSl m ml mh) := ⟨ie_sl he.h hl.h hh.h⟩
theorem jb_nil : JB X [] sNext := ⟨iss_nil⟩
theorem jb_cons {rs : List Stmt} (h1 : JS X st sa) (h2 : JB X rs sb) : JB X (st :: rs) (sSeq sa sb) := ⟨iss_cons h1.h h2.h⟩
theorem jb_one (h1 : JS X st sa) : JB X [st] sa := ⟨iss_one h1.h⟩
theorem js_pass : JS X (.Pass pos) sNext := ⟨is_pass⟩
theorem js_brk : JS X (.Break pos) sBrk := ⟨is_brk⟩
theorem js_cnt : JS X (.Continue pos) sCnt := ⟨is_cnt⟩
theorem js_never : JS X st sNever := ⟨is_never⟩
theorem js_doc {x : Str} {j : Nat} : JS X (.Expr (.Constant (.str x) j pos) pos') sNext := ⟨is_doc⟩
theorem js_ret (he : JE X e m) : JS X (.Return (some e) pos) (sRet m) := ⟨is_ret he.h⟩
theorem js_retN : JS X (.Return none pos) sRetN := ⟨is_retN⟩
/-- no comprehension -/
def noComp : Expr → Bool
  | .ListComp .. => false | .SetComp .. => false | .DictComp .. => false
  | _ => true
theorem swaps_no {x : Option Expr} {n : Nat} {env : Env} (h : noComp e = true) : swapsWith e x n env = pure false := by
  cases e <;> first | rfl | cases h
theorem js_expr (hn : noComp e = true) (he : JE X e m) : JS X (.Expr e pos) (sExpr m) := ⟨is_expr he.h (swaps_no hn)⟩
theorem js_if (hc : JT X c t) (ha : JB X as sa) (hb : JB X bs sb) : JS X (.If c as bs pos) (sIf t sa sb) := ⟨is_if hc.h ha.h hb.h⟩
theorem BdL.jset (B : BdL X N sc) (i : Nat) {x : Str} (hN : N[i]? = some x) (hl : Loc sc x) (hn : noComp e = true) (he : JE X e m) : JS X (.Assign [.Name x pos'] e pos) (sAsg m (gN i)) := ⟨B.set i hN hl he.h (swaps_no hn)⟩
theorem js_asg (he : JE X e m) (hg : JG X tg g) (hs : swapsWithSole [tg] e pos.line X.env = pure false := by rfl) (hw : swappedStores [tg] e X.env = pure none := by rfl)
    (h1 : (assignEach [tg] X.env).map (·.2) = [assign tg X.env] := by rfl) : JS X (.Assign [tg] e pos) (sAsg m g) := ⟨is_asg he.h hg.h hs hw h1⟩
theorem BdL.jname (B : BdL X N sc) (i : Nat) {x : Str} (hN : N[i]? = some x) (hl : Loc sc x) : JG X (.Name x pos) (gN i) := ⟨B.name i hN hl⟩
theorem jgs_nil : JGs X [] [] := ⟨igs_nil⟩
theorem jgs_cons (h1 : JG X e g) (h2 : JGs X es gs) (hs : (assignEach (e :: es) X.env).map (·.2) = assign e X.env :: (assignEach es X.env).map (·.2) := by rfl) : JGs X (e :: es) (g :: gs) := ⟨igs_cons h1.h h2.h hs⟩
theorem jg_tup {j n : Nat} (hc : X.calm = true) (h : JGs X es gs) (hn : (assignEach es X.env).length = n := by rfl) (hst : (assignEach es X.env).findIdx? (·.1) = none := by rfl) : JG X (.Tuple es j pos) (gLen n gs) := ⟨ig_tup hc h.h hn hst⟩
theorem jg_sub {i : Expr} {mi : EM} (ho : JE X o mo) (hi : JE X i mi) (ha : ∀ v, assign (.Subscript o i pos) X.env v = (do
      let ov ← holding [v] (eval o X.env)
      let iv ← holding [v, ov] (eval i X.env)
      standAt pos
      holding [v, ov, iv] (setItem ov iv v)
      release [v, ov, iv] []) := by intro _; rfl) : JG X (.Subscript o i pos) (gSubM mo mi) := ⟨ig_sub ho.h hi.h ha⟩
theorem Bd.jfor (B : Bd X N sc k) (hi : JI X tg iter im) (hg : JG X tg g) (hb : JB X body sb) (hs : ∀ x, foldedSetIterable iter X.env x = pure x := by intro _; rfl) : JS X (.For tg iter body [] pos) (sFor im g sb) := ⟨B.for_ hi.h hg.h hb.h hs⟩
theorem Bd.jwhile (B : Bd X N sc k) (hc : JT X c t) (hb : JB X body sb) : JS X (.While c body [] pos) (sWhile t sb) := ⟨B.while_ hc.h hb.h⟩
theorem ji_list (hl : JE X e m) : JI X tg e (iSeq m) := ⟨ii_list hl.h⟩
theorem ji_tup (hl : JE X e m) : JI X tg e (iTupM m) := ⟨ii_tup hl.h⟩
theorem ji_range1 (hg : Gl X "range") (hm : X.mg "range" = none) (hn : isStar a = false) (ha : JA X [a] am) : JI X tg (.Call (.Name "range" p) [a] [] pos) (iR1 am) := ⟨ii_range1 hg hm ha.h (star_cons hn)⟩
theorem ji_range2 (hg : Gl X "range") (hm : X.mg "range" = none) (hn : isStar a = false) (hn2 : isStar b = false) (ha : JA X [a, b] am) : JI X tg (.Call (.Name "range" p) [a, b] [] pos) (iR2 am) := ⟨ii_range2 hg hm ha.h (by rw [star_cons hn, star_cons hn2]; rfl) (star_cons hn2)⟩
theorem je_cal {k : Nat} {f : Addr} {fd : FuncData} {ps : List Str} {fm : List W → Mo W} {x : Str} (hn : noStars (e :: es) = true) (hdb : (x == ("__debug__" : Str)) = false) (F : FnOk X.prog X.w X.K X.mg X.base (CXW X.prog X.w) k f fd ps (spM X.K X.mg ps.length fm)) (hl : ∀ {xs : List W} {ph : PH}, xs.length ≠ ps.length → fm xs ph = .no) (hr : Room k X.A) (hg : Gl X x) (hm : X.mg x = some (.ref f))
    (hk : PySem.W.keepIn X.K (.ref f) = true) (hb : Binds X.K fd ps []) (ha : JA X (e :: es) am) : JE X (.Call (.Name x p) (e :: es) [] pos) (eCall fm am) := ⟨ie_cal hn hdb F hl hr hg hm hk hb ha.h⟩
theorem je_blt {x : Str} {id : String} {r : List V → Hp → VK → Prop} {fp : List W → Po W} (hns : noStars (e :: es) = true) (hn : x ≠ "__name__") (hdb : (x == ("__debug__" : Str)) = false) (hc : CallR X (.builtin id) r) (hi : CallI X.K r fp) (hg : Gl X x) (hm : X.mg x = none) (hv : bootBuiltins x = some (.builtin id)) (ha : JA X (e :: es) am) : JE X (.Call (.Name x p) (e :: es) [] pos) (eCallB fp am) := ⟨ie_blt hns hn hdb hc hi hg hm hv ha.h⟩
theorem je_typ {x : Str} {T : String} {r : List V → Hp → VK → Prop} {fp : List W → Po W} (hns : noStars (e :: es) = true) (hn : x ≠ "__name__") (hdb : (x == ("__debug__" : Str)) = false) (hc : CallR X (.type T) r) (hi : CallI X.K r fp) (hg : Gl X x) (hm : X.mg x = none) (hv : bootBuiltins x = some (.type T)) (ha : JA X (e :: es) am) : JE X (.Call (.Name x p) (e :: es) [] pos) (eCallB fp am) := ⟨ie_typ hns hn hdb hc hi hg hm hv ha.h⟩
theorem je_mth {name : Str} {T id : String} {r : V → List V → Hp → VK → Prop} {ty : W → PH → Bool} {f : W → List W → Po W} (hns : noStars (e :: es) = true) (hlen : decide ((e :: es).length < 30) = true) (pa : PlainAttrs T) (slot : Slot T name id) (hty : typeOf (.builtin id) = pure (.type "method_descriptor")) (hm : MtR X id r) (ht : TyI X.K T ty) (hi : MtI X.K T r f) (ho : JE X o mo) (ha : JA X (e :: es) am)
    (hbase : attributeBase o name X.env (eval o X.env) = eval o X.env := by rfl) (hline : (p.endLine == pos.line) = true := by rfl) : JE X (.Call (.Attribute o name p) (e :: es) [] pos) (eMeth ty f mo am) := ⟨ie_mth hns hlen pa slot hty hm ht hi ho.h ha.h hbase hline⟩
theorem je_mth0 {name : Str} {T id : String} {r : V → List V → Hp → VK → Prop} {ty : W → PH → Bool} {f : W → List W → Po W} (pa : PlainAttrs T) (slot : Slot T name id) (hty : typeOf (.builtin id) = pure (.type "method_descriptor")) (hm : MtR X id r) (ht : TyI X.K T ty) (hi : MtI X.K T r f) (ho : JE X o mo)
    (hbase : attributeBase o name X.env (eval o X.env) = eval o X.env := by rfl) (hline : (p.endLine == pos.line) = true := by rfl) : JE X (.Call (.Attribute o name p) [] [] pos) (eMeth ty f mo aNil) := ⟨ie_bm0 pa slot hty hm ht hi ho.h hbase hline⟩
theorem je_is {c : Str} {cn : String} {p2 : Pos} (hk : Kits X.K cn) (hv : bootBuiltins c = some (.type cn)) (hn : c ≠ "__name__") (hd : (c == ("__debug__" : Str)) = false) (hst : isStar e = false) (hg : Gl X "isinstance") (hm : X.mg "isinstance" = none) (hgc : Gl X c) (hmc : X.mg c = none) (he : JE X e m) :
    JE X (.Call (.Name "isinstance" p) [e, .Name c p2] [] pos) (eIs cn m) := ⟨ie_is hk hv hg hm hgc hmc he.h hn hd (by rw [star_cons hst, star_cons rfl]; rfl) (star_cons rfl) (any_none rfl)⟩
theorem jf_nil : JF X [] cTrue := ⟨if_nil⟩
theorem jf_one (h : JT X c t) : JF X [c] t := ⟨if_one h.h⟩
theorem je_comp {scope : Scope} {ifs : List Expr} {N' : List Str} {cap : List (Option Nat)} (hc : X.calm = true) (cp : Cap X N' cap scope) (hi : JI X tg iter im) (hg : ∀ cl C s₀ H₀ ex, JG (blk X N' scope cl C s₀ H₀ ex) tg g) (ht : ∀ cl C s₀ H₀ ex, JF (blk X N' scope cl C s₀ H₀ ex) ifs t)
    (he : ∀ cl C s₀ H₀ ex, JE (blk X N' scope cl C s₀ H₀ ex) e m) (hs : ∀ x, foldedSetIterable iter X.env x = pure x := by intro _; rfl) : JE X (.ListComp e [⟨tg, iter, ifs, 0⟩] scope pos) (eComp im cap g t m) :=
  ⟨ie_comp hc cp hi.h (fun cl C s₀ H₀ ex => (hg cl C s₀ H₀ ex).h) (fun cl C s₀ H₀ ex => (ht cl C s₀ H₀ ex).h) (fun cl C s₀ H₀ ex => (he cl C s₀ H₀ ex).h) hs⟩
theorem js_comp {scope : Scope} {ifs : List Expr} {N' : List Str} {cap : List (Option Nat)} {i : Nat} {x : Str} (hN : X.N.Nodup) (hi' : X.N[i]? = some x) (hx : X.env.scope.names.lookup x = some .local)
    (hc : X.calm = true) (cp : Cap X N' cap scope) (hi : JI X tg iter im) (hg : ∀ cl C s₀ H₀ ex, JG (blk X N' scope cl C s₀ H₀ ex) tg g) (ht : ∀ cl C s₀ H₀ ex, JF (blk X N' scope cl C s₀ H₀ ex) ifs t)
    (he : ∀ cl C s₀ H₀ ex, JE (blk X N' scope cl C s₀ H₀ ex) e m) (hsw : swapsWith (.ListComp e [⟨tg, iter, ifs, 0⟩] scope p) (some (.Name x pos')) pos.line X.env = pure true) (hs : ∀ x, foldedSetIterable iter X.env x = pure x := by intro _; rfl) :
    JS X (.Assign [.Name x pos'] (.ListComp e [⟨tg, iter, ifs, 0⟩] scope p) pos) (sAsg (eComp im cap g t m) (gN i)) :=
  ⟨is_comp hN hi' hx hc cp hi.h (fun cl C s₀ H₀ ex => (hg cl C s₀ H₀ ex).h) (fun cl C s₀ H₀ ex => (ht cl C s₀ H₀ ex).h) (fun cl C s₀ H₀ ex => (he cl C s₀ H₀ ex).h) hsw hs⟩
end
/-- a def by its body, the numbers written -/
theorem fun_ilN {P : Program} {w : World} {K : PySem.W.Frag} {mg : Str → Option Value} {base : Heap} {x qual : Str} {st : Stmt} {f : Addr} {fd : FuncData} {N ps : List Str} {k n np : Nat} {body : SM} (hn : N.length = n) (hp : ps.length = np) (F : Fun K x qual st f fd) (S : FnScope N ps (defScope st))
    (hbody : ∀ {X : Cx}, X.prog = P → X.w = w → X.K = K → X.mg = mg → X.base = base → Bd X N (defScope st) k → X.env.scope = defScope st → JB X (defBody st) body) : FnOk P w K mg base (CXW P w) (k + 1) f fd ps (spM K mg np (fM body n np)) := by
  subst hn hp
  exact fun_il F S fun cdv A outer s H E hr => (hbody (X := cxOf (CXW P w) P w K mg base N qual (defScope st) f cdv A outer s H E) rfl rfl rfl rfl rfl ⟨⟨⟨rfl, fun _ z => z, fun _ z => z, fun _ z => z, fun _ _ => .inl rfl, S.nd⟩, rfl, hr⟩, PassesOwn.leaving⟩ rfl).h
end IL

namespace IL
open PySem PySem.Spec PyProof.Rows L2 PySem.W Builtin.ObjectAttr Builtin.Getset_descriptor

/-! ### 22. An error of the text's own: asked for its class -/
/-- the object at x is of the own class at D -/
def TyAt (h : Heap) (x D : Addr) : Prop := ∃ o, h.get? x = some o ∧ o.cls = .ref D
section
variable {prog : Program} {w : World} {A : Around} {E : Value → Shared → Prop} {s : Shared} {K : PySem.W.Frag} {x C D : Addr}
theorem TyAt.looks {M : Model} {h : Heap} (I : TyAt h x D) : Looks M h (typeOf (.ref x)) (.ref D) := let ⟨_, e, c⟩ := I; c ▸ (Looks.ld e).andThen .now
theorem exc_check {M : Model} {nameV : Value} {Q : Unit → Shared → Prop} (X : K.In s.heap) (I : TyAt s.heap x D) (hB : mroIn K D (.type "BaseException") = some true) (hq : Q () s) :
    wpAny M A (checkBuiltinCall "BaseException.__getattribute__" ⟨[.ref x, nameV], []⟩) Q E s := by
  have hk : builtinKind "BaseException.__getattribute__" = some .slot := by decide +kernel
  have hsplit : splitId "BaseException.__getattribute__" = some ("BaseException", "__getattribute__") := by decide +kernel
  obtain ⟨hh, g, d, t, os⟩ := s
  have LI : Looks M hh (isInstance (.ref x) (.type "BaseException")) true := (I.looks (M := M)).andThen (looks_mroIn (M := M) X hB)
  have ha := F.args_bexc_ga (.ref x) nameV
  simp only [checkBuiltinCall, hk, hsplit]
  refine wpAny_bind (LI.at ?_)
  repeat (first | with_reducible assumption | wp_step)
/-- found by the class alone -/
theorem looks_data {M : Model} {h : Heap} {name : Str} {a g : Value} (X : K.In h) (h1 : findIn K (.ref D) name = some (some a)) (h2 : specialIn K a "__get__" = some (some g)) (h3 : takesIn K a = some true) :
    Looks M h (find (.ref x) (.ref D) name) (.bind g a) :=
  (looks_findIn X h1).andThen ((show Looks M h (getOf (some a)) (some g) from looks_specialIn X h2).andThen
    ((show Looks M h (dataDescriptor? (some a) (some g)) (some (g, a)) from (looks_takesIn X h3).andThen .now).andThen (Looks.tag .now)))
theorem exc_entry {g a : Value} {name : Str} {tk : Tok} {Q : Fin → Shared → Prop} (I : TyAt s.heap x D) (L1 : Looks (model prog w) s.heap (find (.ref x) (.ref D) name) (.bind g a))
    (h : wpAny (model prog w) A (call g [a, .ref x, .ref D]) (fun v s' => Q (.done (.ret v)) s') E s) :
    wpAny (model prog w) A (Builtin.«object.__getattribute__» ⟨[.ref x, .str name tk], []⟩) Q E s := by
  obtain ⟨hh, gg, d, t, os⟩ := s
  have L0 := I.looks (M := model prog w)
  unfold Builtin.«object.__getattribute__»
  refine wpAny_bind (wpAny_pure ?_)
  dsimp only
  refine wpAny_bind (wpAny_pure ?_)
  refine wpAny_bind (L0.at (wpAny_bind (L1.at ?_)))
  dsimp only
  show wpAny _ _ (holding [a] (call g [a, .ref x, .ref D]) >>= PySem.ret) _ _ _
  exact wpAny_bind (wpAny_holding (wpAny_mono h (fun v s' z => wpAny_pure z) fun _ _ z => z))
theorem exc_cls_get {R : Result → Shared → Prop} {tp : Value} (X : K.In s.heap) (I : TyAt s.heap x D) (hm : mroIn K D (.type "object") = some true) (h : R (.ok (.ret (.ref D))) s) :
    codeAny (model prog w) A (.call (.builtin "getset_descriptor.__get__") ⟨[.builtin "object.__class__", .ref x, tp], []⟩) R s := by
  obtain ⟨hh, gg, d, t, os⟩ := s
  have T0 := I.looks (M := model prog w)
  have T1 := looks_mroIn (M := model prog w) X hm
  refine codeAny_call_builtin KF.slot_gs.plain KF.entry_gs (KF.slot_gs.check _ _ _ _ _ _ _ _ KF.type_class (KF.args_gs _ _ _) ?_)
  unfold Builtin.«getset_descriptor.__get__» descrGet
  rw [dga_obj]
  refine wpAny_bind (wpAny_pure ?_)
  unfold descrGetter descrCheckInstance descrNameAndClass isInstance
  simp only [KF.owner_class]
  repeat lk
  refine ⟨Code.quiet_builtin _ (by decide +kernel), codeAny_builtin KF.entry_class ?_⟩
  unfold Builtin.«object.__class__» shownTypeOf
  repeat lk
  exact h
/-- what K tells of an own error class: how it is asked for its class -/
def excK (K : PySem.W.Frag) (D : Addr) : Bool :=
  findIn K (.ref D) "__getattribute__" == some (some (.builtin "BaseException.__getattribute__")) && findIn K (.ref D) "__getattr__" == some none &&
  findIn K (.ref D) "__class__" == some (some (.builtin "object.__class__")) && specialIn K (.builtin "object.__class__") "__get__" == some (some (.builtin "getset_descriptor.__get__")) && takesIn K (.builtin "object.__class__") == some true &&
  mroIn K D (.type "object") == some true && mroIn K D (.type "BaseException") == some true && (clsIn K D).isSome
structure ExcK (K : PySem.W.Frag) (D : Addr) : Prop where
  ga : findIn K (.ref D) "__getattribute__" = some (some (.builtin "BaseException.__getattribute__"))
  gh : findIn K (.ref D) "__getattr__" = some none
  cl : findIn K (.ref D) "__class__" = some (some (.builtin "object.__class__"))
  cg : specialIn K (.builtin "object.__class__") "__get__" = some (some (.builtin "getset_descriptor.__get__"))
  ct : takesIn K (.builtin "object.__class__") = some true
  mo : mroIn K D (.type "object") = some true
  mb : mroIn K D (.type "BaseException") = some true
  cd : (clsIn K D).isSome = true
theorem ExcK.of (h : excK K D = true) : ExcK K D := by
  unfold excK at h
  simp only [Bool.and_eq_true, beq_iff_eq] at h
  obtain ⟨⟨⟨⟨⟨⟨⟨h1, h2⟩, h3⟩, h4⟩, h5⟩, h6⟩, h7⟩, h8⟩ := h
  exact ⟨h1, h2, h3, h4, h5, h6, h7, h8⟩
theorem bind_ga (v : Value) : bindSpecial (.builtin "BaseException.__getattribute__") v = pure (.builtin "BaseException.__getattribute__", [v]) := F.attr_ValueError.ga.bind v
theorem exc_class {Q : Option Value → Shared → Prop} (X : K.In s.heap) (I : TyAt s.heap x D) (hK : ExcK K D) (h : Q (some (.ref D)) { s with toks := s.toks + 1 }) :
    wpAny (model prog w) A (getAttr? (.ref x) "__class__") Q E s := by
  obtain ⟨hh, gg, d, t, os⟩ := s
  have L0 := I.looks (M := model prog w)
  have L1 := looks_findIn (M := model prog w) X hK.ga
  have L2 := looks_findIn (M := model prog w) X hK.gh
  unfold getAttr? getAttrBy? getAttrBy
  refine wpAny_bind (wpAny_mkText (wpAny_bind (wpAny_attempt (wpAny_holding (wpAny_bind (L0.at (wpAny_bind (L1.at ?_))))))))
  show wpAny _ _ (getAttrByItsOwn _ _ _ _ _ _) _ _ _
  unfold getAttrByItsOwn
  refine wpAny_bind (show wpAny _ _ (typeLookup (.ref D) "__getattr__") _ _ _ from L2.at ?_)
  refine wpAny_bind (wpAny_attempt (wpAny_holding ?_))
  show wpAny _ _ (boundAndCalled _ _ _) _ _ _
  unfold boundAndCalled
  rw [bind_ga]
  refine wpAny_bind (wpAny_pure ?_)
  dsimp only
  refine wpAny_call (codeAny_call_builtin F.attr_ValueError.ga.plain F.entry_bexc_ga (exc_check (s := ⟨hh, gg, d, t + 1, os⟩) X I hK.mb (exc_entry (s := ⟨hh, gg, d, t + 1, os⟩) I (looks_data X hK.cl hK.cg hK.ct) (wpAny_call (exc_cls_get (s := ⟨hh, gg, d, t + 1, os⟩) X I hK.mo ?_)))))
  dsimp only
  exact wpAny_pure (wpAny_pure h)
theorem ExcK.isType {h : Heap} (hK : ExcK K D) (X : K.In h) : ∃ c d cd sl, h.get? D = some ⟨c, d, .cls cd, sl⟩ ∧ ∀ M, Looks M h (PySem.isType (.ref D)) true := by
  have h8 := hK.cd
  unfold clsIn at h8
  split at h8
  · rename_i c' d' cd' sl' ho
    refine ⟨c', d', cd', sl', X _ _ ho, ?_⟩
    intro M A' Q' E' s' k q
    unfold PySem.isType loadHead
    exact wpAny_bind (wpAny_loadPart (k _ _ (X _ _ ho)) (wpAny_pure q))
  · cases h8
theorem kitx_exc (hK : ExcK K D) : KitX K (.ref x) (.ref D) (fun h => TyAt h x D) where
  ty := fun M h X I => I.looks (M := M)
  it := fun M h X _ => let ⟨_, _, _, _, _, z⟩ := hK.isType X; z M
  ne := fun h tp dd its n sl X e => by
    obtain ⟨c, d, cd, sl2, z, _⟩ := hK.isType X
    rw [Bool.eq_false_iff]
    intro q
    cases beq_iff_eq.mp q
    rw [e] at z
    cases z
  ca := fun {_ _ _ _ _ _} X I q => exc_class X I hK q
end
end IL

namespace IL
open PySem PySem.Spec PyProof.Rows L2

/-! ### 23. isinstance of an error of the text's own -/
def isX (tb : List (Str × Bool)) (w : W) : Po W := fun ph => match w with
  | .exc c _ _ => (tb.lookup c).map fun b => (.bl b, ph)
  | _ => none
def eIsX (tb : List (Str × Bool)) (m : EM) : EM := fun σ => bnd (m σ) fun w => lift (isX tb w)
/-- whether each class of the table is the class cv or under it -/
def XTab (K : PySem.W.Frag) (cv : Value) (tb : List (Str × Bool)) : Prop :=
  ∀ c b, tb.lookup c = some b → ∃ C, PySem.W.nsIn K mainGlobals c = some (some (.ref C)) ∧ ExcK K C ∧ PySem.W.kitOne K (.ref C) cv = some b
theorem XTab.nil {K : PySem.W.Frag} {cv : Value} : XTab K cv [] := fun c b e => by cases e
theorem XTab.cons {K : PySem.W.Frag} {cv : Value} {tb : List (Str × Bool)} {c : Str} {b : Bool} {C : Addr} (h1 : PySem.W.nsIn K mainGlobals c = some (some (.ref C))) (h2 : ExcK K C) (h3 : PySem.W.kitOne K (.ref C) cv = some b) (h : XTab K cv tb) :
    XTab K cv ((c, b) :: tb) := fun c' b' e => by
  rw [List.lookup_cons] at e
  split at e
  · rename_i q
    cases e
    rw [beq_iff_eq] at q
    subst q
    exact ⟨C, h1, h2, h3⟩
  · exact h c' b' e
def rIsX (K : PySem.W.Frag) (v2 : V) (cv : Value) : List V → Hp → VK → Prop := fun xs H Q => ∃ a o u C b, xs = [.ref a, v2] ∧ H a = some (.frz o u) ∧ o.cls = .ref C ∧ ExcK K C ∧ PySem.W.kitOne K (.ref C) cv = some b ∧ Q (.bl b) H
theorem call_isX {X : Cx} {v2 : V} {cv : Value} (hv : ∀ u, RelV v2 u → u = cv) : CallR X (.builtin "isinstance") (rIsX X.K v2 cv) := by
  intro pins s σ H xs us Q I r h
  obtain ⟨a, o, u, C, b, rfl, hH, hc, hk, e, q⟩ := h
  obtain ⟨u1, u2, rfl, r1, r2⟩ := Vals.two r
  obtain rfl : u1 = Value.ref a := r1
  obtain rfl := hv u2 r2
  have ho : s.heap.get? a = some o := (I.hok a _ hH).1
  exact PySem.W.kia_one (kitx_exc hk) I.kIn ⟨o, ho, hc⟩ e (fun z => nomatch z) fun tk => ⟨.bl b, H, I.tok tk, rfl, q⟩
section
variable {X : Cx} {e : Expr} {m : EM} {p p2 pos : Pos} {c : Str} {tb : List (Str × Bool)}
theorem ie_isX {v2 : V} {cv : Value} (hv : ∀ u, RelV v2 u → u = cv) (hT : XTab X.K cv tb) (hst : isStar e = false) (hg : Gl X "isinstance") (hm : X.mg "isinstance" = none) (hc : PE X (.Name c p2) (tC v2)) (he : IE X e m) :
    IE X (.Call (.Name "isinstance" p) [e, .Name c p2] [] pos) (eIsX tb m) := by
  refine PE.imp (pe_callB (call_isX hv) hg hm PyProof.Rows.boot_isinstance (pa_cons he (pa_cons hc pa_nil rfl) (star_cons hst)) (he := star_cons hst) (hpl := rfl)) fun σ H Q h => ?_
  obtain ⟨φ, ph, ws, hH, hS, h⟩ := h
  refine tM.bind hH hS h fun x ph1 φ1 H1 vx hH1 s1 rx h => ?_
  obtain ⟨w, ph', e, k⟩ := run_lift h
  unfold isX at e
  cases rx with
  | exc h1 hc1 hn hk hf r =>
    obtain ⟨b, eb, e2⟩ := Option.map_eq_some_iff.mp e
    cases e2
    obtain ⟨C, t1, t2, t3⟩ := hT _ _ eb
    rw [t1] at hn
    cases hn
    exact ⟨_, _, _, _, b, rfl, h1, hc1, t2, t3, k φ1 H1 _ hH1 s1 (.bl b)⟩
  | _ => cases e
/-- the class is an own one -/
theorem je_isO {C : Addr} (hT : XTab X.K (.ref C) tb) (hst : isStar e = false) (hg : Gl X "isinstance") (hm : X.mg "isinstance" = none) (hgc : Gl X c) (hmc : X.mg c = some (.ref C)) (hd : (c == ("__debug__" : Str)) = false) (he : JE X e m) :
    JE X (.Call (.Name "isinstance" p) [e, .Name c p2] [] pos) (eIsX tb m) := ⟨ie_isX (v2 := .ref C) (fun _ r => r) hT hst hg hm (pe_glob hgc hmc rfl hd) he.h⟩
/-- the class is one of Python's own -/
theorem je_isB {cn : String} (hT : XTab X.K (.type cn) tb) (hst : isStar e = false) (hg : Gl X "isinstance") (hm : X.mg "isinstance" = none) (hgc : Gl X c) (hmc : X.mg c = none) (hv : bootBuiltins c = some (.type cn)) (hn : c ≠ "__name__") (hd : (c == ("__debug__" : Str)) = false) (he : JE X e m) :
    JE X (.Call (.Name "isinstance" p) [e, .Name c p2] [] pos) (eIsX tb m) := ⟨ie_isX (v2 := .ty cn) (fun _ r => r) hT hst hg hm (pe_bltn hgc hmc hv rfl hn hd) he.h⟩
end

/-! ### 24. raise -/
def exx {α : Type} (x : XC) : Mo α := fun ph => .ex x ph
def sRaise (c : Str) (a : AM) : SM := fun σ => bnd (a σ) fun xs => if xs.length ≤ 1000 then exx ⟨c, []⟩ else nop
/-- the own class at C stands, by way of own ones, under a kind of Python's own whose mro is bmB; none of them has an __init__ -/
theorem exc_obj {K : PySem.W.Frag} {h : Heap} {C : Addr} {bmB : List Value} {newId : String} (kin : K.In h) (q : PySem.W.excIn K C bmB newId = true) :
    ∃ bm N nm qn bs hd sn sub ab col dd k0 k1 k2 k3 k5 mN, h.get? C = some (excClassObj nm qn C N bs bm hd sn sub ab col dd k0 k1 k2 k3 k5 newId) ∧ h.Ns N mN ∧ mN "__init__" = none ∧ OwnTail h bmB bm := by
  unfold PySem.W.excIn at q
  split at q
  case h_2 => cases q
  case h_1 dd cd sl ho =>
    split at q
    case h_2 => cases q
    case h_1 C' bm k0 k1 k2 k3 n k5 hm hs =>
      rw [Bool.and_eq_true, Bool.and_eq_true, Bool.and_eq_true, Bool.and_eq_true, Bool.and_eq_true] at q
      obtain ⟨⟨⟨⟨⟨q1, q2⟩, q3⟩, q4⟩, q5⟩, q6⟩ := q
      cases beq_iff_eq.mp q1
      cases beq_iff_eq.mp q2
      have q3 : cd.hasDel = false := by simpa using q3
      cases cd with
      | mk nm bs mro ns qn hd sn sub ab col del =>
        cases (show mro = _ from hm)
        cases (show del = _ from q3)
        cases sl with
        | mk l =>
          cases (show l = _ from hs)
          exact ⟨bm, ns, nm, qn, bs, hd, sn, sub, ab, col, dd, k0, k1, k2, k3, k5, _, kin _ _ ho, .of_isNs (PySem.W.isNs_of_in kin q5), PySem.W.nsMap_none_of_in kin q5 (beq_iff_eq.mp q6), PySem.W.tail_of_in kin q4⟩
abbrev mroVE : List Value := [.type "ValueError", .type "Exception", .type "BaseException", .type "object"]
section
variable {X : Cx} {e : Expr} {es : List Expr} {a : AM} {np cpos pos : Pos} {x : Str} {C : Addr}
theorem is_raise (hq : PySem.W.excIn X.K C mroVE "ValueError.__new__" = true) (hg : Gl X x) (hm : X.mg x = some (.ref C)) (hc : X.calm = true) (hn : noStars (e :: es) = true) (hdb : (x == ("__debug__" : Str)) = false) (ha : IA X (e :: es) a) :
    IS X (.Raise (some (.Call (.Name x np) (e :: es) [] cpos)) none pos) (sRaise x a) := by
  intro pins s σ H D I h
  obtain ⟨φ, ph, ws, hH, hS, h⟩ := h
  obtain ⟨bm, N, nm, qn, bs, hd, sn, sub, ab, col, dd, k0, k1, k2, k3, k5, mN, o1, o2, o3, o4⟩ := exc_obj I.ok.mod.kin hq
  have hn' := hn
  unfold noStars at hn'
  rw [List.all_cons, Bool.and_eq_true] at hn'
  have h0 : isStar e = false := by simpa using hn'.1
  refine wpAny_Raise_call_subU (C := C) (N := N) (nm := nm) (q := qn) (bs := bs) (bm := bm) (hdct := hd) (sn := sn) (sub := sub) (ab := ab) (col := col) (dd := dd) (k0 := k0) (k1 := k1) (k2 := k2) (k3 := k3) (k5 := k5) PySem.F.excBase_ValueError (by rfl) PySem.F.excBase_ValueError (o4.hasType (by rfl)) (I.ok.hd hc) (any_none hn) o3 (ld_glob I hg hm ⟨rfl, ?_⟩ hdb)
  have hA : tA X a σ H (fun vs H1 => vs.length ≤ 1000 ∧ ∀ e' s', Thr X ⟨x, []⟩ H1 e' s' → X.xe e' s') := by
    refine tA.bind hH hS h fun xs ph1 φ1 H1 vs hH1 s1 r1 h => ?_
    by_cases hl : xs.length ≤ 1000
    · rw [if_pos hl] at h
      exact ⟨by rw [← r1.length]; exact hl, fun e' s' t => h φ1 H1 e' s' hH1 Step.refl t⟩
    · rw [if_neg hl] at h
      exact h.elim
  have key := ha cpos pins s σ H _ I hA
  rw [star_cons h0] at key ⊢
  refine Calls.evalArgs_plain (thn key fun us s1 ⟨vs, H1, I1, r, q1, q2⟩ => ⟨rfl, ?_, I1.bk _ _ o1, o2.keeps I1.bk, o4.keeps I1.bk, fun h' e' hm' => ?_⟩)
  · show us.length ≤ _
    rw [← r.length, sizeLine_eq]
    exact Nat.le_trans q1 (by decide)
  · exact q2 _ _ ⟨C, hm, rfl, .inl ⟨pins, σ, s1, us, h', e', rfl, rfl, I1, hm'⟩⟩
theorem js_raise (hq : PySem.W.excIn X.K C mroVE "ValueError.__new__" = true) (hg : Gl X x) (hm : X.mg x = some (.ref C)) (hc : X.calm = true) (hn : noStars (e :: es) = true) (hdb : (x == ("__debug__" : Str)) = false) (ha : JA X (e :: es) a) :
    JS X (.Raise (some (.Call (.Name x np) (e :: es) [] cpos)) none pos) (sRaise x a) := ⟨is_raise hq hg hm hc hn hdb ha.h⟩
end
end IL

namespace IL
open PySem PySem.Spec PyProof.Rows L2 PySem.W

/-! ### 25. try .. except -/
/-- a def's body, not a comprehension's block -/
structure TopF (X : Cx) : Prop where
  st : X.stack = X.env :: X.outer
  fr : X.env.frame = some X.env.locals
  ex : X.ex = []
/-- an exception that is new: seen by its own frame -/
theorem looks_made {M : Model} {A : Around} {E : Value → Shared → Prop} {s : Shared} {base h : Heap} {env : Env} {outer : List Env} {L e : Addr} {cls : Value} {args : List Value} {Q : Unit → Shared → Prop}
    (hfr : A.frames = some (env :: outer)) (hf : env.frame = some L) (hkb : base.StaysIn h) (hl : h.FunFrames base (env :: outer)) (hx : Heap.MadeExcOf h s.heap e cls args)
    (hQ : ∀ h' t, Heap.HeldW base (env :: outer) e cls (.ref t) L h' → s.heap.UpToSlots h' → Q () { s with heap := h' }) : wpAny M A (noteFrame (.ref e) env) Q E s := by
  obtain ⟨t, he, htn, ht⟩ := hx.there
  have new : base.get? e = none := by
    cases hq : base.get? e with
    | none => rfl
    | some o' => have := hkb e o' hq; rw [hx.new] at this; cases this
  unfold noteFrame
  simp only [hf]
  refine wpAny_bind (wpAny_field (x := .none) he rfl rfl ?_)
  rw [if_neg (show ¬ ((Value.none != Value.none) = true) by decide)]
  refine wpAny_entryW (a0 := .ref t) hfr (hl.of_keeps fun b o hb _ => ⟨o, hx.keeps b o hb, rfl⟩) hf he (fun b o hb => hx.keeps b o (hkb b o hb)) new rfl (show 1 < 6 by decide) rfl fun h' hN => ?_
  obtain ⟨k1, k2, k3, k4⟩ := hN
  exact hQ h' t ⟨k1, new, k2, k3⟩ k4
/-- what is known of an exception where a frame takes it -/
structure Took (X : Cx) (C a : Addr) (H' : Hp) (B : Heap) (s' : Shared) : Prop where
  ex : ∃ pins σ H s, Inv X pins σ H s ∧ s'.os = s.os ∧ UnB (frs X.stack) H H' s.heap B s'.heap
  bare : AllBare s'.gens
  hok : HOk X.prog X.w H' B
  note : ∀ {A : Around} {E : Value → Shared → Prop} {Q : Unit → Shared → Prop}, A.frames = some X.stack → (∀ h' a0, Heap.HeldW B X.stack a (.ref C) a0 X.env.locals h' → s'.heap.UpToSlots h' → Q () { s' with heap := h' }) →
    wpAny (model X.prog X.w) A (noteFrame (.ref a) X.env) Q E s'
theorem objThere {P : Program} {w : World} {H : Hp} {h : Heap} {a : Addr} {o : HO} (x : ObjOk P w H h a o) : ∃ ob, h.get? a = some ob := by
  cases o with
  | lst xs => exact ⟨_, x.2.choose_spec.choose_spec.2⟩
  | tup xs => obtain ⟨_, its, _, ob, e, _⟩ := x; exact ⟨ob, e⟩
  | dK kvs => obtain ⟨_, _, _, _, ob, _, _, e, _⟩ := x; exact ⟨ob, e⟩
  | dT kvs => obtain ⟨_, _, _, _, ob, _, _, e, _⟩ := x; exact ⟨ob, e⟩
  | set S n => obtain ⟨ob, _, _, _, e, _⟩ := x; exact ⟨ob, e⟩
  | ins C dx fs => exact ⟨_, x.2.2.2.1⟩
  | own y => exact x
  | xd fs => obtain ⟨_, ⟨ob, _, _, e, _⟩, _⟩ := x; exact ⟨ob, e⟩
  | rng lo hi => obtain ⟨_, _, _, e⟩ := x; exact ⟨_, e⟩
  | frz ob u => exact ⟨ob, x.1⟩
  | tbl ps => exact ⟨_, x⟩
  | met f y => exact ⟨_, x⟩
  | ext φ => exact x.2.1
section
variable {X : Cx} {C a : Addr} {H' : Hp} {B : Heap} {s' : Shared} {e : Value}
theorem took_made (T : TopF X) (h : Made X C H' e s') : ∃ a B, e = .ref a ∧ Took X C a H' B s' := by
  obtain ⟨pins, σ, s, vs, h', a, rfl, rfl, I, hx⟩ := h
  have sf := I.stkFree
  have hl := I.stack
  have hin : ∀ env ∈ X.stack, ∀ b, env.frame = some b → b ∈ frs X.stack := fun env he b hb => List.mem_filterMap.mpr ⟨env, he, hb⟩
  refine ⟨a, PySem.W.hideAll s.heap (frs X.stack), rfl, ⟨pins, σ, H', s, I, rfl, ⟨fun b o e n hb => PySem.W.hideAll_get _ e hb, fun b o e n hb => ⟨o.slots, hx.keeps b o e⟩, fun b o e n => n, fun b o e hb => ⟨o, PySem.W.hideAll_get _ e hb⟩, fun b xs e => e, fun b o u e => e, fun b ps e => ⟨#[], by simpa using e⟩⟩⟩,
    I.bare, hide_ok I.hok sf, fun {A E Q} hA hQ => ?_⟩
  have hl' := PySem.W.funFrames_hide hl hin
  rw [T.st] at hA
  have hl2 : s.heap.FunFrames (PySem.W.hideAll s.heap (frs X.stack)) (X.env :: X.outer) := by rw [← T.st]; exact hl'
  refine looks_made (base := PySem.W.hideAll s.heap (frs X.stack)) (h := s.heap) hA T.fr (fun b o q => PySem.W.of_hideAll _ q) hl2 hx fun h'' t f1 f2 => hQ h'' (.ref t) ?_ f2
  rw [T.st]
  rw [T.st] at f1
  exact f1
theorem took_flew (T : TopF X) {pins : List (Addr × Obj)} {σ : L2.St} {H : Hp} {s : Shared} (I : Inv X pins σ H s) (h : Flew X.prog X.w X.stack H s C H' e s') : ∃ a B, e = .ref a ∧ Took X C a H' B s' := by
  obtain ⟨a, a0, B, rfl, ho, hbare, hfl, hok, u⟩ := h
  refine ⟨a, B, rfl, ⟨pins, σ, H, s, I, ho, u⟩, hbare, hok, fun {A E Q} hA hQ => ?_⟩
  rw [T.st] at hA hfl
  exact wpAny_looks_onW hA T.fr hfl fun h' f1 f2 => hQ h' a0 (by rw [T.st]; exact f1) f2
theorem took (T : TopF X) {x : XC} (h : Thr X x H' e s') : ∃ C, X.mg x.cls = some (.ref C) ∧ x.fs = [] ∧ ∃ a B, e = .ref a ∧ Took X C a H' B s' := by
  obtain ⟨C, hm, hf, h⟩ := h
  refine ⟨C, hm, hf, ?_⟩
  rcases h with h | ⟨pins, σ, H, s, I, h⟩
  · exact took_made T h
  · exact took_flew T I h
/-- the state in which it is taken: the exception is a thing that nobody changes -/
theorem Took.inv (T : TopF X) (K : Took X C a H' B s') {h : Heap} {a0 : Value} (hfl : Heap.FlyingW B X.stack a (.ref C) a0 h) (sm : s'.heap.UpToSlots h) :
    ∃ pins σ oe, h.get? a = some oe ∧ oe.cls = .ref C ∧ PySem.W.notCls oe = true ∧ H' a = none ∧ Inv X pins σ (upd H' a (.frz oe (.own a))) { s' with heap := h } := by
  obtain ⟨⟨pins, σ, H, s, I, ho, u⟩, hbare, hok, _⟩ := K
  obtain ⟨oe, vs, f1, f2, f3, _⟩ := hfl.first
  have hBa : B.get? a = none := hfl.2.1
  have hHa : H' a = none := by
    cases q : H' a with
    | none => rfl
    | some o =>
      obtain ⟨ob, hob⟩ := objThere (hok a o q)
      rw [hBa] at hob; cases hob
  have frb : ∀ b ∈ frs X.stack, ∀ o, s.heap.get? b = some o → ∃ sl, h.get? b = some { o with slots := sl } ∧ ∀ vs, o.data ≠ .fields vs := fun b hb o e => by
    obtain ⟨_, o', ho', hnf⟩ := I.stack.mem hb
    rw [e] at ho'; cases ho'
    obtain ⟨sl, e1⟩ := u.slot b o e (I.stkFree b hb) hb
    obtain ⟨sl2, e2⟩ := sm b _ e1 hnf
    exact ⟨sl2, e2, hnf⟩
  have ne : ∀ b o, s.heap.get? b = some o → b ≠ a := fun b o e z => by
    by_cases hb : b ∈ frs X.stack
    · obtain ⟨sl, e1, hnf⟩ := frb b hb o e
      rw [z, f1] at e1
      cases e1
      exact hnf vs f3
    · obtain ⟨o', e1⟩ := u.there b o e hb
      rw [z, hBa] at e1; cases e1
  refine ⟨pins, σ, oe, f1, f2, by unfold PySem.W.notCls; rw [f3], hHa, I.call' (ch := []) ho ⟨fun b o e n hb _ => hfl.1 b o (u.keep b o e n hb), fun b o e n hb _ => (frb b hb o e).imp fun sl q => q.1, fun b o e n _ => by rw [upd_ne (ne b o e)]; exact u.free b o e n, fun b o e _ => ?_,
    fun b xs e => ?_, fun b ob uu e => ?_, fun b ps e => ?_⟩ (fun b ob e => ?_) hbare fun b hb => nomatch hb⟩
  · by_cases hb : b ∈ frs X.stack
    · obtain ⟨sl, e1, _⟩ := frb b hb o e
      exact ⟨_, e1⟩
    · obtain ⟨o', e1⟩ := u.there b o e hb
      exact ⟨o', hfl.1 b o' e1⟩
  · have q := u.tups b xs e
    rw [upd_ne (fun z => by rw [z, hHa] at q; cases q)]; exact q
  · have q := u.frzs b ob uu e
    rw [upd_ne (fun z => by rw [z, hHa] at q; cases q)]; exact q
  · obtain ⟨m, q⟩ := u.tbls b ps e
    exact ⟨m, by rw [upd_ne (fun z => by rw [z, hHa] at q; cases q)]; exact q⟩
  · by_cases hb : b = a
    · subst hb
      rw [upd_same] at e
      cases e
      exact ⟨f1, oe, f1⟩
    · rw [upd_ne hb] at e
      refine (hok b ob e).stay (fun c u2 _ q => hfl.1 c u2 q) (fun c q => ?_) fun c xs q => ?_
      · rw [upd_ne (fun z => by rw [z, hHa] at q; cases q)]; exact q
      · rw [upd_ne (fun z => by rw [z, hHa] at q; cases q)]; exact q
/-- an except clause by an own class -/
theorem exc_match {M : Model} {A : Around} {E : Value → Shared → Prop} {K : PySem.W.Frag} {s : Shared} {D : Addr} {b : Bool} {Q : Bool → Shared → Prop} (kin : K.In s.heap) (I : TyAt s.heap a C) (hD : ExcK K D) (hty : PySem.W.typeIn K (.ref D) = some (.type "type"))
    (hs : PySem.W.subIn K (.ref C) (.ref D) = some b) (q : Q b s) : wpAny M A (excMatches (.ref a) (.ref D)) Q E s := by
  obtain ⟨hh, g, d, t, os⟩ := s
  have L1 := PySem.W.looks_typeIn (M := M) kin hty
  obtain ⟨_, _, _, _, _, L2'⟩ := hD.isType kin
  have L2 := L2' M
  have L3 : PySem.W.Looks M hh (isSubtype (.ref D) (.type "BaseException")) true := PySem.W.looks_mroIn (M := M) kin hD.mb
  have L4 := I.looks (M := M)
  have L5 := PySem.W.looks_subIn (M := M) kin hs
  have L6 : PySem.W.Looks M hh (isInstance (.ref D) (.type "tuple")) false := L1.andThen (PySem.W.Looks.of_pure tc_notTuple)
  unfold excMatches
  refine wpAny_bind (L6.at ?_)
  dsimp only
  rw [if_neg Bool.false_ne_true]
  refine wpAny_bind (wpAny_pure ?_)
  rw [List.forIn_cons]
  refine wpAny_bind (wpAny_bind (wpAny_bind ?_))
  unfold isExcClass
  refine wpAny_bind (L2.at ?_)
  dsimp only
  rw [if_pos rfl]
  refine L3.at ?_
  try dsimp only
  rw [if_neg (by decide)]
  refine wpAny_pure ?_
  dsimp only
  rw [List.forIn_nil]
  refine wpAny_pure (wpAny_bind (L4.at ?_))
  rw [List.forIn_cons]
  refine wpAny_bind (wpAny_bind (wpAny_bind (L5.at ?_)))
  cases b with
  | true =>
    rw [if_pos rfl]
    exact wpAny_pure (wpAny_pure (wpAny_pure q))
  | false =>
    rw [if_neg Bool.false_ne_true]
    refine wpAny_pure ?_
    dsimp only
    rw [List.forIn_nil]
    exact wpAny_pure (wpAny_pure q)
end
end IL

namespace IL
open PySem PySem.Spec PyProof.Rows L2

section
variable {X : Cx} {pins pins' pn' : List (Addr × Obj)} {σ : L2.St} {H : Hp} {s : Shared} {A' : Around} {xe' : Value → Shared → Prop} {calm' : Bool}
/-- the same body with other pins, another wish, within an except suite or not -/
abbrev altX (X : Cx) (A' : Around) (pn' : List (Addr × Obj)) (xe' : Value → Shared → Prop) (calm' : Bool) : Cx := { X with A := A', pn := pn', xe := xe', calm := calm' }
theorem ok_alt (ok : X.Ok) (hA : A'.frames = X.A.frames) (hh : calm' = true → A'.handled = none) : (altX X A' pn' xe' calm').Ok :=
  ⟨ok.mod, ok.kind, ok.glob, ok.blt, ok.above, ok.inj, ok.has, ok.cab, hh, hA.trans ok.frames, ok.stk, ok.exf, ok.bs, ok.bsz, ok.noex, ok.exfs, ok.funs, ok.frf⟩
theorem inv_alt (I : Inv X pins σ H s) (hA : A'.frames = X.A.frames) (hh : calm' = true → A'.handled = none) (hp : ∀ p ∈ pn' ++ pins', p ∈ X.pn ++ pins) : Inv (altX X A' pn' xe' calm') pins' σ H s :=
  ⟨ok_alt I.ok hA hh, I.os, I.bare, I.base, I.loc, I.cell, I.free, I.freeC, fun p h => I.pin p (hp p h), I.hok, I.len⟩
theorem inv_unalt (I : Inv (altX X A' pn' xe' calm') pins' σ H s) (hA : X.A.frames = A'.frames) (hh : X.calm = true → X.A.handled = none) (hp : ∀ p ∈ X.pn ++ pins, p ∈ pn' ++ pins') : Inv X pins σ H s :=
  inv_alt (X := altX X A' pn' xe' calm') (A' := X.A) (pn' := X.pn) (xe' := X.xe) (calm' := X.calm) I hA hh hp
end
/-- the name of an except clause goes -/
theorem name_goes {X : Cx} {pins : List (Addr × Obj)} {σ : L2.St} {H : Hp} {s : Shared} {i : Nat} {n : Str} {pos : Pos} {Q : Unit → Shared → Prop} {M : Model} {A : Around} {E : Value → Shared → Prop} (I : Inv X pins σ H s) (hN : X.N.Nodup) (hi : X.N[i]? = some n)
    (hl : X.env.scope.names.lookup n = some .local) (h : ∀ s', Inv X pins (σ.set i none) H s' → Q () s') : wpAny M A (do bindName X.env n .none; unbindBehindTheSuite X.env n pos) Q E s := by
  obtain ⟨m, hn, hlk⟩ := id I.loc
  have hcls : (X.env.scope.kind == .class || (X.env.scope.kind == .module && X.env.locals != X.env.globals)) = false := by rw [I.ok.kind]; rfl
  have neL : ∀ b o, X.s₀.heap.get? b = some o → b ≠ X.env.locals := fun b o e => Nat.ne_of_lt (Nat.lt_of_lt_of_le (Heap.lt_size e) I.ok.above)
  refine wpAny_nameGoes_keeps hl hn hcls fun h' v hn' hs => h _ ⟨I.ok, I.os, I.bare, ⟨fun b o e n' hb hx => (hs.2 b (neL b o e)).trans (I.base.keep b o e n' hb hx), fun b o e n' hb hx => ?_, I.base.free, fun b o e hx => ?_, I.base.tups, I.base.frzs, I.base.tbls⟩,
    ⟨_, hn', fun j y v' e1 e2 e3 => ?_⟩, fun y c e => ?_, I.free, I.freeC, fun p hp => ?_, fun b ob e => ?_, by rw [List.length_set]; exact I.len⟩
  · obtain ⟨sl, e1⟩ := I.base.slot b o e n' hb hx
    exact ⟨sl, (hs.2 b (neL b o e)).trans e1⟩
  · obtain ⟨o', e1⟩ := I.base.there b o e hx
    exact ⟨o', (hs.2 b (neL b o e)).trans e1⟩
  · have hj : j ≠ i := fun z => by
      subst z
      rw [List.getElem?_set] at e2
      split at e2
      · split at e2
        · cases e2
        · cases e2
      · rename_i z; exact z rfl
    rw [List.getElem?_set_ne (Ne.symm hj)] at e2
    obtain ⟨u', r', q⟩ := hlk j y v' e1 e2 e3
    refine ⟨u', r', ?_⟩
    rcases q with ⟨k, e⟩ | ⟨k, c, e, z⟩
    · refine .inl ⟨k, ?_⟩
      have : y ≠ n := fun e => hj (nodup_ix hN e1 (e ▸ hi))
      simp [this, e]
    · exact .inr ⟨k, c, e, z.sameBut hs (I.cne y c e)⟩
  · obtain ⟨w', z⟩ := I.cell y c e
    exact ⟨w', z.sameBut hs (I.cne y c e)⟩
  · obtain ⟨e, n', ne, nf, d⟩ := I.pin p hp
    exact ⟨(hs.2 p.1 ne).trans e, n', ne, nf, d⟩
  · refine (I.hok b ob e).stay (fun c w' hc q => (hs.2 c ?_).trans q) (fun _ q => q) fun _ _ q => q
    rintro rfl
    rcases hc with rfl | hc
    · rw [I.free] at e; cases e
    · rw [I.free] at hc; cases hc
def Fl.wo (i : Nat) : Fl → Fl
  | .nx σ => .nx (σ.set i none)
  | .bk σ => .bk (σ.set i none)
  | .ct σ => .ct (σ.set i none)
  | .rt w => .rt w
def nox {α : Type} (m : Mo α) : Mo α := fun ph => match m ph with
  | .ok a ph' => .ok a ph'
  | _ => .no
/-- body, then, where it raises an error that the table lets in, the suite; all names but the clause's are forgotten -/
def sTryAs (tb : List (Str × Bool)) (i : Nat) (b h : SM) : SM := fun σ ph => match b σ ph with
  | .ex x ph' => if tb.lookup x.cls = some true ∧ x.fs.isEmpty = true then nox (bnd (h ((List.replicate σ.length none).set i (some (.exc x.cls [] [])))) fun f => pur (f.wo i)) ph' else .no
  | .ok f ph' => .ok f ph'
  | .no => .no
theorem RelS.len {K : PySem.W.Frag} {φ : Nat → Addr} {n : Nat} {H : Hp} : ∀ {ws : PSt} {vs : L2.St}, RelS K φ n H ws vs → ws.length = vs.length
  | _, _, .nil => rfl
  | _, _, .sm _ r => by rw [List.length_cons, List.length_cons, RelS.len r]
  | _, _, .nn r => by rw [List.length_cons, List.length_cons, RelS.len r]
theorem RelS.none {K : PySem.W.Frag} {φ : Nat → Addr} {n : Nat} {H : Hp} : ∀ (vs : L2.St), RelS K φ n H (List.replicate vs.length Option.none) vs
  | [] => .nil
  | _ :: vs => .nn (RelS.none vs)
theorem RelS.unset {K : PySem.W.Frag} {φ : Nat → Addr} {n : Nat} {H : Hp} : ∀ {ws : PSt} {vs : L2.St} (i : Nat) {o : Option V}, RelS K φ n H ws vs → RelS K φ n H (ws.set i Option.none) (vs.set i o)
  | _, _, _, _, .nil => .nil
  | _, _, 0, _, .sm _ r => .nn r
  | _, _, 0, _, .nn r => .nn r
  | _, _, i + 1, _, .sm h r => .sm h (RelS.unset i r)
  | _, _, i + 1, _, .nn r => .nn (RelS.unset i r)
/-- what K tells of the class of an except clause -/
structure HandK (K : PySem.W.Frag) (D : Addr) : Prop where
  ek : ExcK K D
  ty : PySem.W.typeIn K (.ref D) = some (.type "type")
theorem step_exc {K : PySem.W.Frag} {φ : Nat → Addr} {n : Nat} {H : Hp} {a : Addr} {o : HO} (ha : H a = none) : Step K φ n H φ n (upd H a o) := by
  refine ⟨Nat.le_refl _, fun _ _ => rfl, fun c xs h => ?_, fun c ob u h => by rw [upd_ne (fun z => by rw [z, ha] at h; cases h)]; exact h⟩
  rcases h with (h | ⟨ob, h⟩) | h
  · exact .inl (.inl (by rw [upd_ne (fun z => by rw [z, ha] at h; cases h)]; exact h))
  · exact .inl (.inr ⟨ob, by rw [upd_ne (fun z => by rw [z, ha] at h; cases h)]; exact h⟩)
  · exact .inr h
end IL

namespace IL
open PySem PySem.Spec PyProof.Rows L2

/-- whether an except clause of the class at D lets each class of the table in -/
def HTab (K : PySem.W.Frag) (D : Addr) (tb : List (Str × Bool)) : Prop :=
  ∀ c b, tb.lookup c = some b → ∃ C, PySem.W.nsIn K mainGlobals c = some (some (.ref C)) ∧ PySem.W.subIn K (.ref C) (.ref D) = some b
theorem HTab.nil {K : PySem.W.Frag} {D : Addr} : HTab K D [] := fun c b e => by cases e
theorem HTab.cons {K : PySem.W.Frag} {D : Addr} {tb : List (Str × Bool)} {c : Str} {b : Bool} {C : Addr} (h1 : PySem.W.nsIn K mainGlobals c = some (some (.ref C))) (h3 : PySem.W.subIn K (.ref C) (.ref D) = some b) (h : HTab K D tb) :
    HTab K D ((c, b) :: tb) := fun c' b' e => by
  rw [List.lookup_cons] at e
  split at e
  · rename_i q
    cases e
    rw [beq_iff_eq] at q
    subst q
    exact ⟨C, h1, h3⟩
  · exact h c' b' e
theorem relH_exc {K : PySem.W.Frag} {φ : Nat → Addr} {ph : PH} {H : Hp} {a : Addr} {o : HO} (h : RelH K φ ph H) (ha : H a = none) : RelH K φ ph (upd H a o) :=
  ⟨fun i p e => by
    obtain ⟨x, hx, _⟩ := h.at (List.getElem?_eq_some_iff.mp e).1
    exact (h.hp i p e).mono (step_exc ha) (upd_ne fun z => by rw [z, ha] at hx; cases hx), h.inj⟩
section
variable {X : Cx}
theorem thr_alt {pn' : List (Addr × Obj)} {E : Value → Shared → Prop} {x : XC} {H' : Hp} {e : Value} {s' : Shared} (hh : X.calm = true → X.A.handled = none) (h : Thr (altX X X.A pn' E X.calm) x H' e s') : Thr (altX X X.A pn' X.xe X.calm) x H' e s' := by
  obtain ⟨C, hm, hf, h⟩ := h
  refine ⟨C, hm, hf, ?_⟩
  rcases h with ⟨pins, σ, s, vs, h', a, e1, e2, I, hx⟩ | ⟨pins, σ, H, s, I, h⟩
  · exact .inl ⟨pins, σ, s, vs, h', a, e1, e2, inv_alt (X := altX X X.A pn' E X.calm) I rfl hh fun _ z => z, hx⟩
  · exact .inr ⟨pins, σ, H, s, inv_alt (X := altX X X.A pn' E X.calm) I rfl hh fun _ z => z, h⟩
variable {body suite : List Stmt} {b₀ : Stmt} {c n : Str} {i : Nat} {tb : List (Str × Bool)} {D : Addr} {np hpos pos : Pos} {mb mh : SM}
theorem is_try_as (T : TopF X) (hcalm : X.calm = true) (hgc : Gl X c) (hmc : X.mg c = some (.ref D)) (hdb : (c == ("__debug__" : Str)) = false) (hk : HandK X.K D) (hT : HTab X.K D tb) (hN : X.N.Nodup) (hi : X.N[i]? = some n) (hl : X.env.scope.names.lookup n = some .local)
    (hb : ∀ pn E, ISs (altX X X.A pn E X.calm) body mb) (hh : ∀ a E, ISs (altX X (X.A.mark (some (.ref a))) X.pn E false) (b₀ :: suite) mh) :
    IS X (.Try body [.ExceptHandler (some (.Name c np)) (some n) (b₀ :: suite) hpos] [] [] pos) (sTryAs tb i mb mh) := by
  intro pins s σ H Dn I h
  obtain ⟨φ, ph, ws, hH, hS, h⟩ := h
  have hhd := I.ok.hd
  let X0 : Cx := altX X X.A (X.pn ++ pins) X.xe X.calm
  let E1 : Value → Shared → Prop := fun e s' => ∃ x ph' φ' H', mb ws ph = .ex x ph' ∧ RelH X.K φ' ph' H' ∧ Step X.K φ ph.length H φ' ph'.length H' ∧ Thr X0 x H' e s'
  have I1 : Inv (altX X X.A (X.pn ++ pins) E1 X.calm) [] σ H s := inv_alt I rfl hhd fun p hp => by simpa using hp
  have back : ∀ {σ' : L2.St} {H' : Hp} {s' : Shared}, Inv (altX X X.A (X.pn ++ pins) E1 X.calm) [] σ' H' s' → Inv X pins σ' H' s' := fun {σ' H' s'} J => inv_unalt J rfl hhd fun p hp => by simpa using hp
  have body1 : tS (altX X X.A (X.pn ++ pins) E1 X.calm) mb Dn σ H := by
    refine ⟨φ, ph, ws, hH, hS, ?_⟩
    unfold sTryAs at h
    cases q : mb ws ph with
    | ok f ph' => rw [q] at h; exact h
    | no => rw [q] at h; exact h
    | ex x ph' => exact fun φ' H' e s' r st th => ⟨x, ph', φ', H', q, r, st, thr_alt hhd th⟩
  refine wpAny_Try_except (wpAny_mono (hb (X.pn ++ pins) E1 [] s σ H Dn I1 body1) (fun f s1 z => ?_) fun e s1 z => ?_)
  · cases f with
    | next =>
      obtain ⟨σ', H', J, q⟩ := z
      exact wpAny_execs_nil ⟨σ', H', back J, q⟩
    | brk => obtain ⟨σ', H', J, q⟩ := z; exact ⟨σ', H', back J, q⟩
    | cont => obtain ⟨σ', H', J, q⟩ := z; exact ⟨σ', H', back J, q⟩
    | ret u => obtain ⟨v, σ', H', J, r, q⟩ := z; exact ⟨v, σ', H', back J, r, q⟩
  · obtain ⟨x, ph', φ', H', q, rH, st, th⟩ := z
    unfold sTryAs at h
    rw [q] at h
    dsimp only at h
    by_cases hx : tb.lookup x.cls = some true ∧ x.fs.isEmpty = true
    case neg => rw [if_neg hx] at h; exact h.elim
    rw [if_pos hx] at h
    obtain ⟨C, hmx, hfs, a, B, rfl, K⟩ := took (X := X0) ⟨T.st, T.fr, T.ex⟩ th
    obtain ⟨C', tn, tsub⟩ := hT _ _ hx.1
    have hmx' := PySem.W.mg_of I.ok.mod.kin I.ok.mod.glob tn
    have hmx2 : X.mg x.cls = some (.ref C) := hmx
    rw [hmx2] at hmx'
    cases hmx'
    refine K.note (A := X.A) I.ok.frames fun h4 a0 held4 sm4 => ?_
    refine wpAny_landsW held4 fun h5 fl5 sm5 => ?_
    obtain ⟨pins5, σ5, oe5, ge5, gc5, _, hHa, J5⟩ := K.inv (X := X0) ⟨T.st, T.fr, T.ex⟩ fl5 (sm4.trans sm5)
    let X2 : Cx := altX X (X.A.mark (some (.ref a))) X.pn (fun _ _ => False) false
    have to2 : ∀ {p5 : List (Addr × Obj)} {σ' : L2.St} {H2 : Hp} {s' : Shared}, Inv X0 p5 σ' H2 s' → Inv X2 pins σ' H2 s' := fun {p5 σ' H2 s'} J => inv_alt (X := X0) J rfl (fun z => nomatch z) fun p hp => List.mem_append_left _ hp
    have J5' := to2 J5
    refine wpAny_handleBy_cons (codeAny_handlers_test (ld_glob (X := X2) J5' hgc hmc ?_ hdb)) (by intro z; cases z)
    refine exc_match J5'.kIn ⟨oe5, ge5, gc5⟩ hk.ek hk.ty tsub (codeAny_handlers_suite_as ?_)
    refine lands_againW fl5 fun h6 fl6 sm6 => ?_
    obtain ⟨pins6, σ6, oe6, ge6, gc6, gn6, _, J6⟩ := K.inv (X := X0) ⟨T.st, T.fr, T.ex⟩ fl6 ((sm4.trans sm5).trans sm6)
    have J6' := to2 J6
    refine store_ok (X := X2) J6' hN hi (.inl hl) (v := .ref a) rfl (fun s7 J7 => ?_) (.inr hl)
    have hlen : ws.length = σ6.length := by rw [hS.len, I.len]; exact J6.len.symm
    let D' : Ends := { nx := fun σ' H' => Dn.nx (σ'.set i none) H', bk := fun σ' H' => Dn.bk (σ'.set i none) H', ct := fun σ' H' => Dn.ct (σ'.set i none) H', rt := Dn.rt }
    have hsuite : tS X2 mh D' (σ6.set i (some (.ref a))) (upd H' a (.frz oe6 (.own a))) := by
      refine ⟨φ', ph', (List.replicate ws.length none).set i (some (.exc x.cls [] [])), relH_exc rH hHa, RelS.set (ws := List.replicate ws.length none) (.exc upd_same gc6 tn gn6 (.inl ⟨rfl, rfl⟩) .nil) i (by rw [hlen]; exact RelS.none σ6), ?_⟩
      unfold nox bnd at h
      cases q2 : mh ((List.replicate ws.length none).set i (some (.exc x.cls [] []))) ph' with
      | no => rw [q2] at h; exact h.elim
      | ex y p2 => rw [q2] at h; exact h.elim
      | ok f p2 =>
        rw [q2] at h
        intro φ2 H2 r2 s2
        have h2 := h φ2 H2 r2 ((st.trans (step_exc hHa)).trans s2)
        cases f with
        | nx ws' => exact fun σ' r => h2 (σ'.set i none) (RelS.unset i r)
        | bk ws' => exact fun σ' r => h2 (σ'.set i none) (RelS.unset i r)
        | ct ws' => exact fun σ' r => h2 (σ'.set i none) (RelS.unset i r)
        | rt w => exact h2
    have from2 : ∀ {σ' : L2.St} {H2 : Hp} {s' : Shared}, Inv X2 pins σ' H2 s' → Inv X pins σ' H2 s' := fun {σ' H2 s'} J => inv_unalt J rfl hhd fun p hp => hp
    refine wpAny_mono (hh a (fun _ _ => False) pins s7 _ _ D' J7 hsuite) (fun f s8 z => ?_) fun _ _ z => z.elim
    cases f with
    | next =>
      obtain ⟨σ', H2, J8, q8⟩ := z
      exact name_goes (from2 J8) hN hi hl fun s9 J9 => ⟨_, H2, J9, q8⟩
    | brk =>
      obtain ⟨σ', H2, J8, q8⟩ := z
      exact name_goes (from2 J8) hN hi hl fun s9 J9 => ⟨_, H2, J9, q8⟩
    | cont =>
      obtain ⟨σ', H2, J8, q8⟩ := z
      exact name_goes (from2 J8) hN hi hl fun s9 J9 => ⟨_, H2, J9, q8⟩
    | ret u =>
      obtain ⟨v, σ', H2, J8, r8, q8⟩ := z
      exact name_goes (from2 J8) hN hi hl fun s9 J9 => ⟨v, _, H2, J9, r8, q8⟩
theorem js_try_as {N : List Str} {sc : Scope} {k : Nat} (B : BdT X N sc k) (T : TopF X) (hsc : X.env.scope = sc) (hgc : Gl X c) (hmc : X.mg c = some (.ref D)) (hdb : (c == ("__debug__" : Str)) = false) (hk : HandK X.K D) (hT : HTab X.K D tb) (i : Nat) (hi : N[i]? = some n) (hl : sc.names.lookup n = some .local)
    (hb : ∀ {X' : Cx}, X'.K = X.K → X'.mg = X.mg → X'.prog = X.prog → X'.w = X.w → X'.base = X.base → BdT X' N sc k → JB X' body mb) (hh : ∀ {X' : Cx}, X'.K = X.K → X'.mg = X.mg → BdL X' N sc → JB X' (b₀ :: suite) mh) :
    JS X (.Try body [.ExceptHandler (some (.Name c np)) (some n) (b₀ :: suite) hpos] [] [] pos) (sTryAs tb i mb mh) :=
  ⟨is_try_as T B.calm hgc hmc hdb hk hT (by rw [B.hN]; exact B.nd) (by rw [B.hN]; exact hi) (by rw [hsc]; exact hl)
    (fun pn E => (hb (X' := altX X X.A pn E X.calm) rfl rfl rfl rfl rfl ⟨⟨B.hN, B.vis, B.loc, B.gl, B.fn, B.nd⟩, B.calm, B.room⟩).h)
    (fun a E => (hh (X' := altX X (X.A.mark (some (.ref a))) X.pn E false) rfl rfl ⟨B.hN, B.vis, B.loc, B.gl, B.fn, B.nd⟩).h)⟩
end
end IL

namespace IL
open PySem PySem.Spec PyProof.Rows L2

/-! ### 26. More operations: is of truths, **, list.index -/
def isBW : W → W → Po W := fun x y => match x, y with
  | .bl a, .bl b => ret (.bl (a == b))
  | _, _ => nono
def notBW : W → W → Po W := fun x y => match x, y with
  | .bl a, .bl b => ret (.bl (a != b))
  | _, _ => nono
def rB2 (f : Bool → Bool → Bool) : R2 := fun x y H Q => ∃ a b, x = .bl a ∧ y = .bl b ∧ Q (.bl (f a b)) H
theorem op_isB {X : Cx} : OpR X (compareOp .Is) (rB2 fun a b => a == b) := by
  intro pins s σ H x y v u Q I rx ry h
  obtain ⟨a, b, rfl, rfl, q⟩ := h
  cases rx; cases ry
  exact is_bool ⟨.bl _, H, I, rfl, q⟩
theorem op_notB {X : Cx} : OpR X (compareOp .IsNot) (rB2 fun a b => a != b) := by
  intro pins s σ H x y v u Q I rx ry h
  obtain ⟨a, b, rfl, rfl, q⟩ := h
  cases rx; cases ry
  exact isnot_bool ⟨.bl _, H, I, rfl, q⟩
theorem isBW_i {K : PySem.W.Frag} : OpI K (rB2 fun a b => a == b) isBW := by
  intro φ ph H x y vx vy w ph' Q hH rx ry e k
  unfold isBW at e
  split at e
  · cases e; cases rx; cases ry
    exact ⟨_, _, rfl, rfl, k φ H _ hH Step.refl (.bl _)⟩
  · cases e
theorem notBW_i {K : PySem.W.Frag} : OpI K (rB2 fun a b => a != b) notBW := by
  intro φ ph H x y vx vy w ph' Q hH rx ry e k
  unfold notBW at e
  split at e
  · cases e; cases rx; cases ry
    exact ⟨_, _, rfl, rfl, k φ H _ hH Step.refl (.bl _)⟩
  · cases e
theorem cp_isB {X : Cx} {b : Expr} : Cp X .Is b isBW := ⟨⟨_, op_isB, isBW_i⟩, nomark _⟩
theorem cp_isnB {X : Cx} {b : Expr} : Cp X .IsNot b notBW := ⟨⟨_, op_notB, notBW_i⟩, nomark _⟩
def powW : W → W → Po W := fun x y => match x, y with
  | .int i, .int j => if (decide (0 ≤ j) && decide (j ≤ 1000000) && decide (i.natAbs < 2 ^ 64)) = true then ret (.int (i ^ j.toNat)) else nono
  | _, _ => nono
theorem powW_i {K : PySem.W.Frag} : OpI K (rI CPow fun i j => .int (i ^ j.toNat)) powW := by
  intro φ ph H x y vx vy w ph' Q hH rx ry e k
  unfold powW at e
  split at e
  · split at e
    · rename_i hc
      cases e; cases rx; cases ry
      simp only [Bool.and_eq_true, decide_eq_true_eq] at hc
      exact ⟨_, _, rfl, rfl, ⟨hc.1.1, hc.1.2, hc.2⟩, k φ H _ hH Step.refl (.int _)⟩
    · cases e
  · cases e
theorem je_pow {X : Cx} {a b : Expr} {ma mb : EM} {pos : Pos} (ha : JE X a ma) (hb : JE X b mb) : JE X (.BinOp a .Pow b pos) (eOp powW ma mb) := ⟨ie_op op_pow powW_i ha.h hb.h⟩
/-- list.index -/
def ixD (ph : PH) (x y : W) : Option Nat := match (if isL x ph = true then seqW x ph else none), dat ph 40 y with
  | some ws, some dy => (mapO (dat ph 40) ws).bind fun ds => ds.findIdx? fun d => PyData.eqv d dy
  | _, _ => none
def indexW (x : W) (ys : List W) : Po W := fun ph => match ys with
  | [y] => (ixD ph x y).map fun (j : Nat) => (W.int ((j : Nat) : Int), ph)
  | _ => none
def rIndex (K : PySem.W.Frag) : V → List V → Hp → VK → Prop := fun x ys H Q => ∃ (φ : Nat → Addr) (ph : PH) (wx wy : W) (y : V) (j : Nat), ys = [y] ∧ RelH K φ ph H ∧ RelW K φ ph.length H wx x ∧ RelW K φ ph.length H wy y ∧ ixD ph wx wy = some j ∧ Q (.int (j : Int)) H
theorem ans_ix {X : Cx} {pins : List (Addr × Obj)} {σ : L2.St} {H : Hp} {s : Shared} {φ : Nat → Addr} {ph : PH} (I : Inv X pins σ H s) (hH : RelH X.K φ ph H) {dx : PyData} : ∀ {ws : List W} {vs : List V} {us : List Value} {ds : List PyData}, RelWs X.K φ ph.length H ws vs → Vals vs us → mapO (dat ph 40) ws = some ds →
    us.findIdx? (ansOf s dx) = ds.findIdx? fun d => PyData.eqv d dx
  | _, _, _, _, .nil, .nil, e => by cases e; rfl
  | w :: ws, _, _, ds, .cons h r, .cons hv rv, e => by
    unfold mapO at e
    split at e
    · rename_i b bs e1 e2
      cases e
      have q := dat_reads I hH 40 h hv e1
      rw [List.findIdx?_cons, List.findIdx?_cons, ans_ix I hH r rv e2, ansOf_eq q]
    · cases e
theorem isL_lst {K : PySem.W.Frag} {φ : Nat → Addr} {ph : PH} {H : Hp} {x : W} {v : V} {ws : List W} (hH : RelH K φ ph H) (r : RelW K φ ph.length H x v) (h : isL x ph = true) (e : seqW x ph = some ws) : ∃ a vs, v = .ref a ∧ SqL K H a vs ∧ RelWs K φ ph.length H ws vs := by
  unfold isL at h
  unfold seqW at e
  cases r with
  | fl hq r => cases e; exact ⟨_, _, rfl, hq.sq, r⟩
  | ref hi =>
    simp only at e
    split at e
    · rename_i ws' hw
      cases e
      obtain ⟨vs, hv, r⟩ := hH.hp _ _ hw
      exact ⟨_, vs, rfl, SqL.of hv, r⟩
    · cases e
  | _ => cases h
theorem mt_index {X : Cx} (hu : X.A.units + 64 < cLine) : MtR X "list.index" (rIndex X.K) := by
  intro pins s σ H x xs v us Q I rx rv h
  obtain ⟨φ, ph, wx, wy, y, j, rfl, hH, r1, r2, e, q⟩ := h
  obtain ⟨u, rfl, ru⟩ := rv.one
  unfold ixD at e
  split at e
  · rename_i ws dy hs hd
    have hL : isL wx ph = true := by
      cases z : isL wx ph with
      | true => rfl
      | false => rw [z, if_neg Bool.false_ne_true] at hs; cases hs
    rw [if_pos hL] at hs
    obtain ⟨ds, e1, e2⟩ := Option.bind_eq_some_iff.mp e
    obtain ⟨a, vs, rfl, hq, rs⟩ := isL_lst hH r1 hL hs
    cases rx
    obtain ⟨its, rvs, ⟨o, n, ho, hc, hdn, hdt⟩, hz⟩ := I.list hq
    obtain ⟨oc, od, odt, osl⟩ := o
    cases (show oc = _ from hc)
    cases (show odt = _ from hdt)
    obtain ⟨⟨as, k1⟩, c1, l1⟩ := dat_reads I hH 40 r2 ru hd
    have q2 := (ans_all I hH (dx := dy) rs rvs e1).2
    rw [← ans_ix I hH rs rvs e1, List.findIdx?_eq_some_iff_getElem] at e2
    obtain ⟨hj, hit, hno⟩ := e2
    have hlen : its.length ≤ sizeLine := by rw [← rvs.length]; exact hz
    refine call_meets F.slot_list_index ⟨_, ho, rfl⟩ F.entry_list_index (F.args_list_index_2 _ _) (SeqAt.list_indexAt a its.toArray n od osl u (ansOf s dy) j (by simpa using hj) ?_ (by simpa using hit) fun m hm hmj => ?_) ⟨ho, fun z hz' => ?_, .int _, H, I.tok _, ⟨_, rfl⟩, q⟩
    · have : (j : Int) < its.length := by exact_mod_cast hj
      have h2 : ((its.length : Nat) : Int) ≤ (sizeLine : Nat) := by exact_mod_cast hlen
      have h3 : ((sizeLine : Nat) : Int) ≤ 2 ^ 62 := by rw [sizeLine_eq]; decide
      omega
    · have := hno m hmj
      simpa using this
    · obtain ⟨d, hd'⟩ := q2 z (by simpa using hz')
      rw [ansOf_eq hd']
      obtain ⟨⟨bs, k2⟩, c2, l2⟩ := hd'
      intro prog w E Q hQ
      exact SeqAt.eqBoolOverData prog w _ E s z u d dy bs as Q k2 k1 c2 c1 (by show X.A.units + 1 + _ < _; omega) hQ
  · cases e
theorem indexW_i {K : PySem.W.Frag} : MtI K "list" (rIndex K) indexW := by
  intro φ ph H x xs vx vs w ph' Q hH rx rs e k
  unfold indexW at e
  split at e
  · obtain ⟨j, e1, e2⟩ := Option.map_eq_some_iff.mp e
    cases e2
    cases rs with
    | cons r0 r1 =>
      cases r1
      exact ⟨φ, ph, x, _, _, j, rfl, hH, rx, r0, e1, k φ H _ hH Step.refl (.int _)⟩
  · cases e
/-- a def by its body, the numbers written; the body knows that it is a def's -/
theorem fun_ilT {P : Program} {w : World} {K : PySem.W.Frag} {mg : Str → Option Value} {base : Heap} {x qual : Str} {st : Stmt} {f : Addr} {fd : FuncData} {N ps : List Str} {k n np : Nat} {body : SM} (hn : N.length = n) (hp : ps.length = np) (F : Fun K x qual st f fd) (S : FnScope N ps (defScope st))
    (hbody : ∀ {X : Cx}, X.prog = P → X.w = w → X.K = K → X.mg = mg → X.base = base → Bd X N (defScope st) k → TopF X → X.env.scope = defScope st → JB X (defBody st) body) : FnOk P w K mg base (CXW P w) (k + 1) f fd ps (spM K mg np (fM body n np)) := by
  subst hn hp
  exact fun_il F S fun cdv A outer s H E hr => (hbody (X := cxOf (CXW P w) P w K mg base N qual (defScope st) f cdv A outer s H E) rfl rfl rfl rfl rfl ⟨⟨⟨rfl, fun _ z => z, fun _ z => z, fun _ z => z, fun _ _ => .inl rfl, S.nd⟩, rfl, hr⟩, PassesOwn.leaving⟩ ⟨rfl, rfl, rfl⟩ rfl).h
end IL

namespace IL
open PySem PySem.Spec PyProof.Rows L2

/-! ### 27. The law's head -/
theorem boot_ValueError : bootBuiltins "ValueError" = some (.type "ValueError") := by kernel_rfl
/-- the law at a script: it answers True -/
def spT (K : PySem.W.Frag) : Sp := fun vs H Q _ => ∃ (a : Addr) (ns : List Int), vs = [.ref a] ∧ ns.length ≤ 63 ∧ Only H ∧ SqL K H a (ns.map V.int) ∧ ∀ H', Q (.bl true) H'
theorem spT_imp {K : PySem.W.Frag} {mg : Str → Option Value} {fm : List W → Mo W} (good : ∀ ns : List Int, ns.length ≤ 63 → ∃ ph', fm [.fl (ns.map W.int)] [] = .ok (.bl true) ph') {vs : List V} {H : Hp} {Q : VK} {E : XK} (h : spT K vs H Q E) : spM K mg 1 fm vs H Q E := by
  obtain ⟨a, ns, rfl, hl, hO, hS, q⟩ := h
  obtain ⟨h1, φ, ph, args, h2, h3, h4⟩ := law_sp (mg := mg) hO hS (good ns hl)
  refine ⟨h1, φ, ph, args, h2, h3, ?_⟩
  cases e : fm args ph with
  | ok w ph' =>
    rw [e] at h4
    intro φ' H' v r1 r2 r3
    have := h4 φ' H' v r1 r2 r3
    subst this
    exact q H'
  | ex x ph' =>
    rw [e] at h4
    exact fun φ' H' C r1 r2 r3 r4 => (h4 φ' H' C r1 r2 r3 r4).elim
  | no => rw [e] at h4; exact h4
theorem walk_il {l : PySem.W.OpenLaw} {q : Program} {loose : List Str} {XP : (Str → Option Value) → Heap → Prop} {YP : World → Heap → Prop} {d : DefRec} {K : Params → PySem.W.Frag} {x : Str} {fm : List W → Mo W} (k : Nat)
    (good : ∀ ns : List Int, ns.length ≤ 63 → ∃ ph', fm [.fl (ns.map W.int)] [] = .ok (.bl true) ph') (hn : l.most = some 63) (hdf : d.params.defaults = []) (hr : Room k callerA) (hY : ∀ (w : World) (h : Heap), YP w h → (K w.params).In h)
    (F : ∀ (w : World) (mg : Str → Option Value) (fa : Addr) (h : Heap), (K w.params).In h → h.Ns mainGlobals mg → mg d.name = some (.ref fa) →
      ∃ fd : FuncData, (∀ (s : Shared) (u : Value), BindsTo s fd ⟨[u], []⟩ [(x, u)]) ∧ ∀ base : Heap, (K w.params).In base → base.Ns mainGlobals mg → FnOk l.prog w (K w.params) mg base (CXW l.prog w) k fa fd [x] (spM (K w.params) mg 1 fm)) :
    PySem.W.WalkO q loose XP YP l.row.toRowW d [] (fun f vs => PySem.call f vs) :=
  L2.walk_of (n := 63) (k := k) (x := x) (CX := fun w => CXW l.prog w) (sp := fun w => spT (K w.params)) hn (by decide) hdf hr hY
    (fun w mg fa h KX G hm => let ⟨fd, b, f⟩ := F w mg fa h KX G hm; ⟨fd, b, fun base i g => FnOk.imp (f base i g) fun _ _ _ _ z => spT_imp good z⟩)
    (fun w H a ns hl hO hS => ⟨a, ns, rfl, hl, hO, hS, fun _ => rfl⟩) fun w H s e s' ⟨_, _, _, z⟩ => z
end IL

namespace IL
open PySem PySem.Spec PyProof.Rows L2

/-! ### 31. any, all of a list of truths -/
def blW : W → Option Bool
  | .bl b => some b
  | _ => none
def blsW (w : W) (ph : PH) : Option (List Bool) := if isL w ph = true then (seqW w ph).bind (mapO blW) else none
def anyW : List W → Po W := fun xs ph => match xs with
  | [w] => (blsW w ph).map fun bs => (.bl (bs.any id), ph)
  | _ => none
def allW : List W → Po W := fun xs ph => match xs with
  | [w] => (blsW w ph).map fun bs => (.bl (bs.all id), ph)
  | _ => none
section
variable {X : Cx}
theorem rng_any (bs : List Bool) : ((List.range bs.length).any fun i => (bs[i]?).getD false) = bs.any id := by
  rw [Bool.eq_iff_iff, List.any_eq_true, List.any_eq_true]
  constructor
  · rintro ⟨i, hi, e⟩
    have hi := List.mem_range.mp hi
    simp only [List.getElem?_eq_getElem hi, Option.getD_some] at e
    exact ⟨_, List.getElem_mem hi, e⟩
  · rintro ⟨b, hb, e⟩
    obtain ⟨i, hi, q⟩ := List.getElem_of_mem hb
    exact ⟨i, List.mem_range.mpr hi, by simp only [List.getElem?_eq_getElem hi, Option.getD_some, q]; exact e⟩
theorem rng_all (bs : List Bool) : ((List.range bs.length).all fun i => (bs[i]?).getD true) = bs.all id := by
  rw [Bool.eq_iff_iff, List.all_eq_true, List.all_eq_true]
  constructor
  · intro h b hb
    obtain ⟨i, hi, q⟩ := List.getElem_of_mem hb
    have := h i (List.mem_range.mpr hi)
    simp only [List.getElem?_eq_getElem hi, Option.getD_some, q] at this
    exact this
  · intro h i hi
    have hi := List.mem_range.mp hi
    simp only [List.getElem?_eq_getElem hi, Option.getD_some]
    exact h _ (List.getElem_mem hi)
theorem kept_new {h h' : Heap} {o : Obj} (hk : ∀ b x, b ∉ [h.objs.size] → (h.push o).get? b = some x → h'.get? b = some x) : ∀ b x, h.get? b = some x → h'.get? b = some x :=
  fun b x e => hk b x (fun hm => by rw [List.mem_singleton.mp hm] at e; exact Nat.lt_irrefl _ (Heap.lt_size e)) (Heap.get?_push_of_some _ e)
theorem call_any_l (hc : X.calm = true) : CallR X (.builtin "any") (fun xs H Q => ∃ p, ∃ bs : List Bool, xs = [.ref p] ∧ SqL X.K H p (bs.map V.bl) ∧ Q (.bl (bs.any id)) H) := by
  intro pins s σ H xs us Q I r h
  obtain ⟨p, bs, rfl, hq, q⟩ := h
  obtain ⟨u, rfl, rx⟩ := vals1 r
  cases rx
  obtain ⟨its, r', pl, hz⟩ := I.list hq
  have hlen := r'.length
  rw [List.length_map] at hlen
  have hlt : p < s.heap.objs.size := by obtain ⟨_, e, _⟩ := pl.isList; exact Heap.lt_size e
  refine call_any_walk (wpAny_pyIter_list pl.isList ?_)
  refine ⟨s.heap.objs.size, [s.heap.objs.size, p], [s.heap.objs.size], its.toArray.size, _, _, fun i => (bs[i]?).getD false, rfl, Walks.list (A := X.A.in1) (I.ok.hd hc) _ p (Nat.ne_of_lt hlt) its.toArray,
    ⟨⟨_, Heap.get?_push_size _ rfl, rfl, rfl⟩, pl.isList.push _⟩, fun i v s' Q' E' hP hQ => ?_, fun h' tk hk => ?_⟩
  · have hP : its[i]? = some v := by simpa using hP
    have hi : i < bs.length := by rw [hlen]; exact (List.getElem?_eq_some_iff.mp hP).1
    obtain ⟨u, hu, ru⟩ := r'.get (i := i) (x := .bl bs[i]) (by simp [hi])
    rw [hP] at hu; cases hu
    have ru : v = .bool bs[i] := ru
    subst ru
    simp only [List.getElem?_eq_getElem hi, Option.getD_some] at hQ
    exact wpAny_truthy_bool hQ
  · rw [List.size_toArray, ← hlen, rng_any]
    exact ⟨.bl _, H, I.kept (kept_new hk), rfl, q⟩
theorem call_all_l (hc : X.calm = true) : CallR X (.builtin "all") (fun xs H Q => ∃ p, ∃ bs : List Bool, xs = [.ref p] ∧ SqL X.K H p (bs.map V.bl) ∧ Q (.bl (bs.all id)) H) := by
  intro pins s σ H xs us Q I r h
  obtain ⟨p, bs, rfl, hq, q⟩ := h
  obtain ⟨u, rfl, rx⟩ := vals1 r
  cases rx
  obtain ⟨its, r', pl, hz⟩ := I.list hq
  have hlen := r'.length
  rw [List.length_map] at hlen
  have hlt : p < s.heap.objs.size := by obtain ⟨_, e, _⟩ := pl.isList; exact Heap.lt_size e
  refine call_all_walk (wpAny_pyIter_list pl.isList ?_)
  refine ⟨s.heap.objs.size, [s.heap.objs.size, p], [s.heap.objs.size], its.toArray.size, _, _, fun i => (bs[i]?).getD true, rfl, Walks.list (A := X.A.in1) (I.ok.hd hc) _ p (Nat.ne_of_lt hlt) its.toArray,
    ⟨⟨_, Heap.get?_push_size _ rfl, rfl, rfl⟩, pl.isList.push _⟩, fun i v s' Q' E' hP hQ => ?_, fun h' tk hk => ?_⟩
  · have hP : its[i]? = some v := by simpa using hP
    have hi : i < bs.length := by rw [hlen]; exact (List.getElem?_eq_some_iff.mp hP).1
    obtain ⟨u, hu, ru⟩ := r'.get (i := i) (x := .bl bs[i]) (by simp [hi])
    rw [hP] at hu; cases hu
    have ru : v = .bool bs[i] := ru
    subst ru
    simp only [List.getElem?_eq_getElem hi, Option.getD_some] at hQ
    exact wpAny_truthy_bool hQ
  · rw [List.size_toArray, ← hlen, rng_all]
    exact ⟨.bl _, H, I.kept (kept_new hk), rfl, q⟩
theorem bls_rel {K : PySem.W.Frag} {φ : Nat → Addr} {n : Nat} {H : Hp} : ∀ {ws : List W} {vs : List V} {bs : List Bool}, RelWs K φ n H ws vs → mapO blW ws = some bs → vs = bs.map V.bl
  | _, _, _, .nil, e => by cases e; rfl
  | w :: ws, _, bs, .cons h r, e => by
    unfold mapO at e
    split at e
    · rename_i b bs' e1 e2
      cases e
      have q := bls_rel r e2
      unfold blW at e1
      cases h <;> cases e1
      rw [q]; rfl
    · cases e
theorem blsW_rel {K : PySem.W.Frag} {φ : Nat → Addr} {ph : PH} {H : Hp} {w : W} {v : V} {bs : List Bool} (hH : RelH K φ ph H) (r : RelW K φ ph.length H w v) (e : blsW w ph = some bs) : ∃ p, v = .ref p ∧ SqL K H p (bs.map V.bl) := by
  unfold blsW at e
  split at e
  · rename_i hL
    cases r with
    | ref hi =>
      unfold isL at hL
      simp only at hL
      split at hL
      · rename_i ws hw
        obtain ⟨vs, hv, rs⟩ := hH.hp _ _ hw
        simp only [seqW, hw, Option.bind_some] at e
        rw [bls_rel rs e] at hv
        exact ⟨_, rfl, SqL.of hv⟩
      · cases hL
    | fl h rs =>
      simp only [seqW, Option.bind_some] at e
      have q := bls_rel rs e
      subst q
      exact ⟨_, rfl, h.sq⟩
    | _ => cases hL
  · cases e
theorem anyW_i {K : PySem.W.Frag} : CallI K (fun xs H Q => ∃ p, ∃ bs : List Bool, xs = [.ref p] ∧ SqL K H p (bs.map V.bl) ∧ Q (.bl (bs.any id)) H) anyW := by
  intro φ ph H xs vs w ph' Q hH r e k
  unfold anyW at e
  split at e
  · rename_i x
    cases q : blsW x ph with
    | none => rw [q] at e; cases e
    | some bs =>
      rw [q] at e
      cases e
      cases r with
      | cons r r' =>
        cases r'
        obtain ⟨p, rfl, hs⟩ := blsW_rel hH r q
        exact ⟨p, bs, rfl, hs, k φ H _ hH Step.refl (.bl _)⟩
  · cases e
theorem allW_i {K : PySem.W.Frag} : CallI K (fun xs H Q => ∃ p, ∃ bs : List Bool, xs = [.ref p] ∧ SqL K H p (bs.map V.bl) ∧ Q (.bl (bs.all id)) H) allW := by
  intro φ ph H xs vs w ph' Q hH r e k
  unfold allW at e
  split at e
  · rename_i x
    cases q : blsW x ph with
    | none => rw [q] at e; cases e
    | some bs =>
      rw [q] at e
      cases e
      cases r with
      | cons r r' =>
        cases r'
        obtain ⟨p, rfl, hs⟩ := blsW_rel hH r q
        exact ⟨p, bs, rfl, hs, k φ H _ hH Step.refl (.bl _)⟩
  · cases e
end
/-! list.extend of a list -/
def extendW : W → List W → Po W := fun x xs ph => match x, xs with
  | .ref i, [.ref j] => match ph[i]?, ph[j]? with
    | some (.lst ws), some (.lst us) => if ws.length + us.length ≤ sizeLine then some (.non, ph.set i (.lst (ws ++ us))) else none
    | _, _ => none
  | _, _ => none
theorem extendW_i {K : PySem.W.Frag} : MtI K "list" rExtend extendW := by
  intro φ ph H x xs vx vs w ph' Q hH rx rs e k
  unfold extendW at e
  split at e
  · rename_i i j
    split at e
    · rename_i ws us hw hu
      split at e
      · rename_i hz
        cases e
        cases rx with
        | ref hi =>
          cases rs with
          | cons ry rr =>
            cases rr
            cases ry with
            | ref hj =>
              obtain ⟨xs, hv, r⟩ := hH.hp _ _ hw
              obtain ⟨ys, hv', r'⟩ := hH.hp _ _ hu
              obtain ⟨q1, q2⟩ := put_list hH hi (r.append r')
              exact ⟨_, _, xs, ys, rfl, rfl, hv, hv', by rw [← r.length, ← r'.length]; exact hz, k φ _ _ q1 q2 .non⟩
      · cases e
    · cases e
  · cases e
/-! ### 32. A list or a tuple, walked -/
def bothI (w : W) : Po (List W × (PH → Bool)) := fun ph => match w with
  | .tup ws => some ((ws, fun _ => true), ph)
  | w => seqI w ph
def iBoth (m : EM) : IM := fun σ => bnd (m σ) fun w => lift (bothI w)
theorem tI_or {X : Cx} {m : EM} {σ : L2.St} {H : Hp} {R : It → Hp → Prop} (h : tI X (iBoth m) σ H R) : tI X (iSeq m) σ H R ∨ tI X (iTupM m) σ H R := by
  obtain ⟨φ, ph, ws, hH, hS, h⟩ := h
  unfold iBoth at h
  rw [run_bnd] at h
  cases q : m ws ph with
  | no => rw [q] at h; exact h.elim
  | ex x ph' =>
    refine .inl ⟨φ, ph, ws, hH, hS, ?_⟩
    unfold iSeq
    rw [run_bnd, q]
    rw [q] at h
    exact h
  | ok w ph' =>
    rw [q] at h
    have h : (lift (bothI w) ph').Run _ _ := h
    by_cases hw : ∃ us, w = .tup us
    · obtain ⟨us, rfl⟩ := hw
      refine .inr ⟨φ, ph, ws, hH, hS, ?_⟩
      unfold iTupM
      rw [run_bnd, q]
      exact h
    · refine .inl ⟨φ, ph, ws, hH, hS, ?_⟩
      unfold iSeq
      rw [run_bnd, q]
      have e : bothI w = seqI w := by
        funext p
        cases w <;> first | rfl | exact absurd ⟨_, rfl⟩ hw
      rw [e] at h
      exact h
theorem ji_both {X : Cx} {tg e : Expr} {m : EM} (hl : JE X e m) : JI X tg e (iBoth m) := ⟨by
  intro pins s σ H R I h
  rcases tI_or h with h | h
  · exact ii_list hl.h pins s σ H R I h
  · exact ii_tup hl.h pins s σ H R I h⟩
/-! ### 33. enumerate(list) -/
section
variable {X : Cx} {pins : List (Addr × Obj)} {σ : L2.St} {H : Hp} {s : Shared} {h' : Heap}
/-- records have turned, a tuple was laid -/
theorem turnedT {t' : Nat} {fp : List Addr} {T : Addr} {o : HO} (I : Inv X pins σ H s) (k : ∀ b u, b ∉ fp → s.heap.get? b = some u → h'.get? b = some u) (hf : ∀ b ∈ fp, FpOk X pins H b) (hp : s.heap.objs.size ≤ T)
    (new : ObjOk X.prog X.w (upd H T o) h' T o) : Inv X pins σ (upd H T o) { s with heap := h', toks := t' } := by
  have hn := I.hok.fresh hp
  have neT : ∀ b u, s.heap.get? b = some u → b ≠ T := fun b u e => Nat.ne_of_lt (Nat.lt_of_lt_of_le (Heap.lt_size e) hp)
  have nit : ∀ b u, H b = some u → b ∉ fp := fun b u e z => by rw [(hf b z).1] at e; cases e
  refine I.step (g' := s.gens) (d' := s.drawn) (ch := fp) (fun b hb => ?_) (fun b u _ _ hc e _ => k b u hc e) (fun b u _ _ hc e _ => ⟨u.slots, k b u hc e⟩) (fun b u _ e n => by rw [upd_ne (neT b u e)]; exact n)
    (fun b u hc e => ⟨u, k b u hc e⟩) (fun b xs e => by rw [upd_ne (ne_of_none e hn)]; exact e) (fun b u v e => by rw [upd_ne (ne_of_none e hn)]; exact e) (fun b ps e => ⟨#[], by rw [upd_ne (ne_of_none e hn), e]; simp⟩) (fun m hm => ?_) (fun b u e => ?_) I.bare
  · obtain ⟨_, f1, _, f3, f4, f5⟩ := hf b hb
    exact ⟨f3, f1, f4, f5⟩
  · obtain ⟨u, es, ep, ho, r⟩ := hm
    exact ⟨u, es, ep, k _ u (fun z => (hf _ z).2.1 rfl) ho, r⟩
  · by_cases hb : b = T
    · subst hb; rw [upd_same] at e; cases e; exact new
    · rw [upd_ne hb] at e
      refine (I.hok b u e).stay (fun c v hc q => k c v ?_ q) (fun c q => by rw [upd_ne (ne_of_none q hn)]; exact q) fun c xs q => by rw [upd_ne (ne_of_none q hn)]; exact q
      rcases hc with z | z
      · rw [z]; exact nit b u e
      · exact nit c _ z
/-- records have turned -/
theorem turnedN {t' : Nat} {fp : List Addr} (I : Inv X pins σ H s) (k : ∀ b u, b ∉ fp → s.heap.get? b = some u → h'.get? b = some u) (hf : ∀ b ∈ fp, FpOk X pins H b) : Inv X pins σ H { s with heap := h', toks := t' } := by
  have nit : ∀ b u, H b = some u → b ∉ fp := fun b u e z => by rw [(hf b z).1] at e; cases e
  refine I.step (g' := s.gens) (d' := s.drawn) (ch := fp) (fun b hb => ?_) (fun b u _ _ hc e _ => k b u hc e) (fun b u _ _ hc e _ => ⟨u.slots, k b u hc e⟩) (fun b u _ e n => n)
    (fun b u hc e => ⟨u, k b u hc e⟩) (fun b xs e => e) (fun b u v e => e) (fun b ps e => ⟨#[], by rw [e]; simp⟩) (fun m hm => ?_) (fun b u e => ?_) I.bare
  · obtain ⟨_, f1, _, f3, f4, f5⟩ := hf b hb
    exact ⟨f3, f1, f4, f5⟩
  · obtain ⟨u, es, ep, ho, r⟩ := hm
    exact ⟨u, es, ep, k _ u (fun z => (hf _ z).2.1 rfl) ho, r⟩
  · refine (I.hok b u e).stay (fun c v hc q => k c v ?_ q) (fun _ q => q) fun _ _ q => q
    rcases hc with z | z
    · rw [z]; exact nit b u e
    · exact nit c _ z
end
/-- the list at a with its places -/
def Ite (K : PySem.W.Frag) (a : Addr) : It :=
  ⟨fun i H => ∃ xs x, SqL K H a xs ∧ xs[i]? = some x, fun i H x H' => ∃ T y, x = .ref T ∧ H T = none ∧ H' = upd H T (.tup [.int (i : Int), y]) ∧ ∀ xs, SqL K H a xs → xs[i]? = some y, fun i H => ∃ xs, SqL K H a xs ∧ xs.length ≤ i⟩
theorem turn_enum {P : Program} {w : World} {K : PySem.W.Frag} {elts : List Expr} {j : Nat} {pos : Pos} (a e it : Addr) (hei : e ≠ it) : Turn P w K (.Tuple elts j pos) (Ite K a) [e, it] e (fun i h => (∃ old, IsEnum h e it (i : Int) old) ∧ h.IsListIter it a i) where
  mem := by simp
  obj := fun i h st b hb => by
    obtain ⟨⟨old, he⟩, o, e1, c, d⟩ := st
    rcases List.mem_cons.mp hb with rfl | hb
    · exact ⟨_, he, fun v z => by cases z⟩
    · have : b = it := by simpa using hb
      subst this
      exact ⟨o, e1, fun v z => by rw [d] at z; cases z⟩
  keep := fun i h h' st k => ⟨let ⟨old, he⟩ := st.1; ⟨old, k e (by simp) _ he⟩, st.2.at fun o q => k it (by simp) o q⟩
  item := by
    intro X hP hw hK hc i pins s σ H E I hf st hg
    subst hP hw hK
    obtain ⟨⟨old, he⟩, hit⟩ := st
    obtain ⟨xs, x, hq, hx⟩ := hg
    obtain ⟨its, rv, p, hz⟩ := I.list hq
    obtain ⟨u, hu, ru⟩ := rv.get hx
    refine wpAny_pyNext_enum_item he hit p.isList (x := u) (by simpa using hu) hei fun h1 ho hit' hT hsz hk => ⟨_, rfl, ?_⟩
    refine wpAny_letOwnedTupleGo_enum ho fun h2 he2 hs2 => ?_
    have kk : ∀ b o, b ∉ [e, it] → s.heap.get? b = some o → h2.get? b = some o := fun b o hb q => by
      have hb1 : b ≠ e := fun z => hb (by simp [z])
      have hb2 : b ≠ it := fun z => hb (by simp [z])
      exact (hs2.2 b hb1).trans (hk b o hb1 hb2 q)
    have hTe : s.heap.objs.size ≠ e := Nat.ne_of_gt (Heap.lt_size he)
    have new : ObjOk X.prog X.w (upd H s.heap.objs.size (.tup [.int (i : Int), x])) h2 s.heap.objs.size (.tup [.int (i : Int), x]) :=
      ⟨by show 2 ≤ sizeLine; decide, [.int (i : Int) s.toks, u], .cons ⟨_, rfl⟩ (.cons ru .nil), _, (hs2.2 _ hTe).trans hT, rfl, _, rfl⟩
    refine ⟨.ref s.heap.objs.size, _, turnedT (s := s) (h' := h2) (t' := s.toks + 1) I kk hf (Nat.le_refl _) new, rfl, ⟨_, x, rfl, I.hok.fresh (Nat.le_refl _), rfl, fun ys hy => by rw [I.list_inj hy hq]; exact hx⟩, ⟨⟨_, by simpa using he2⟩, hit'.at fun o q => (hs2.2 it hei.symm).trans q⟩, fun b hb => ?_⟩
    rw [upd_ne (fun z => ?_)]
    · exact (hf b hb).1
    · subst z
      rcases List.mem_cons.mp hb with z | z
      · exact hTe z
      · have z : s.heap.objs.size = it := by simpa using z
        obtain ⟨o, e1, _⟩ := hit
        exact Nat.ne_of_gt (Heap.lt_size e1) z
  done := by
    intro X hP hw hK hc i pins s σ H E I hf st hg
    subst hP hw hK
    obtain ⟨⟨old, he⟩, hit⟩ := st
    obtain ⟨xs, hq, hx⟩ := hg
    obtain ⟨its, rv, p, hz⟩ := I.list hq
    have hl := rv.length
    exact wpAny_pyNext_enum_end (I.ok.hd hc) he hit p.isList (by simp; omega) fun h1 eb => ⟨rfl, turnedN (t' := s.toks) I (fun b o hb q => eb b o (fun z => hb (by simp [z])) q) hf⟩
  self := fun _ _ _ _ _ st h => let ⟨_, he⟩ := st.1; wpAny_pyIter_enum he h
def iEnL (K : PySem.W.Frag) (ta : TA) : TI := fun σ H R => ta σ H fun vs H1 => ∃ a, vs = [.ref a] ∧ (∃ xs, SqL K H1 a xs) ∧ R (Ite K a) H1
theorem pi_enum {X : Cx} {a : Expr} {ta : TA} {elts : List Expr} {j : Nat} {tp p pos : Pos} (hg : Gl X "enumerate") (hm : X.mg "enumerate" = none) (ha : PA X [a] ta) (hs : starEach [a] X.env = [(false, eval a X.env)] := by rfl) :
    PI X (.Tuple elts j tp) (.Call (.Name "enumerate" p) [a] [] pos) (iEnL X.K ta) := by
  intro pins s σ H R I h
  refine Call_ (ld_blt I hg hm PyProof.Rows.boot_enumerate (PyProof.Rows.callWith_type1 (thn (ha pos pins s σ H _ I h) fun us s1 ⟨vs, H1, I1, r1, q1⟩ => ?_) hs rfl))
  obtain ⟨a, e, ⟨xs, hq⟩, q⟩ := q1
  subst e
  cases r1 with
  | cons r rr =>
    cases rr
    cases r
    obtain ⟨its, rv, pl, hz⟩ := I1.list hq
    refine call_enumerate_list pl.isList fun h' he hit hsz hk => ?_
    refine wpAny_pyIter_enum he ?_
    have I2 : Inv X pins σ H1 { s1 with heap := h' } := I1.kept (t' := s1.toks) hk
    refine ⟨s1.heap.objs.size + 1, [s1.heap.objs.size + 1, s1.heap.objs.size], _, _, H1, rfl, I2, turn_enum a _ _ (Nat.succ_ne_self _), ⟨⟨_, by simpa using he⟩, hit⟩, fun b hb => ?_, q⟩
    have hb : s1.heap.objs.size ≤ b := by
      rcases List.mem_cons.mp hb with rfl | hb
      · exact Nat.le_succ _
      · have : b = s1.heap.objs.size := by simpa using hb
        exact Nat.le_of_eq this.symm
    exact I1.fpOk hb (I1.hok.fresh hb)
def enumL (ws : List W) : List W := (List.range ws.length).map fun (i : Nat) => .tup [.int ((i : Nat) : Int), ws.getD i .non]
def enumI (xs : List W) : Po (List W × (PH → Bool)) := fun ph => match xs with
  | [w] => (seqI w ph).map fun r => ((enumL r.1.1, r.1.2), r.2)
  | _ => none
def iEnum (m : AM) : IM := fun σ => bnd (m σ) fun xs => lift (enumI xs)
theorem enumL_get {ws : List W} {i : Nat} {w : W} (h : (enumL ws)[i]? = some w) : ∃ x, ws[i]? = some x ∧ w = .tup [.int (i : Int), x] := by
  unfold enumL at h
  rw [List.getElem?_map] at h
  cases q : (List.range ws.length)[i]? with
  | none => rw [q] at h; cases h
  | some k =>
    rw [q] at h
    obtain ⟨hi, e⟩ := List.getElem?_eq_some_iff.mp q
    rw [List.getElem_range] at e
    subst e
    rw [List.length_range] at hi
    cases h
    exact ⟨ws[i], by simp [hi], by simp [hi]⟩
theorem enumL_none {ws : List W} {i : Nat} (h : (enumL ws)[i]? = none) : ws.length ≤ i := by
  unfold enumL at h
  simpa using h
theorem ii_enum {X : Cx} {a : Expr} {am : AM} {elts : List Expr} {j : Nat} {tp p pos : Pos} (hg : Gl X "enumerate") (hm : X.mg "enumerate" = none) (ha : IA X [a] am) (hs : starEach [a] X.env = [(false, eval a X.env)] := by rfl) :
    II X (.Tuple elts j tp) (.Call (.Name "enumerate" p) [a] [] pos) (iEnum am) := by
  refine PI.imp (pi_enum hg hm ha hs) fun σ H R h => ?_
  obtain ⟨φ, ph, ws, hH, hS, h⟩ := h
  refine tA.bind hH hS h fun xs ph1 φ1 H1 vs hH1 s1 r1 h => ?_
  obtain ⟨r, ph', e, k⟩ := run_lift h
  unfold enumI at e
  split at e
  · rename_i w
    cases r1 with
    | cons r1 rr =>
      cases rr
      unfold seqI at e
      cases r1 with
      | ref hi =>
        rename_i i
        simp only at e
        cases q : ph1[i]? with
        | none => rw [q] at e; cases e
        | some o =>
          cases o with
          | dct _ => rw [q] at e; cases e
          | lst items =>
            rw [q] at e
            simp only [Option.map_some] at e
            cases e
            obtain ⟨vs, hv, r⟩ := hH1.hp _ _ q
            refine ⟨_, rfl, ⟨vs, SqL.of hv⟩, k φ1 H1 _ hH1 s1 ?_⟩
            intro φ2 ph2 H2 hH2 s2 hc j
            have hc' : ph2[i]? = some (.lst items) := of_decide_eq_true hc
            obtain ⟨us, hu, ru⟩ := hH2.hp _ _ hc'
            rw [s2.eq i hi] at hu
            refine ⟨fun w hw2 => ?_, fun hn => ?_⟩
            · obtain ⟨x, hx, rfl⟩ := enumL_get hw2
              obtain ⟨u, eu, ru'⟩ := ru.get hx
              refine ⟨⟨us, u, SqL.of hu, eu⟩, fun y H'' hy => ?_⟩
              obtain ⟨T, z, rfl, hT, rfl, hy⟩ := hy
              have := hy us (SqL.of hu)
              rw [eu] at this; cases this
              exact ⟨hH2.tup hT, step_tup hT, .tup (SqT.of upd_same) (.cons (.int _) (.cons (ru'.mono (step_tup hT)) .nil))⟩
            · refine ⟨us, SqL.of hu, ?_⟩
              rw [← ru.length]
              exact enumL_none hn
      | fl hq r =>
        simp only [Option.map_some] at e
        cases e
        refine ⟨_, rfl, ⟨_, hq.sq⟩, k φ1 H1 _ hH1 s1 ?_⟩
        intro φ2 ph2 H2 hH2 s2 hc j
        have h2 := RelW.mono s2 (.fl hq r)
        cases h2 with
        | fl h2 r2 =>
          refine ⟨fun w hw2 => ?_, fun hn => ?_⟩
          · obtain ⟨x, hx, rfl⟩ := enumL_get hw2
            obtain ⟨u, eu, ru'⟩ := r2.get hx
            refine ⟨⟨_, u, h2.sq, eu⟩, fun y H'' hy => ?_⟩
            obtain ⟨T, z, rfl, hT, rfl, hy⟩ := hy
            have := hy _ h2.sq
            rw [eu] at this; cases this
            exact ⟨hH2.tup hT, step_tup hT, .tup (SqT.of upd_same) (.cons (.int _) (.cons (ru'.mono (step_tup hT)) .nil))⟩
          · refine ⟨_, h2.sq, ?_⟩
            rw [← r2.length]
            exact enumL_none hn
      | _ => cases e
  · cases e
theorem ji_enum {X : Cx} {a : Expr} {am : AM} {elts : List Expr} {j : Nat} {tp p pos : Pos} (hg : Gl X "enumerate") (hm : X.mg "enumerate" = none) (hn : isStar a = false) (ha : JA X [a] am) :
    JI X (.Tuple elts j tp) (.Call (.Name "enumerate" p) [a] [] pos) (iEnum am) := ⟨ii_enum hg hm ha.h (star_cons hn)⟩
/-- a comprehension stored in a name: the value is swapped in -/
theorem swaps_yes {env : Env} {e : Expr} {gens : List Comprehension} {scope : Scope} {p pos' : Pos} {x : Str} {line : Nat} (hk : env.scope.kind = .function) (hx : env.scope.names.lookup x = some .local) (hl : (pos'.line == p.line) = true)
    (hn : (scope.names.any fun y => y.1 == x && (y.2 == .local || y.2 == .cell)) = false) : swapsWith (.ListComp e gens scope p) (some (.Name x pos')) line env = pure true := by
  have e1 : (env.kindOf x == some .local) = true := by unfold Env.kindOf; rw [hx]; rfl
  have e2 : (env.blockKind == .function) = true := by unfold Env.blockKind; rw [hk]; rfl
  show pure (env.blockKind == .function && env.kindOf x == some .local && pos'.line == p.line && !(scope.names.any fun y => y.1 == x && (y.2 == .local || y.2 == .cell))) = _
  rw [e1, e2, hl, hn]
  rfl
end IL

namespace IL
open PySem L2

/-! ### 30. Evaluation of readings -/
section
variable {α β γ : Type}
theorem bnd_congr {m m' : Mo α} {f : α → Mo β} (h : m = m') : bnd m f = bnd m' f := by rw [h]
theorem bnd_pur (a : α) (f : α → Mo β) : bnd (pur a) f = f a := (rfl)
theorem bnd_nop (f : α → Mo β) : bnd (nop : Mo α) f = nop := (rfl)
theorem bnd_exx (x : XC) (f : α → Mo β) : bnd (exx x : Mo α) f = exx x := (rfl)
theorem bnd_assoc (m : Mo α) (f : α → Mo β) (g : β → Mo γ) : bnd (bnd m f) g = bnd m fun a => bnd (f a) g := by
  funext ph; unfold bnd; cases m ph <;> rfl
theorem bnd_ite {c : Prop} [Decidable c] (a b : Mo α) (f : α → Mo β) : bnd (if c then a else b) f = if c then bnd a f else bnd b f := by split <;> rfl
theorem bnd_ok {m : Mo α} {f : α → Mo β} {ph ph' : PH} {a : α} (h : m ph = .ok a ph') : bnd m f ph = f a ph' := by unfold bnd; rw [h]
theorem bnd_ex {m : Mo α} {f : α → Mo β} {ph ph' : PH} {x : XC} (h : m ph = .ex x ph') : bnd m f ph = .ex x ph' := by unfold bnd; rw [h]
theorem pur_ap (a : α) (ph : PH) : pur a ph = .ok a ph := (rfl)
theorem exx_ap (x : XC) (ph : PH) : (exx x : Mo α) ph = .ex x ph := (rfl)
theorem lift_ret (a : α) : lift (ret a) = pur a := (rfl)
theorem ite_ap {c : Prop} [Decidable c] (a b : Mo α) (ph : PH) : (if c then a else b) ph = if c then a ph else b ph := by split <;> rfl
end
/-! variables -/
theorem eVar_0 (w : W) (σ : PSt) : eVar 0 (some w :: σ) = pur w := (rfl)
theorem eVar_s (i : Nat) (x : Option W) (σ : PSt) : eVar (i + 1) (x :: σ) = eVar i σ := (rfl)
theorem eVar_eq {i : Nat} {σ : PSt} {w : W} (h : σ[i]? = some (some w)) : eVar i σ = pur w := by
  funext ph; unfold eVar lift; rw [h]; rfl
theorem eC_ap (w : W) (σ : PSt) : eC w σ = pur w := (rfl)
theorem gN_ap (i : Nat) (w : W) (σ : PSt) : gN i w σ = pur (σ.set i (some w)) := (rfl)
theorem eOp_ap (f : W → W → Po W) (a b : EM) (σ : PSt) : eOp f a b σ = bnd (a σ) fun x => bnd (b σ) fun y => lift (f x y) := (rfl)
theorem eUn_ap (f : W → Po W) (a : EM) (σ : PSt) : eUn f a σ = bnd (a σ) fun x => lift (f x) := (rfl)
theorem eT_ap (m : EM) (σ : PSt) : eT m σ = bnd (m σ) fun w => lift (match w with
  | .bl b => ret b
  | _ => nono) := (rfl)
theorem eTru_ap (m : EM) (σ : PSt) : eTru m σ = bnd (m σ) fun w => lift (truW w) := (rfl)
theorem tAndM_ap (a b : TM) (σ : PSt) : tAndM a b σ = bnd (a σ) fun c => if c = true then b σ else pur false := (rfl)
theorem tOrM_ap (a b : TM) (σ : PSt) : tOrM a b σ = bnd (a σ) fun c => if c = true then pur true else b σ := (rfl)
theorem tNotM_ap (a : TM) (σ : PSt) : tNotM a σ = bnd (a σ) fun c => pur (!c) := (rfl)
theorem eIf_ap (t : TM) (a b : EM) (σ : PSt) : eIf t a b σ = bnd (t σ) fun c => if c = true then a σ else b σ := (rfl)
theorem sSeq_ap (a b : SM) (σ : PSt) : sSeq a b σ = bnd (a σ) fun f => match f with
  | .nx σ' => b σ'
  | f => pur f := (rfl)
theorem sIf_ap (t : TM) (a b : SM) (σ : PSt) : sIf t a b σ = bnd (t σ) fun c => if c = true then a σ else b σ := (rfl)
theorem sRet_ap (e : EM) (σ : PSt) : sRet e σ = bnd (e σ) fun w => pur (.rt w) := (rfl)
theorem sNext_ap (σ : PSt) : sNext σ = pur (.nx σ) := (rfl)
theorem sExpr_ap (e : EM) (σ : PSt) : sExpr e σ = bnd (e σ) fun _ => pur (.nx σ) := (rfl)
theorem sAsg_ap (e : EM) (g : GM) (σ : PSt) : sAsg e g σ = bnd (e σ) fun w => bnd (g w σ) fun σ' => pur (.nx σ') := (rfl)
theorem eCall_ap (f : List W → Mo W) (a : AM) (σ : PSt) : eCall f a σ = bnd (a σ) f := (rfl)
theorem eCallB_ap (f : List W → Po W) (a : AM) (σ : PSt) : eCallB f a σ = bnd (a σ) fun xs => lift (f xs) := (rfl)
theorem aNil_ap (σ : PSt) : aNil σ = pur [] := (rfl)
theorem aCons_ap (e : EM) (r : AM) (σ : PSt) : aCons e r σ = bnd (e σ) fun w => bnd (r σ) fun ws => pur (w :: ws) := (rfl)
theorem eTup_ap (a : AM) (σ : PSt) : eTup a σ = bnd (a σ) fun ws => lift (newT ws) := (rfl)
theorem eLst_ap (a : AM) (σ : PSt) : eLst a σ = bnd (a σ) fun ws => lift (newL ws) := (rfl)
theorem eIs_ap (c : String) (m : EM) (σ : PSt) : eIs c m σ = bnd (m σ) fun w => lift (isP c w) := (rfl)
theorem eAnd_ap (a b : EM) (σ : PSt) : eAnd a b σ = bnd (a σ) fun w => match w with
  | .bl c => if c = true then b σ else pur (.bl false)
  | _ => nop := (rfl)
theorem eOr_ap (a b : EM) (σ : PSt) : eOr a b σ = bnd (a σ) fun w => match w with
  | .bl c => if c = true then pur (.bl true) else b σ
  | _ => nop := (rfl)
theorem eNot_ap (a : EM) (σ : PSt) : eNot a σ = bnd (a σ) fun w => match w with
  | .bl c => pur (.bl (!c))
  | _ => nop := (rfl)
theorem eChain_ap (f f' : W → W → Po W) (a b c : EM) (σ : PSt) : eChain f f' a b c σ = bnd (a σ) fun x => bnd (b σ) fun y => bnd (lift (f x y)) fun z => match z with
  | .bl k => if k = true then bnd (c σ) fun u => lift (f' y u) else pur (.bl false)
  | _ => nop := (rfl)
theorem eMeth_ap (ty : W → PH → Bool) (f : W → List W → Po W) (o : EM) (a : AM) (σ : PSt) : eMeth ty f o a σ = bnd (o σ) fun x => bnd (lift (chkT (ty x))) fun _ => bnd (a σ) fun xs => lift (f x xs) := (rfl)
theorem fEnd_rt (w : W) : fEnd (.rt w) = pur w := (rfl)
theorem fEnd_nx (σ : PSt) : fEnd (.nx σ) = pur .non := (rfl)
theorem fM_1 (b : SM) (n : Nat) (x : W) : fM b n 1 [x] = bnd (b (some x :: List.replicate (n - 1) none)) fEnd := (rfl)
theorem fM_2 (b : SM) (n : Nat) (x y : W) : fM b n 2 [x, y] = bnd (b (some x :: some y :: List.replicate (n - 2) none)) fEnd := (rfl)
theorem fM_3 (b : SM) (n : Nat) (x y z : W) : fM b n 3 [x, y, z] = bnd (b (some x :: some y :: some z :: List.replicate (n - 3) none)) fEnd := (rfl)
theorem fM_4 (b : SM) (n : Nat) (x y z u : W) : fM b n 4 [x, y, z, u] = bnd (b (some x :: some y :: some z :: some u :: List.replicate (n - 4) none)) fEnd := (rfl)
/-! whole numbers -/
theorem l_add (i j : Int) : lift (addW (.int i) (.int j)) = pur (.int (i + j)) := (rfl)
theorem l_sub (i j : Int) : lift (subW (.int i) (.int j)) = pur (.int (i - j)) := (rfl)
theorem l_neg (i : Int) : lift (negW (.int i)) = pur (.int (-i)) := (rfl)
theorem l_mul {i j : Int} (h : mulC i j = true) : lift (mulW (.int i) (.int j)) = pur (.int (i * j)) := by
  unfold mulW; simp only [h, if_true]; rfl
theorem l_mod {i j : Int} (h : j ≠ 0) : lift (modW (.int i) (.int j)) = pur (.int (i.fmod j)) := by
  unfold modW iopC; simp only [ne_eq, h, not_false_eq_true, decide_true, if_true]; rfl
theorem l_div {i j : Int} (h : j ≠ 0) (h' : j.natAbs < 2 ^ 64) : lift (divW (.int i) (.int j)) = pur (.int (i.fdiv j)) := by
  unfold divW iopC; simp only [ne_eq, h, h', not_false_eq_true, decide_true, Bool.and_self, if_true]; rfl
theorem l_lt (i j : Int) : lift (ltW (.int i) (.int j)) = pur (.bl (decide (i < j))) := (rfl)
theorem l_le (i j : Int) : lift (leW (.int i) (.int j)) = pur (.bl (decide (i ≤ j))) := (rfl)
theorem l_gt (i j : Int) : lift (gtW (.int i) (.int j)) = pur (.bl (decide (j < i))) := (rfl)
theorem l_ge (i j : Int) : lift (geW (.int i) (.int j)) = pur (.bl (decide (j ≤ i))) := (rfl)
theorem l_int (i : Int) : lift (intW [.int i]) = pur (.int i) := (rfl)
theorem l_intb (b : Bool) : lift (intW [.bl b]) = pur (.int (if b then 1 else 0)) := (rfl)
theorem l_abs (i : Int) : lift (absW [.int i]) = pur (.int (if i < 0 then -i else i)) := (rfl)
theorem l_max (i j : Int) : lift (max2W [.int i, .int j]) = pur (.int (if j > i then j else i)) := (rfl)
theorem l_min (i j : Int) : lift (min2W [.int i, .int j]) = pur (.int (if j < i then j else i)) := (rfl)
theorem l_tb (b : Bool) : lift (match W.bl b with
  | .bl b => ret b
  | _ => nono) = pur b := (rfl)
theorem l_truB (b : Bool) : lift (truW (.bl b)) = pur b := (rfl)
theorem l_truI (i : Int) : lift (truW (.int i)) = pur (i != 0) := (rfl)
theorem l_truT (ws : List W) : lift (truW (.tup ws)) = pur (!ws.isEmpty) := (rfl)
/-! equality -/
theorem l_eqI (i j : Int) : lift (eqW (.int i) (.int j)) = pur (.bl (decide (i = j))) := by
  funext ph; unfold eqW eqD lift; simp only [dat]; rfl
theorem l_neI (i j : Int) : lift (neW (.int i) (.int j)) = pur (.bl (!decide (i = j))) := by
  funext ph; unfold neW eqD lift; simp only [dat]; rfl
end IL

namespace IL
open PySem L2

/-! ### 34. Texts that are written -/
theorem so (s : String) : PyData.strOk (Str.ofString s) = true := by
  unfold PyData.strOk
  rw [Str.ofString_eq_toList]
  simp only [List.all_toArray, List.all_eq_true, List.mem_map, decide_eq_true_eq]
  rintro n ⟨c, _, rfl⟩
  have h := c.valid
  simp only [UInt32.isValidChar, Nat.isValidChar] at h
  show c.val.toNat < _
  omega
theorem os_inj {a b : String} : Str.ofString a = Str.ofString b ↔ a = b := by
  constructor
  · intro h
    rw [Str.ofString_eq_toList, Str.ofString_eq_toList] at h
    have h := congrArg Array.toList (Str.mk.inj h)
    simp only [List.toList_toArray] at h
    have mi : ∀ l l' : List Char, l.map Char.toNat = l'.map Char.toNat → l = l' := by
      intro l
      induction l with
      | nil => intro l' h; cases l' with
        | nil => rfl
        | cons _ _ => cases h
      | cons x l ih => intro l' h; cases l' with
        | nil => cases h
        | cons y l' =>
          have := List.cons.inj h
          rw [ih l' this.2, Char.ext (UInt32.toNat_inj.mp this.1)]
    have q : a.toList = b.toList := mi _ _ h
    exact String.toList_inj.mp q
  · intro h; rw [h]
theorem l_eqS {a b : Str} (ha : PyData.strOk a = true) (hb : PyData.strOk b = true) : lift (eqW (.str a) (.str b)) = pur (.bl (decide (a = b))) := by
  funext ph; unfold eqW eqD lift; simp only [dat, ha, hb, if_true]; rfl
theorem l_neS {a b : Str} (ha : PyData.strOk a = true) (hb : PyData.strOk b = true) : lift (neW (.str a) (.str b)) = pur (.bl (!decide (a = b))) := by
  funext ph; unfold neW eqD lift; simp only [dat, ha, hb, if_true]; rfl
theorem l_eqL (a b : String) : lift (eqW (.str (Str.ofString a)) (.str (Str.ofString b))) = pur (.bl (decide (a = b))) := by
  rw [l_eqS (so a) (so b)]; simp only [os_inj]
theorem l_neL (a b : String) : lift (neW (.str (Str.ofString a)) (.str (Str.ofString b))) = pur (.bl (!decide (a = b))) := by
  rw [l_neS (so a) (so b)]; simp only [os_inj]
theorem l_neB (a b : Bool) : lift (neW (.bl a) (.bl b)) = pur (.bl (!(a == b))) := by
  funext ph; unfold neW eqD lift; simp only [dat]; rfl
/-! kinds -/
theorem l_is (c : String) (w : W) (t : String) (h : ∀ ph, kindW w ph = some t) : lift (isP c w) = pur (.bl (subK t c)) := by
  funext ph; unfold lift isP; rw [h]; rfl
theorem is_i (c : String) (i : Int) : lift (isP c (.int i)) = pur (.bl (subK "int" c)) := l_is _ _ _ fun _ => rfl
theorem is_b (c : String) (b : Bool) : lift (isP c (.bl b)) = pur (.bl (subK "bool" c)) := l_is _ _ _ fun _ => rfl
theorem is_n (c : String) : lift (isP c .non) = pur (.bl (subK "NoneType" c)) := l_is _ _ _ fun _ => rfl
theorem is_s (c : String) (x : Str) : lift (isP c (.str x)) = pur (.bl (subK "str" c)) := l_is _ _ _ fun _ => rfl
theorem is_t (c : String) (ws : List W) : lift (isP c (.tup ws)) = pur (.bl (subK "tuple" c)) := l_is _ _ _ fun _ => rfl
theorem is_ref {c : String} {i : Nat} {ph : PH} {ws : List W} (h : ph[i]? = some (.lst ws)) : lift (isP c (.ref i)) ph = .ok (.bl (subK "list" c)) ph := by
  unfold lift isP kindW; simp only [h]
theorem k_ii : subK "int" "int" = true := by decide +kernel
theorem k_ib : subK "int" "bool" = false := by decide +kernel
theorem k_bi : subK "bool" "int" = true := by decide +kernel
theorem k_bb : subK "bool" "bool" = true := by decide +kernel
theorem k_ni : subK "NoneType" "int" = false := by decide +kernel
theorem k_si : subK "str" "int" = false := by decide +kernel
theorem k_li : subK "list" "int" = false := by decide +kernel
theorem k_ll : subK "list" "list" = true := by decide +kernel
theorem k_tt : subK "tuple" "tuple" = true := by decide +kernel
/-! tuples -/
theorem newT_0 : lift (newT []) = pur (.tup []) := (rfl)
theorem newT_1 (a : W) : lift (newT [a]) = pur (.tup [a]) := (rfl)
theorem newT_2 (a b : W) : lift (newT [a, b]) = pur (.tup [a, b]) := (rfl)
theorem newT_3 (a b c : W) : lift (newT [a, b, c]) = pur (.tup [a, b, c]) := (rfl)
theorem newT_4 (a b c d : W) : lift (newT [a, b, c, d]) = pur (.tup [a, b, c, d]) := (rfl)
theorem newT_5 (a b c d e : W) : lift (newT [a, b, c, d, e]) = pur (.tup [a, b, c, d, e]) := (rfl)
theorem ixT_0 (a : W) (l : List W) : lift (ixW (.tup (a :: l)) (.int 0)) = pur a := by
  funext ph; unfold lift ixW atI ixN; simp [seqW, pur]
theorem ixT_1 (a b : W) (l : List W) : lift (ixW (.tup (a :: b :: l)) (.int 1)) = pur b := by
  funext ph; unfold lift ixW atI ixN; simp [seqW, pur]; rw [if_pos (by omega)]; simp
theorem ixT_2 (a b c : W) (l : List W) : lift (ixW (.tup (a :: b :: c :: l)) (.int 2)) = pur c := by
  funext ph; unfold lift ixW atI ixN; simp [seqW, pur]; rw [if_pos (by omega)]; simp
theorem ixT_3 (a b c d : W) (l : List W) : lift (ixW (.tup (a :: b :: c :: d :: l)) (.int 3)) = pur d := by
  funext ph; unfold lift ixW atI ixN; simp [seqW, pur]; rw [if_pos (by omega)]; simp
theorem ixT_4 (a b c d e : W) (l : List W) : lift (ixW (.tup (a :: b :: c :: d :: e :: l)) (.int 4)) = pur e := by
  funext ph; unfold lift ixW atI ixN; simp [seqW, pur]; rw [if_pos (by omega)]; simp
def isNon : W → Bool
  | .non => true
  | _ => false
theorem l_notN (w : W) : lift (notNW w .non) = pur (.bl (!isNon w)) := by
  unfold notNW; cases w <;> rfl
theorem l_isN (w : W) : lift (isNW w .non) = pur (.bl (isNon w)) := by
  unfold isNW; cases w <;> rfl
theorem isNon_i (i : Int) : isNon (.int i) = false := rfl
theorem isNon_n : isNon .non = true := rfl
theorem isNon_t (ws : List W) : isNon (.tup ws) = false := rfl
theorem isNon_r (i : Nat) : isNon (.ref i) = false := rfl
/-! ### 35. The heap -/
/-- more was laid behind -/
def Ex (ph ph' : PH) : Prop := ∃ m, ph' = ph ++ m
theorem Ex.refl (ph : PH) : Ex ph ph := ⟨[], by simp⟩
theorem Ex.trans {a b c : PH} (h : Ex a b) (h' : Ex b c) : Ex a c := by
  obtain ⟨m, rfl⟩ := h
  obtain ⟨m', rfl⟩ := h'
  exact ⟨m ++ m', by simp⟩
theorem Ex.one (ph : PH) (o : PO) : Ex ph (ph ++ [o]) := ⟨[o], rfl⟩
theorem Ex.get {a b : PH} (h : Ex a b) {i : Nat} {o : PO} (e : a[i]? = some o) : b[i]? = some o := by
  obtain ⟨m, rfl⟩ := h
  rw [List.getElem?_append_left (List.getElem?_eq_some_iff.mp e).1]; exact e
theorem Ex.len {a b : PH} (h : Ex a b) : a.length ≤ b.length := by obtain ⟨m, rfl⟩ := h; simp
theorem get_new (ph : PH) (o : PO) : (ph ++ [o])[ph.length]? = some o := by simp
theorem small {n : Nat} (h : n ≤ 1000000) : n ≤ sizeLine := Nat.le_trans h (by decide)
section
variable {β : Type} {ph : PH} {i : Nat} {ws : List W}
theorem new_ap (ws : List W) (ph : PH) (h : ws.length ≤ sizeLine) : lift (newL ws) ph = .ok (.ref ph.length) (ph ++ [.lst ws]) := by
  unfold lift newL; rw [if_pos h]
theorem bnd_new (ws : List W) (f : W → Mo β) (ph : PH) (h : ws.length ≤ sizeLine) : bnd (lift (newL ws)) f ph = f (.ref ph.length) (ph ++ [.lst ws]) := bnd_ok (new_ap ws ph h)
theorem ix_ref (h : ph[i]? = some (.lst ws)) {k : Int} {w : W} (hk : atI ws k = some w) : lift (ixW (.ref i) (.int k)) ph = .ok w ph := by
  unfold lift ixW; simp only [seqW, h, Option.bind_some, hk, Option.map_some]
theorem len_ref (h : ph[i]? = some (.lst ws)) : lift (lenW [.ref i]) ph = .ok (.int ws.length) ph := by
  unfold lift lenW; simp only [seqW, h, Option.map_some]
theorem isL_ref (h : ph[i]? = some (.lst ws)) : isL (.ref i) ph = true := by unfold isL; simp only [h]
theorem chk_ref (h : ph[i]? = some (.lst ws)) : lift (chkT (isL (.ref i))) ph = .ok () ph := by
  unfold lift chkT; rw [if_pos (isL_ref h)]
theorem append_ref (h : ph[i]? = some (.lst ws)) (hz : ws.length < sizeLine) (w : W) : lift (appendW (.ref i) [w]) ph = .ok .non (ph.set i (.lst (ws ++ [w]))) := by
  unfold lift appendW; simp only [h, hz, if_true]
theorem extend_ref {j : Nat} {us : List W} (h : ph[i]? = some (.lst ws)) (h' : ph[j]? = some (.lst us)) (hz : ws.length + us.length ≤ sizeLine) : lift (extendW (.ref i) [.ref j]) ph = .ok .non (ph.set i (.lst (ws ++ us))) := by
  unfold lift extendW; simp only [h, h', hz, if_true]
theorem clear_ref (h : ph[i]? = some (.lst ws)) : lift (clearW (.ref i) []) ph = .ok .non (ph.set i (.lst [])) := by
  unfold lift clearW; simp only [h]
theorem list_ref (h : ph[i]? = some (.lst ws)) : lift (listW [.ref i]) ph = .ok (.ref ph.length) (ph ++ [.lst ws]) := by
  unfold lift listW; simp only [seqW, h]
theorem add_ref {j : Nat} {us : List W} (h : ph[i]? = some (.lst ws)) (h' : ph[j]? = some (.lst us)) (hz : ws.length + us.length ≤ sizeLine) : lift (addW (.ref i) (.ref j)) ph = .ok (.ref ph.length) (ph ++ [.lst (ws ++ us)]) := by
  unfold lift addW; simp only [h, h', hz, if_true]
end
theorem fmod_range (a b : Int) (h : 0 < b) : 0 ≤ a.fmod b ∧ a.fmod b < b := by
  rw [Int.fmod_eq_emod_of_nonneg _ (by omega)]
  exact ⟨Int.emod_nonneg _ (by omega), Int.emod_lt_of_pos _ h⟩
theorem atI_nat {α : Type} (ws : List α) (k : Nat) (h : k < ws.length) : atI ws (k : Int) = ws[k]? := by
  unfold atI ixN
  rw [if_pos (by omega), if_pos (by omega)]; rfl
theorem atI_in {α : Type} (ws : List α) (d : Int) (h0 : 0 ≤ d) (h : d < ws.length) : ∃ w ∈ ws, atI ws d = some w := by
  unfold atI ixN
  rw [if_pos h0, if_pos h]
  have hd : d.toNat < ws.length := by omega
  exact ⟨ws[d.toNat], List.getElem_mem hd, by simp [hd]⟩
theorem lenF (ws : List W) : lift (lenW [.fl ws]) = pur (.int ws.length) := by funext ph; rfl
theorem ixF {ws : List W} {i : Int} {w : W} (h : atI ws i = some w) : lift (ixW (.fl ws) (.int i)) = pur w := by
  funext ph; unfold lift ixW; simp only [seqW, Option.bind_some, h, Option.map_some]; rfl
/-! ### 36. Loops -/
/-- a loop by its invariant; it may return -/
theorem forG_ret {chk : PH → Bool} {g : GM} {b : SM} (R : W → PH → Prop) (I : Nat → PSt → PH → Prop) : ∀ (items : List W) (k : Nat) (σ : PSt) (ph : PH),
    (∀ j σ ph, I j σ ph → chk ph = true) →
    (∀ j x σ ph, items[j]? = some x → I (k + j) σ ph → ∃ σ1 ph1, g x σ ph = .ok σ1 ph1 ∧ ∃ f ph2, b σ1 ph1 = .ok f ph2 ∧ ((∃ σ2, (f = .nx σ2 ∨ f = .ct σ2) ∧ I (k + j + 1) σ2 ph2) ∨ ∃ w, f = .rt w ∧ R w ph2)) →
    I k σ ph → (∃ σ' ph', forG chk g b items σ ph = .ok (.nx σ') ph' ∧ I (k + items.length) σ' ph') ∨ ∃ w ph', forG chk g b items σ ph = .ok (.rt w) ph' ∧ R w ph'
  | [], k, σ, ph, hc, hs, h0 => by
    refine .inl ⟨σ, ph, ?_, h0⟩
    unfold forG
    rw [if_pos (hc _ _ _ h0)]
  | x :: xs, k, σ, ph, hc, hs, h0 => by
    obtain ⟨σ1, ph1, e1, f, ph2, e2, h⟩ := hs 0 x σ ph rfl h0
    have e : forG chk g b (x :: xs) σ ph = (match f with
      | .nx σ' => forG chk g b xs σ'
      | .ct σ' => forG chk g b xs σ'
      | .bk σ' => pur (.nx σ')
      | .rt w => pur (.rt w)) ph2 := by
      conv => lhs; unfold forG
      rw [if_pos (hc _ _ _ h0), bnd_ok e1, bnd_ok e2]
      all_goals (cases f <;> rfl)
    rcases h with ⟨σ2, hf, hI⟩ | ⟨w, rfl, hR⟩
    · have e : forG chk g b (x :: xs) σ ph = forG chk g b xs σ2 ph2 := by
        rcases hf with rfl | rfl <;> exact e
      rw [e]
      have ih := forG_ret R I xs (k + 1) σ2 ph2 hc (fun j y σ ph hj hI => by
        have := hs (j + 1) y σ ph (by simpa using hj) (by rw [show k + (j + 1) = k + 1 + j by omega]; exact hI)
        rw [show k + (j + 1) + 1 = k + 1 + j + 1 by omega] at this
        exact this) hI
      rw [show k + 1 + xs.length = k + (x :: xs).length by simp; omega] at ih
      exact ih
    · exact .inr ⟨w, ph2, e, hR⟩
theorem forG_inv {chk : PH → Bool} {g : GM} {b : SM} (I : Nat → PSt → PH → Prop) (items : List W) (σ : PSt) (ph : PH)
    (hc : ∀ j σ ph, I j σ ph → chk ph = true)
    (hs : ∀ j x σ ph, items[j]? = some x → I j σ ph → ∃ σ1 ph1, g x σ ph = .ok σ1 ph1 ∧ ∃ f ph2, b σ1 ph1 = .ok f ph2 ∧ ∃ σ2, (f = .nx σ2 ∨ f = .ct σ2) ∧ I (j + 1) σ2 ph2)
    (h0 : I 0 σ ph) : ∃ σ' ph', forG chk g b items σ ph = .ok (.nx σ') ph' ∧ I items.length σ' ph' := by
  have := forG_ret (fun _ _ => False) I items 0 σ ph hc (fun j x σ ph hj hI => by
    rw [Nat.zero_add] at hI ⊢
    obtain ⟨σ1, ph1, e1, f, ph2, e2, h⟩ := hs j x σ ph hj hI
    exact ⟨σ1, ph1, e1, f, ph2, e2, .inl h⟩) h0
  rw [Nat.zero_add] at this
  rcases this with h | ⟨_, _, _, h⟩
  · exact h
  · exact h.elim
/-- a comprehension: what it makes is laid at the heap's end, more behind -/
theorem compG_run {chk : PH → Bool} {g : GM} {c : TM} {e : EM} (L : Nat) (I : Nat → List W → PSt → PH → Prop) : ∀ (items : List W) (k : Nat) (acc : List W) (σ : PSt) (ph : PH),
    (∀ j acc σ ph, I j acc σ ph → chk ph = true) →
    (∀ j x acc σ ph, items[j]? = some x → I (k + j) acc σ ph → ∃ σ1 ph1, g x σ ph = .ok σ1 ph1 ∧ ∃ t ph2, c σ1 ph1 = .ok t ph2 ∧ ((t = false ∧ I (k + j + 1) acc σ1 ph2) ∨ (t = true ∧ ∃ w ph3, e σ1 ph2 = .ok w ph3 ∧ ph3[L]? = some (.lst acc) ∧ acc.length < sizeLine ∧ I (k + j + 1) (acc ++ [w]) σ1 (ph3.set L (.lst (acc ++ [w])))))) →
    I k acc σ ph → ∃ acc' σ' ph', compG chk g c e L items σ ph = .ok () ph' ∧ I (k + items.length) acc' σ' ph'
  | [], k, acc, σ, ph, hc, hs, h0 => by
    refine ⟨acc, σ, ph, ?_, h0⟩
    unfold compG
    rw [if_pos (hc _ _ _ _ h0)]
  | x :: xs, k, acc, σ, ph, hc, hs, h0 => by
    obtain ⟨σ1, ph1, e1, t, ph2, e2, h⟩ := hs 0 x acc σ ph rfl h0
    have next : ∀ acc2 ph4, I (k + 1) acc2 σ1 ph4 → ∃ acc' σ' ph', compG chk g c e L xs σ1 ph4 = .ok () ph' ∧ I (k + (x :: xs).length) acc' σ' ph' := fun acc2 ph4 hI => by
      have ih := compG_run L I xs (k + 1) acc2 σ1 ph4 hc (fun j y acc σ ph hj hI => by
        have := hs (j + 1) y acc σ ph (by simpa using hj) (by rw [show k + (j + 1) = k + 1 + j by omega]; exact hI)
        rw [show k + (j + 1) + 1 = k + 1 + j + 1 by omega] at this
        exact this) hI
      rw [show k + 1 + xs.length = k + (x :: xs).length by simp; omega] at ih
      exact ih
    have n1 : noEx (g x σ) ph = .ok σ1 ph1 := by unfold noEx; rw [e1]
    have n2 : noEx (c σ1) ph1 = .ok t ph2 := by unfold noEx; rw [e2]
    rcases h with ⟨rfl, hI⟩ | ⟨rfl, w, ph3, e3, hL, hz, hI⟩
    · have e : compG chk g c e L (x :: xs) σ ph = compG chk g c e L xs σ1 ph2 := by
        conv => lhs; unfold compG
        rw [if_pos (hc _ _ _ _ h0), bnd_ok n1, bnd_ok n2]
        rfl
      rw [e]
      exact next _ _ hI
    · have n3 : noEx (e σ1) ph2 = .ok w ph3 := by unfold noEx; rw [e3]
      have e : compG chk g c e L (x :: xs) σ ph = compG chk g c e L xs σ1 (ph3.set L (.lst (acc ++ [w]))) := by
        conv => lhs; unfold compG
        rw [if_pos (hc _ _ _ _ h0), bnd_ok n1, bnd_ok n2]
        show bnd (noEx (e σ1)) _ ph2 = _
        rw [bnd_ok n3]
        exact bnd_ok (append_ref hL hz w)
      rw [e]
      exact next _ _ hI
end IL

namespace IL
open PySem L2

/-! ### 37. A comprehension whose parts lay more, and change nothing -/
theorem eComp_ap (im : IM) (cap : List (Option Nat)) (g : GM) (c : TM) (e : EM) (σ : PSt) : eComp im cap g c e σ = bnd (im σ) fun r ph => bnd (compG r.2 g c e ph.length r.1 (capP cap σ)) (fun _ => pur (.ref ph.length)) (ph ++ [.lst []]) := (rfl)
theorem set_mid (ph m : PH) (o o' : PO) : (ph ++ [o] ++ m).set ph.length o' = ph ++ [o'] ++ m := by
  rw [List.append_assoc, List.set_append_right _ _ (Nat.le_refl _)]
  simp
theorem comp_run {α : Type} (as : List α) (h : α → W) {im : IM} {cap : List (Option Nat)} {g : GM} {c : TM} {e : EM} {σ : PSt} {ph ph0 : PH} {chk : PH → Bool} (him : im σ ph0 = .ok (as.map h, chk) ph) (hck : ∀ ph', Ex ph ph' → chk ph' = true) (hz : as.length ≤ sizeLine)
    (F : α → Option W) (S : PSt → Prop) (h0 : S (capP cap σ))
    (step : ∀ x ∈ as, ∀ σ H, S σ → Ex ph H → ∃ σ1, g (h x) σ H = .ok σ1 H ∧ S σ1 ∧ ∃ t H1, c σ1 H = .ok t H1 ∧ Ex H H1 ∧ ((t = false ∧ F x = none) ∨ (t = true ∧ ∃ w H2, e σ1 H1 = .ok w H2 ∧ Ex H1 H2 ∧ F x = some w))) :
    ∃ ph', eComp im cap g c e σ ph0 = .ok (.ref ph.length) ph' ∧ Ex (ph ++ [.lst (as.filterMap F)]) ph' := by
  rw [eComp_ap, bnd_ok him]
  have key := compG_run (chk := chk) (g := g) (c := c) (e := e) ph.length (fun k acc σ H => S σ ∧ acc = (as.take k).filterMap F ∧ Ex (ph ++ [.lst acc]) H) (as.map h) 0 [] (capP cap σ) (ph ++ [.lst []])
    (fun j acc σ H hI => hck _ ((Ex.one _ _).trans hI.2.2))
    (fun j y acc σ H hj hI => by
      rw [Nat.zero_add] at hI ⊢
      obtain ⟨hS, ha, hE⟩ := hI
      rw [List.getElem?_map] at hj
      cases hx : as[j]? with
      | none => rw [hx] at hj; cases hj
      | some x =>
        rw [hx] at hj
        cases hj
        have tk : (as.take (j + 1)).filterMap F = acc ++ (F x).toList := by
          rw [List.take_add_one, hx, List.filterMap_append, ha]
          cases hF : F x <;> simp [hF]
        obtain ⟨σ1, e1, hS1, t, H1, e2, x2, h⟩ := step x (List.mem_of_getElem? hx) σ H hS ((Ex.one _ _).trans hE)
        refine ⟨σ1, H, e1, t, H1, e2, ?_⟩
        rcases h with ⟨rfl, hF⟩ | ⟨rfl, w, H2, e3, x3, hF⟩
        · exact .inl ⟨rfl, hS1, by rw [tk, hF]; simp, hE.trans x2⟩
        · have x4 := (hE.trans x2).trans x3
          refine .inr ⟨rfl, w, H2, e3, x4.get (get_new _ _), ?_, hS1, by rw [tk, hF]; rfl, ?_⟩
          · have hl : acc.length ≤ j := by
              rw [ha]
              exact Nat.le_trans (List.length_filterMap_le _ _) (by simp; omega)
            have := (List.getElem?_eq_some_iff.mp hx).1
            omega
          · obtain ⟨m, rfl⟩ := x4
            rw [set_mid]
            exact ⟨m, rfl⟩)
    ⟨h0, by simp, Ex.refl _⟩
  obtain ⟨acc, σ', ph', e1, _, ha, hE⟩ := key
  refine ⟨ph', ?_, ?_⟩
  · show bnd (compG chk g c e ph.length (as.map h) (capP cap σ)) _ _ = _
    rw [bnd_ok e1]; rfl
  · rw [Nat.zero_add, List.length_map, List.take_length] at ha
    rw [← ha]; exact hE
theorem fm_some {α β : Type} (f : α → β) : ∀ l : List α, l.filterMap (fun a => some (f a)) = l.map f
  | [] => rfl
  | a :: l => by
    rw [List.filterMap_cons_some (f := fun a => some (f a)) (b := f a) rfl, fm_some f l]; rfl
/-- .. without a filter, what is made told by a relation -/
theorem comp_rel {α : Type} (as : List α) (h : α → W) {im : IM} {cap : List (Option Nat)} {g : GM} {c : TM} {e : EM} {σ : PSt} {ph ph0 : PH} {chk : PH → Bool} (him : im σ ph0 = .ok (as.map h, chk) ph) (hck : ∀ ph', Ex ph ph' → chk ph' = true) (hz : as.length ≤ sizeLine)
    (R : Nat → W → Prop) (S : PSt → Prop) (h0 : S (capP cap σ))
    (step : ∀ j x, as[j]? = some x → ∀ σ H, S σ → Ex ph H → ∃ σ1, g (h x) σ H = .ok σ1 H ∧ S σ1 ∧ ∃ H1, c σ1 H = .ok true H1 ∧ Ex H H1 ∧ ∃ w H2, e σ1 H1 = .ok w H2 ∧ Ex H1 H2 ∧ R j w) :
    ∃ ws ph', eComp im cap g c e σ ph0 = .ok (.ref ph.length) ph' ∧ Ex (ph ++ [.lst ws]) ph' ∧ ws.length = as.length ∧ ∀ j w, ws[j]? = some w → R j w := by
  rw [eComp_ap, bnd_ok him]
  have key := compG_run (chk := chk) (g := g) (c := c) (e := e) ph.length (fun k acc σ H => S σ ∧ acc.length = k ∧ (∀ j w, acc[j]? = some w → R j w) ∧ Ex (ph ++ [.lst acc]) H) (as.map h) 0 [] (capP cap σ) (ph ++ [.lst []])
    (fun j acc σ H hI => hck _ ((Ex.one _ _).trans hI.2.2.2))
    (fun j y acc σ H hj hI => by
      rw [Nat.zero_add] at hI ⊢
      obtain ⟨hS, hl, ha, hE⟩ := hI
      rw [List.getElem?_map] at hj
      cases hx : as[j]? with
      | none => rw [hx] at hj; cases hj
      | some x =>
        rw [hx] at hj
        cases hj
        obtain ⟨σ1, e1, hS1, H1, e2, x2, w, H2, e3, x3, hR⟩ := step j x hx σ H hS ((Ex.one _ _).trans hE)
        have x4 := (hE.trans x2).trans x3
        refine ⟨σ1, H, e1, true, H1, e2, .inr ⟨rfl, w, H2, e3, x4.get (get_new _ _), ?_, hS1, by simp [hl], fun i u hu => ?_, ?_⟩⟩
        · have := (List.getElem?_eq_some_iff.mp hx).1
          omega
        · by_cases hi : i < acc.length
          · rw [List.getElem?_append_left hi] at hu
            exact ha i u hu
          · have hi2 : i = j := by
              have := (List.getElem?_eq_some_iff.mp hu).1
              simp at this
              omega
            subst hi2
            rw [← hl, List.getElem?_concat_length] at hu
            cases hu
            exact hR
        · obtain ⟨m, rfl⟩ := x4
          rw [set_mid]
          exact ⟨m, rfl⟩)
    ⟨h0, rfl, fun j w hw => by simp at hw, Ex.refl _⟩
  obtain ⟨acc, σ', ph', e1, _, hl, ha, hE⟩ := key
  refine ⟨acc, ph', ?_, hE, by rw [hl, Nat.zero_add, List.length_map], ha⟩
  show bnd (compG chk g c e ph.length (as.map h) (capP cap σ)) _ _ = _
  rw [bnd_ok e1]; rfl
/-! what is walked -/
theorem enL_get {ws : List W} {i : Nat} {w : W} (h : (enumL ws)[i]? = some w) : ∃ x, ws[i]? = some x ∧ w = .tup [.int (i : Int), x] := by
  unfold enumL at h
  rw [List.getElem?_map] at h
  cases q : (List.range ws.length)[i]? with
  | none => rw [q] at h; cases h
  | some k =>
    rw [q] at h
    obtain ⟨hi, e⟩ := List.getElem?_eq_some_iff.mp q
    rw [List.getElem_range] at e
    subst e
    rw [List.length_range] at hi
    cases h
    exact ⟨ws[i], by simp [hi], by simp [hi]⟩
theorem enL_len (ws : List W) : (enumL ws).length = ws.length := by unfold enumL; simp
theorem iBoth_ref {m : EM} {σ : PSt} {ph ph' : PH} {i : Nat} {ws : List W} (h : m σ ph = .ok (.ref i) ph') (hi : ph'[i]? = some (.lst ws)) : iBoth m σ ph = .ok (ws, fun p => decide (p[i]? = some (.lst ws))) ph' := by
  unfold iBoth
  rw [bnd_ok h]
  unfold lift bothI seqI
  simp only [hi]
theorem iBoth_tup {m : EM} {σ : PSt} {ph ph' : PH} {ws : List W} (h : m σ ph = .ok (.tup ws) ph') : iBoth m σ ph = .ok (ws, fun _ => true) ph' := by
  unfold iBoth
  rw [bnd_ok h]
  rfl
theorem iR1_ap {m : AM} {σ : PSt} {ph ph' : PH} {j : Int} (h : m σ ph = .ok [.int j] ph') (h1 : -(2 ^ 62) ≤ j) (h2 : j < 2 ^ 62) : iR1 m σ ph = .ok (rngW 0 j.toNat, fun _ => true) ph' := by
  unfold iR1
  rw [bnd_ok h]
  unfold lift rng1
  simp only [h1, h2, and_self, if_true]
theorem iR2_ap {m : AM} {σ : PSt} {ph ph' : PH} {i j : Int} (h : m σ ph = .ok [.int i, .int j] ph') (h1 : -(2 ^ 62) ≤ i) (h2 : i < 2 ^ 62) (h3 : -(2 ^ 62) ≤ j) (h4 : j < 2 ^ 62) : iR2 m σ ph = .ok (rngW i (j - i).toNat, fun _ => true) ph' := by
  unfold iR2
  rw [bnd_ok h]
  unfold lift rng2
  simp only [h1, h2, h3, h4, and_self, if_true]
theorem iEnum_ref {m : AM} {σ : PSt} {ph ph' : PH} {i : Nat} {ws : List W} (h : m σ ph = .ok [.ref i] ph') (hi : ph'[i]? = some (.lst ws)) : iEnum m σ ph = .ok (enumL ws, fun p => decide (p[i]? = some (.lst ws))) ph' := by
  unfold iEnum
  rw [bnd_ok h]
  unfold lift enumI seqI
  simp only [hi, Option.map_some]
theorem rngW_get {lo : Int} {n k : Nat} {w : W} (h : (rngW lo n)[k]? = some w) : k < n ∧ w = .int (lo + (k : Int)) := by
  unfold rngW at h
  rw [List.getElem?_map] at h
  cases q : (List.range n)[k]? with
  | none => rw [q] at h; cases h
  | some j =>
    rw [q] at h
    obtain ⟨hi, e⟩ := List.getElem?_eq_some_iff.mp q
    rw [List.getElem_range] at e
    subst e
    rw [List.length_range] at hi
    cases h
    exact ⟨hi, rfl⟩
theorem rngW_mem {lo : Int} {n : Nat} {w : W} (h : w ∈ rngW lo n) : ∃ k : Nat, k < n ∧ w = .int (lo + (k : Int)) := by
  obtain ⟨k, hk, e⟩ := List.getElem_of_mem h
  obtain ⟨a, b⟩ := rngW_get (k := k) (w := w) (by rw [List.getElem?_eq_getElem hk, e])
  exact ⟨k, a, b⟩
theorem rngW_len (lo : Int) (n : Nat) : (rngW lo n).length = n := by unfold rngW; simp
/-! ### 38. in, == of things that can be written -/
theorem in_ref {ph : PH} {i : Nat} {ws : List W} {ds : List PyData} {x : W} {d : PyData} (h : ph[i]? = some (.lst ws)) (h1 : mapO (dat ph 40) ws = some ds) (h2 : dat ph 40 x = some d) : lift (inW x (.ref i)) ph = .ok (.bl (ds.any fun e => PyData.eqv e d)) ph := by
  unfold lift inW inD
  simp only [seqW, h, h1, h2, Option.map_some]
theorem in_tup {ph : PH} {ws : List W} {ds : List PyData} {x : W} {d : PyData} (h1 : mapO (dat ph 40) ws = some ds) (h2 : dat ph 40 x = some d) : lift (inW x (.tup ws)) ph = .ok (.bl (ds.any fun e => PyData.eqv e d)) ph := by
  unfold lift inW inD
  simp only [seqW, h1, h2, Option.map_some]
theorem eqv_s (a b : Str) : PyData.eqv (.str a) (.str b) = decide (a = b) := by
  unfold PyData.eqv; rfl
theorem eqv_i (a b : Int) : PyData.eqv (.int a) (.int b) = decide (a = b) := by
  unfold PyData.eqv; rfl
theorem eqv_b (a b : Bool) : PyData.eqv (.bool a) (.bool b) = decide (a = b) := by
  unfold PyData.eqv; cases a <;> cases b <;> rfl
theorem eqv_t2 (a b c d : PyData) : PyData.eqv (.tuple [a, b]) (.tuple [c, d]) = (PyData.eqv a c && PyData.eqv b d) := by
  simp only [PyData.eqv, PyData.eqvAll, Bool.and_true]
theorem mapO_map {α β γ : Type} (f : β → Option γ) (g : α → β) (h : α → γ) (hf : ∀ a, f (g a) = some (h a)) : ∀ l : List α, mapO f (l.map g) = some (l.map h)
  | [] => rfl
  | a :: l => by
    show mapO f (g a :: l.map g) = _
    unfold mapO
    rw [hf a, mapO_map f g h hf l]
    rfl
/-- a word among some that are written -/
theorem in_lits (x : String) (ss : List String) : lift (inW (.str (Str.ofString x)) (.tup (ss.map fun s => .str (Str.ofString s)))) = pur (.bl (ss.any fun s => decide (s = x))) := by
  funext ph
  rw [in_tup (mapO_map _ _ (fun s => PyData.str (Str.ofString s)) (fun s => by simp only [dat, so, if_true]) ss) (d := .str (Str.ofString x)) (by simp only [dat, so, if_true])]
  rw [List.any_map]
  simp only [Function.comp_def, eqv_s, os_inj]
  rfl
theorem in_l2 (x a b : String) : lift (inW (.str (Str.ofString x)) (.tup [.str (Str.ofString a), .str (Str.ofString b)])) = pur (.bl (decide (a = x) || decide (b = x))) := by
  have := in_lits x [a, b]
  simp only [List.map_cons, List.map_nil, List.any_cons, List.any_nil, Bool.or_false] at this
  exact this
theorem in_l3 (x a b c : String) : lift (inW (.str (Str.ofString x)) (.tup [.str (Str.ofString a), .str (Str.ofString b), .str (Str.ofString c)])) = pur (.bl (decide (a = x) || (decide (b = x) || decide (c = x)))) := by
  have := in_lits x [a, b, c]
  simp only [List.map_cons, List.map_nil, List.any_cons, List.any_nil, Bool.or_false] at this
  exact this
theorem any_ref {ph : PH} {i : Nat} {bs : List Bool} (h : ph[i]? = some (.lst (bs.map W.bl))) : lift (anyW [.ref i]) ph = .ok (.bl (bs.any id)) ph := by
  unfold lift anyW blsW
  simp only [isL_ref h, if_true, seqW, h, Option.bind_some, mapO_map blW W.bl id (fun _ => rfl), Option.map_some, List.map_id_fun, id]
theorem all_ref {ph : PH} {i : Nat} {bs : List Bool} (h : ph[i]? = some (.lst (bs.map W.bl))) : lift (allW [.ref i]) ph = .ok (.bl (bs.all id)) ph := by
  unfold lift allW blsW
  simp only [isL_ref h, if_true, seqW, h, Option.bind_some, mapO_map blW W.bl id (fun _ => rfl), Option.map_some, List.map_id_fun, id]
end IL

namespace IL.K22
open PySem PySem.Spec PyProof.Rows L2
def top (i : Nat) : Stmt := PySem.Challenge.pw_boxwright_k22_bound_pairs.main.body.getD i (.Pass ⟨0, 0, 0, 0⟩)
abbrev s_law_cell_at : Stmt := top 9
abbrev s_law_number_by : Stmt := top 10
abbrev s_law_row_by : Stmt := top 11
abbrev s_law_is_part : Stmt := top 12
abbrev s_law_writes : Stmt := top 13
abbrev s_law_reads : Stmt := top 14
abbrev s_law_tied : Stmt := top 15
abbrev s_law_due : Stmt := top 16
abbrev s_is_outward : Stmt := top 4
abbrev s_things_read : Stmt := top 1
abbrev s_things_written : Stmt := top 2
abbrev s_share : Stmt := top 5
abbrev s_are_bound : Stmt := top 6
abbrev s_bound : Stmt := top 7
abbrev s_law_right : Stmt := top 17
abbrev s_law : Stmt := top 18
noncomputable def b_law_cell_at : SM := (sSeq (sIf (eT (eOp ltW (eVar 1) (eCallB lenW (aCons (eVar 0) aNil)))) (sRet (eOp ixW (eVar 0) (eVar 1))) sNext) (sRet (eC (.int (0)))))
noncomputable def f_law_cell_at : List W → Mo W := fM b_law_cell_at 2 2
noncomputable def b_law_number_by : SM := (sSeq (sIf (eT (eOp eqW (eOp modW (eVar 0) (eC (.int (4)))) (eC (.int (3))))) (sRet (eOp ixW (eLst (aCons (eC (.int (2147483647))) (aCons (eUn negW (eC (.int (2147483648)))) (aCons (eC (.int (65536))) (aCons (eUn negW (eC (.int (1)))) (aCons (eC (.int (46341))) (aCons (eUn negW (eC (.int (65537)))) (aCons (eC (.int (1))) (aCons (eC (.int (0))) aNil))))))))) (eOp modW (eOp divW (eVar 0) (eC (.int (4)))) (eC (.int (8)))))) sNext) (sSeq (sIf (eT (eOp eqW (eOp modW (eVar 0) (eC (.int (4)))) (eC (.int (2))))) (sRet (eOp subW (eOp modW (eOp mulW (eOp divW (eVar 0) (eC (.int (4)))) (eC (.int (48271)))) (eC (.int (4294967296)))) (eC (.int (2147483648))))) sNext) (sSeq (sIf (eT (eOp eqW (eOp modW (eVar 0) (eC (.int (4)))) (eC (.int (1))))) (sRet (eOp subW (eOp modW (eOp divW (eVar 0) (eC (.int (4)))) (eC (.int (100003)))) (eC (.int (1000))))) sNext) (sRet (eOp subW (eOp modW (eOp divW (eVar 0) (eC (.int (4)))) (eC (.int (19)))) (eC (.int (6))))))))
noncomputable def f_law_number_by : List W → Mo W := fM b_law_number_by 1 1
noncomputable def b_law_row_by : SM := (sSeq (sAsg (eOp modW (eVar 0) (eC (.int (12)))) (gN 3)) (sSeq (sAsg (eOp modW (eOp mulW (eOp divW (eVar 0) (eC (.int (12)))) (eC (.int (48271)))) (eC (.int (2147483647)))) (gN 4)) (sSeq (sAsg (eOp modW (eVar 4) (eVar 1)) (gN 5)) (sSeq (sAsg (eOp modW (eOp divW (eVar 4) (eC (.int (9)))) (eVar 1)) (gN 6)) (sSeq (sAsg (eOp modW (eOp divW (eVar 4) (eC (.int (81)))) (eVar 2)) (gN 7)) (sSeq (sIf (eT (eOp ltW (eVar 3) (eC (.int (5))))) (sSeq (sAsg (eOp ixW (eLst (aCons (eC (.str "sum")) (aCons (eC (.str "less")) (aCons (eC (.str "times")) (aCons (eC (.str "part")) (aCons (eC (.str "below")) (aCons (eC (.str "alike")) aNil))))))) (eOp modW (eOp divW (eVar 4) (eC (.int (486)))) (eC (.int (6))))) (gN 8)) (sRet (eTup (aCons (eC (.str "do")) (aCons (eVar 5) (aCons (eVar 8) (aCons (eVar 6) (aCons (eOp modW (eOp divW (eVar 4) (eC (.int (2916)))) (eVar 1)) aNil)))))))) sNext) (sSeq (sAsg (eLst (aCons (eTup (aCons (eC (.str "put")) (aCons (eVar 5) (aCons (eCall f_law_number_by (aCons (eOp divW (eVar 4) (eC (.int (9)))) aNil)) aNil)))) (aCons (eTup (aCons (eC (.str "move")) (aCons (eVar 5) (aCons (eVar 6) aNil)))) (aCons (eTup (aCons (eC (.str "pull")) (aCons (eVar 5) (aCons (eVar 7) aNil)))) (aCons (eTup (aCons (eC (.str "push")) (aCons (eVar 7) (aCons (eVar 5) aNil)))) aNil))))) (gN 9)) (sSeq (sAsg (eOp addW (eVar 9) (eLst (aCons (eTup (aCons (eC (.str "take")) (aCons (eVar 5) aNil))) (aCons (eTup (aCons (eC (.str "tell")) (aCons (eVar 5) aNil))) (aCons (eTup (aCons (eC (.str "turn")) aNil)) aNil))))) (gN 9)) (sRet (eOp ixW (eVar 9) (eOp subW (eVar 3) (eC (.int (5))))))))))))))
noncomputable def f_law_row_by : List W → Mo W := fM b_law_row_by 10 3
noncomputable def b_law_is_part : SM := (sRet (eAnd (eOp eqW (eOp ixW (eVar 0) (eC (.int (0)))) (eC (.str "do"))) (eOp eqW (eOp ixW (eVar 0) (eC (.int (2)))) (eC (.str "part")))))
noncomputable def f_law_is_part : List W → Mo W := fM b_law_is_part 1 1
noncomputable def b_law_writes : SM := (sSeq (sIf (tOrM (eT (eOp eqW (eOp ixW (eVar 0) (eC (.int (0)))) (eC (.str "tell")))) (eT (eOp eqW (eOp ixW (eVar 0) (eC (.int (0)))) (eC (.str "turn"))))) (sRet (eC .non)) sNext) (sRet (eTup (aCons (eOp eqW (eOp ixW (eVar 0) (eC (.int (0)))) (eC (.str "push"))) (aCons (eOp ixW (eVar 0) (eC (.int (1)))) aNil)))))
noncomputable def f_law_writes : List W → Mo W := fM b_law_writes 1 1
noncomputable def b_law_reads : SM := (sSeq (sIf (eT (eOp eqW (eOp ixW (eVar 0) (eC (.int (0)))) (eC (.str "do")))) (sRet (eLst (aCons (eTup (aCons (eC (.bl false)) (aCons (eOp ixW (eVar 0) (eC (.int (3)))) aNil))) (aCons (eTup (aCons (eC (.bl false)) (aCons (eOp ixW (eVar 0) (eC (.int (4)))) aNil))) aNil)))) sNext) (sSeq (sIf (tOrM (eT (eOp eqW (eOp ixW (eVar 0) (eC (.int (0)))) (eC (.str "pull")))) (tOrM (eT (eOp eqW (eOp ixW (eVar 0) (eC (.int (0)))) (eC (.str "push")))) (eT (eOp eqW (eOp ixW (eVar 0) (eC (.int (0)))) (eC (.str "move")))))) (sRet (eLst (aCons (eTup (aCons (eOp eqW (eOp ixW (eVar 0) (eC (.int (0)))) (eC (.str "pull"))) (aCons (eOp ixW (eVar 0) (eC (.int (2)))) aNil))) aNil))) sNext) (sSeq (sIf (eT (eOp eqW (eOp ixW (eVar 0) (eC (.int (0)))) (eC (.str "tell")))) (sRet (eLst (aCons (eTup (aCons (eC (.bl false)) (aCons (eOp ixW (eVar 0) (eC (.int (1)))) aNil))) aNil))) sNext) (sRet (eLst aNil)))))
noncomputable def f_law_reads : List W → Mo W := fM b_law_reads 1 1
noncomputable def b_law_tied : SM := (sSeq (sIf (tOrM (eT (eOp inW (eOp ixW (eVar 0) (eC (.int (0)))) (eTup (aCons (eC (.str "take")) (aCons (eC (.str "tell")) (aCons (eC (.str "turn")) aNil)))))) (eTru (eCall f_law_is_part (aCons (eVar 0) aNil)))) (sIf (tOrM (eT (eOp inW (eOp ixW (eVar 1) (eC (.int (0)))) (eTup (aCons (eC (.str "take")) (aCons (eC (.str "tell")) (aCons (eC (.str "turn")) aNil)))))) (eTru (eCall f_law_is_part (aCons (eVar 1) aNil)))) (sRet (eC (.bl true))) sNext) sNext) (sSeq (sAsg (eCall f_law_writes (aCons (eVar 0) aNil)) (gN 2)) (sSeq (sAsg (eCall f_law_writes (aCons (eVar 1) aNil)) (gN 3)) (sSeq (sIf (tAndM (eT (eOp notNW (eVar 2) (eC .non))) (tOrM (eT (eOp eqW (eVar 2) (eVar 3))) (eT (eOp inW (eVar 2) (eCall f_law_reads (aCons (eVar 1) aNil)))))) (sRet (eC (.bl true))) sNext) (sRet (eAnd (eOp notNW (eVar 3) (eC .non)) (eOp inW (eVar 3) (eCall f_law_reads (aCons (eVar 0) aNil)))))))))
noncomputable def f_law_tied : List W → Mo W := fM b_law_tied 4 2
noncomputable def b_law_due : SM := (sSeq (sAsg (eLst aNil) (gN 1)) (sSeq (sFor (iR1 (aCons (eCallB lenW (aCons (eVar 0) aNil)) aNil)) (gN 2) (sFor (iR2 (aCons (eOp addW (eVar 2) (eC (.int (1)))) (aCons (eCallB lenW (aCons (eVar 0) aNil)) aNil))) (gN 3) (sIf (eTru (eCall f_law_tied (aCons (eOp ixW (eVar 0) (eVar 2)) (aCons (eOp ixW (eVar 0) (eVar 3)) aNil)))) (sExpr (eMeth isL appendW (eVar 1) (aCons (eTup (aCons (eVar 2) (aCons (eVar 3) aNil))) aNil))) sNext))) (sRet (eVar 1))))
noncomputable def f_law_due : List W → Mo W := fM b_law_due 4 1
noncomputable def b_is_outward : SM := (sRet (eOr (eOp inW (eOp ixW (eVar 0) (eC (.int (0)))) (eTup (aCons (eC (.str "take")) (aCons (eC (.str "tell")) (aCons (eC (.str "turn")) aNil))))) (eAnd (eOp eqW (eOp ixW (eVar 0) (eC (.int (0)))) (eC (.str "do"))) (eOp eqW (eOp ixW (eVar 0) (eC (.int (2)))) (eC (.str "part"))))))
noncomputable def f_is_outward : List W → Mo W := fM b_is_outward 1 1
noncomputable def b_things_read : SM := (sSeq (sIf (eT (eOp eqW (eOp ixW (eVar 0) (eC (.int (0)))) (eC (.str "do")))) (sRet (eLst (aCons (eTup (aCons (eC (.str "box")) (aCons (eOp ixW (eVar 0) (eC (.int (3)))) aNil))) (aCons (eTup (aCons (eC (.str "box")) (aCons (eOp ixW (eVar 0) (eC (.int (4)))) aNil))) aNil)))) sNext) (sSeq (sIf (eT (eOp eqW (eOp ixW (eVar 0) (eC (.int (0)))) (eC (.str "tell")))) (sRet (eLst (aCons (eTup (aCons (eC (.str "box")) (aCons (eOp ixW (eVar 0) (eC (.int (1)))) aNil))) aNil))) sNext) (sSeq (sIf (eT (eOp inW (eOp ixW (eVar 0) (eC (.int (0)))) (eTup (aCons (eC (.str "move")) (aCons (eC (.str "push")) aNil))))) (sRet (eLst (aCons (eTup (aCons (eC (.str "box")) (aCons (eOp ixW (eVar 0) (eC (.int (2)))) aNil))) aNil))) sNext) (sSeq (sIf (eT (eOp eqW (eOp ixW (eVar 0) (eC (.int (0)))) (eC (.str "pull")))) (sRet (eLst (aCons (eTup (aCons (eC (.str "slot")) (aCons (eOp ixW (eVar 0) (eC (.int (2)))) aNil))) aNil))) sNext) (sRet (eLst aNil))))))
noncomputable def f_things_read : List W → Mo W := fM b_things_read 1 1
noncomputable def b_things_written : SM := (sSeq (sIf (eT (eOp inW (eOp ixW (eVar 0) (eC (.int (0)))) (eTup (aCons (eC (.str "tell")) (aCons (eC (.str "turn")) aNil))))) (sRet (eLst aNil)) sNext) (sSeq (sIf (eT (eOp eqW (eOp ixW (eVar 0) (eC (.int (0)))) (eC (.str "push")))) (sRet (eLst (aCons (eTup (aCons (eC (.str "slot")) (aCons (eOp ixW (eVar 0) (eC (.int (1)))) aNil))) aNil))) sNext) (sRet (eLst (aCons (eTup (aCons (eC (.str "box")) (aCons (eOp ixW (eVar 0) (eC (.int (1)))) aNil))) aNil)))))
noncomputable def f_things_written : List W → Mo W := fM b_things_written 1 1
noncomputable def b_share : SM := (sRet (eCallB anyW (aCons (eComp (iBoth (eVar 0)) [none, some 1] (gN 0) cTrue (eOp inW (eVar 0) (eVar 1))) aNil)))
noncomputable def f_share : List W → Mo W := fM b_share 2 2
noncomputable def b_are_bound : SM := (sSeq (sIf (tAndM (eTru (eCall f_is_outward (aCons (eVar 0) aNil))) (eTru (eCall f_is_outward (aCons (eVar 1) aNil)))) (sRet (eC (.bl true))) sNext) (sSeq (sIf (eTru (eCall f_share (aCons (eCall f_things_written (aCons (eVar 0) aNil)) (aCons (eOp addW (eCall f_things_read (aCons (eVar 1) aNil)) (eCall f_things_written (aCons (eVar 1) aNil))) aNil)))) (sRet (eC (.bl true))) sNext) (sRet (eCall f_share (aCons (eCall f_things_written (aCons (eVar 1) aNil)) (aCons (eCall f_things_read (aCons (eVar 0) aNil)) aNil))))))
noncomputable def f_are_bound : List W → Mo W := fM b_are_bound 2 2
noncomputable def b_bound : SM := (sSeq (sAsg (eLst aNil) (gN 1)) (sSeq (sFor (iEnum (aCons (eVar 0) aNil)) (gLen 2 [(gN 2), (gN 3)]) (sExpr (eMeth isL extendW (eVar 1) (aCons (eComp (iR2 (aCons (eOp addW (eVar 2) (eC (.int (1)))) (aCons (eCallB lenW (aCons (eVar 0) aNil)) aNil))) [none, some 2, some 3, some 0] (gN 0) (eTru (eCall f_are_bound (aCons (eVar 2) (aCons (eOp ixW (eVar 3) (eVar 0)) aNil)))) (eTup (aCons (eVar 1) (aCons (eVar 0) aNil)))) aNil)))) (sRet (eVar 1))))
noncomputable def f_bound : List W → Mo W := fM b_bound 4 1
noncomputable def b_law_right : SM := (sSeq (sIf (tOrM (tNotM (eTru (eIs "list" (eVar 0)))) (eT (eOp neW (eVar 0) (eVar 1)))) (sRet (eC (.bl false))) sNext) (sSeq (sFor (iBoth (eVar 0)) (gN 2) (sSeq (sIf (tNotM (eTru (eIs "tuple" (eVar 2)))) (sRet (eC (.bl false))) sNext) (sFor (iBoth (eVar 2)) (gN 3) (sIf (tOrM (tNotM (eTru (eIs "int" (eVar 3)))) (eTru (eIs "bool" (eVar 3)))) (sRet (eC (.bl false))) sNext)))) (sRet (eC (.bl true)))))
noncomputable def f_law_right : List W → Mo W := fM b_law_right 4 2
noncomputable def b_law : SM := (sSeq (sAsg (eOp modW (eCall f_law_cell_at (aCons (eVar 0) (aCons (eC (.int (0))) aNil))) (eC (.int (13)))) (gN 1)) (sSeq (sIf (eT (eOp eqW (eOp modW (eOp divW (eCall f_law_cell_at (aCons (eVar 0) (aCons (eC (.int (0))) aNil))) (eC (.int (13)))) (eC (.int (9)))) (eC (.int (1))))) (sAsg (eOp addW (eC (.int (13))) (eOp modW (eOp divW (eCall f_law_cell_at (aCons (eVar 0) (aCons (eC (.int (0))) aNil))) (eC (.int (117)))) (eC (.int (18))))) (gN 1)) sNext) (sSeq (sAsg (eOp addW (eC (.int (2))) (eOp modW (eCall f_law_cell_at (aCons (eVar 0) (aCons (eC (.int (1))) aNil))) (eC (.int (8))))) (gN 2)) (sSeq (sAsg (eOp addW (eC (.int (1))) (eOp modW (eOp divW (eCall f_law_cell_at (aCons (eVar 0) (aCons (eC (.int (1))) aNil))) (eC (.int (8)))) (eC (.int (12))))) (gN 3)) (sSeq (sAsg (eComp (iR1 (aCons (eVar 1) aNil)) [none, some 2, some 3, some 0] (gN 0) cTrue (eCall f_law_row_by (aCons (eOp addW (eCall f_law_cell_at (aCons (eVar 3) (aCons (eOp addW (eC (.int (2))) (eOp modW (eVar 0) (eC (.int (40))))) aNil))) (eOp mulW (eC (.int (7))) (eVar 0))) (aCons (eVar 1) (aCons (eVar 2) aNil))))) (gN 4)) (sSeq (sAsg (eCallB listW (aCons (eVar 4) aNil)) (gN 5)) (sSeq (sAsg (eCall f_law_due (aCons (eVar 4) aNil)) (gN 6)) (sSeq (sAsg (eCall f_bound (aCons (eVar 5) aNil)) (gN 7)) (sSeq (sIf (tNotM (eTru (eCall f_law_right (aCons (eVar 7) (aCons (eVar 6) aNil))))) (sRet (eC (.bl false))) sNext) (sSeq (sExpr (eMeth isL clearW (eVar 7) aNil)) (sRet (eAnd (eCall f_law_right (aCons (eCall f_bound (aCons (eVar 5) aNil)) (aCons (eVar 6) aNil))) (eAnd (eOp eqW (eVar 7) (eLst aNil)) (eOp eqW (eVar 5) (eVar 4)))))))))))))))
noncomputable def f_law : List W → Mo W := fM b_law 8 1
structure Tx (K : PySem.W.Frag) (mg : Str → Option Value) where
  a_law_cell_at : Addr
  d_law_cell_at : FuncData
  F_law_cell_at : Fun K "_law_cell_at" "_law_cell_at" s_law_cell_at a_law_cell_at d_law_cell_at
  m_law_cell_at : mg "_law_cell_at" = some (.ref a_law_cell_at)
  b_law_cell_at : Binds K d_law_cell_at ["_law_script", "_law_k"] []
  a_law_number_by : Addr
  d_law_number_by : FuncData
  F_law_number_by : Fun K "_law_number_by" "_law_number_by" s_law_number_by a_law_number_by d_law_number_by
  m_law_number_by : mg "_law_number_by" = some (.ref a_law_number_by)
  b_law_number_by : Binds K d_law_number_by ["_law_cell"] []
  a_law_row_by : Addr
  d_law_row_by : FuncData
  F_law_row_by : Fun K "_law_row_by" "_law_row_by" s_law_row_by a_law_row_by d_law_row_by
  m_law_row_by : mg "_law_row_by" = some (.ref a_law_row_by)
  b_law_row_by : Binds K d_law_row_by ["_law_cell", "_law_boxes", "_law_slots"] []
  a_law_is_part : Addr
  d_law_is_part : FuncData
  F_law_is_part : Fun K "_law_is_part" "_law_is_part" s_law_is_part a_law_is_part d_law_is_part
  m_law_is_part : mg "_law_is_part" = some (.ref a_law_is_part)
  b_law_is_part : Binds K d_law_is_part ["_law_row"] []
  a_law_writes : Addr
  d_law_writes : FuncData
  F_law_writes : Fun K "_law_writes" "_law_writes" s_law_writes a_law_writes d_law_writes
  m_law_writes : mg "_law_writes" = some (.ref a_law_writes)
  b_law_writes : Binds K d_law_writes ["_law_row"] []
  a_law_reads : Addr
  d_law_reads : FuncData
  F_law_reads : Fun K "_law_reads" "_law_reads" s_law_reads a_law_reads d_law_reads
  m_law_reads : mg "_law_reads" = some (.ref a_law_reads)
  b_law_reads : Binds K d_law_reads ["_law_row"] []
  a_law_tied : Addr
  d_law_tied : FuncData
  F_law_tied : Fun K "_law_tied" "_law_tied" s_law_tied a_law_tied d_law_tied
  m_law_tied : mg "_law_tied" = some (.ref a_law_tied)
  b_law_tied : Binds K d_law_tied ["_law_one", "_law_other"] []
  a_law_due : Addr
  d_law_due : FuncData
  F_law_due : Fun K "_law_due" "_law_due" s_law_due a_law_due d_law_due
  m_law_due : mg "_law_due" = some (.ref a_law_due)
  b_law_due : Binds K d_law_due ["_law_rows"] []
  a_is_outward : Addr
  d_is_outward : FuncData
  F_is_outward : Fun K "is_outward" "is_outward" s_is_outward a_is_outward d_is_outward
  m_is_outward : mg "is_outward" = some (.ref a_is_outward)
  b_is_outward : Binds K d_is_outward ["row"] []
  a_things_read : Addr
  d_things_read : FuncData
  F_things_read : Fun K "things_read" "things_read" s_things_read a_things_read d_things_read
  m_things_read : mg "things_read" = some (.ref a_things_read)
  b_things_read : Binds K d_things_read ["row"] []
  a_things_written : Addr
  d_things_written : FuncData
  F_things_written : Fun K "things_written" "things_written" s_things_written a_things_written d_things_written
  m_things_written : mg "things_written" = some (.ref a_things_written)
  b_things_written : Binds K d_things_written ["row"] []
  a_share : Addr
  d_share : FuncData
  F_share : Fun K "share" "share" s_share a_share d_share
  m_share : mg "share" = some (.ref a_share)
  b_share : Binds K d_share ["some", "others"] []
  a_are_bound : Addr
  d_are_bound : FuncData
  F_are_bound : Fun K "are_bound" "are_bound" s_are_bound a_are_bound d_are_bound
  m_are_bound : mg "are_bound" = some (.ref a_are_bound)
  b_are_bound : Binds K d_are_bound ["one", "other"] []
  a_bound : Addr
  d_bound : FuncData
  F_bound : Fun K "bound" "bound" s_bound a_bound d_bound
  m_bound : mg "bound" = some (.ref a_bound)
  b_bound : Binds K d_bound ["rows"] []
  a_law_right : Addr
  d_law_right : FuncData
  F_law_right : Fun K "_law_right" "_law_right" s_law_right a_law_right d_law_right
  m_law_right : mg "_law_right" = some (.ref a_law_right)
  b_law_right : Binds K d_law_right ["_law_found", "_law_due_here"] []
  a_law : Addr
  d_law : FuncData
  F_law : Fun K "law" "law" s_law a_law d_law
  m_law : mg "law" = some (.ref a_law)
  b_law : Binds K d_law ["_law_script"] []
  n_any : mg "any" = none
  n_bool : mg "bool" = none
  n_enumerate : mg "enumerate" = none
  n_int : mg "int" = none
  n_isinstance : mg "isinstance" = none
  n_len : mg "len" = none
  n_list : mg "list" = none
  n_range : mg "range" = none
  n_tuple : mg "tuple" = none
def Tx.cast {K K' : PySem.W.Frag} {mg mg' : Str → Option Value} (h1 : K' = K) (h2 : mg' = mg) (T : Tx K mg) : Tx K' mg' := by subst h1 h2; exact T
theorem blkG {X : Cx} {N N' : List Str} {sc scope : Scope} {k : Nat} {tg : Expr} {g : GM} (B : Bd X N sc k) (T : Tx X.K X.mg) (hc : ∀ y ∈ scope.names, y.2 ≠ .cell) (nd : N'.Nodup) (h : ∀ {Y : Cx}, Bd Y N' scope k → Tx Y.K Y.mg → JG Y tg g) (cl : List (Str × Addr)) (C : Addr) (s₀ : Shared) (H₀ : Hp) (ex : List Addr) : JG (blk X N' scope cl C s₀ H₀ ex) tg g := h (B.blk hc nd) T
theorem blkF {X : Cx} {N N' : List Str} {sc scope : Scope} {k : Nat} {ifs : List Expr} {t : TM} (B : Bd X N sc k) (T : Tx X.K X.mg) (hc : ∀ y ∈ scope.names, y.2 ≠ .cell) (nd : N'.Nodup) (h : ∀ {Y : Cx}, Bd Y N' scope k → Tx Y.K Y.mg → JF Y ifs t) (cl : List (Str × Addr)) (C : Addr) (s₀ : Shared) (H₀ : Hp) (ex : List Addr) : JF (blk X N' scope cl C s₀ H₀ ex) ifs t := h (B.blk hc nd) T
theorem blkE {X : Cx} {N N' : List Str} {sc scope : Scope} {k : Nat} {e : Expr} {m : EM} (B : Bd X N sc k) (T : Tx X.K X.mg) (hc : ∀ y ∈ scope.names, y.2 ≠ .cell) (nd : N'.Nodup) (h : ∀ {Y : Cx}, Bd Y N' scope k → Tx Y.K Y.mg → JE Y e m) (cl : List (Str × Addr)) (C : Addr) (s₀ : Shared) (H₀ : Hp) (ex : List Addr) : JE (blk X N' scope cl C s₀ H₀ ex) e m := h (B.blk hc nd) T
theorem dbg_law_script : (("_law_script" : Str) == ("__debug__" : Str)) = false := by decide +kernel
theorem cdc_law_script : (("_law_script" : Str) == ("__classdict__" : Str)) = false := by decide +kernel
theorem dbg_law_k : (("_law_k" : Str) == ("__debug__" : Str)) = false := by decide +kernel
theorem cdc_law_k : (("_law_k" : Str) == ("__classdict__" : Str)) = false := by decide +kernel
theorem dbg_law_cell : (("_law_cell" : Str) == ("__debug__" : Str)) = false := by decide +kernel
theorem cdc_law_cell : (("_law_cell" : Str) == ("__classdict__" : Str)) = false := by decide +kernel
theorem dbg_law_boxes : (("_law_boxes" : Str) == ("__debug__" : Str)) = false := by decide +kernel
theorem cdc_law_boxes : (("_law_boxes" : Str) == ("__classdict__" : Str)) = false := by decide +kernel
theorem dbg_law_slots : (("_law_slots" : Str) == ("__debug__" : Str)) = false := by decide +kernel
theorem cdc_law_slots : (("_law_slots" : Str) == ("__classdict__" : Str)) = false := by decide +kernel
theorem dbg_law_kind : (("_law_kind" : Str) == ("__debug__" : Str)) = false := by decide +kernel
theorem cdc_law_kind : (("_law_kind" : Str) == ("__classdict__" : Str)) = false := by decide +kernel
theorem dbg_law_more : (("_law_more" : Str) == ("__debug__" : Str)) = false := by decide +kernel
theorem cdc_law_more : (("_law_more" : Str) == ("__classdict__" : Str)) = false := by decide +kernel
theorem dbg_law_one : (("_law_one" : Str) == ("__debug__" : Str)) = false := by decide +kernel
theorem cdc_law_one : (("_law_one" : Str) == ("__classdict__" : Str)) = false := by decide +kernel
theorem dbg_law_other : (("_law_other" : Str) == ("__debug__" : Str)) = false := by decide +kernel
theorem cdc_law_other : (("_law_other" : Str) == ("__classdict__" : Str)) = false := by decide +kernel
theorem dbg_law_slot : (("_law_slot" : Str) == ("__debug__" : Str)) = false := by decide +kernel
theorem cdc_law_slot : (("_law_slot" : Str) == ("__classdict__" : Str)) = false := by decide +kernel
theorem dbg_law_word : (("_law_word" : Str) == ("__debug__" : Str)) = false := by decide +kernel
theorem cdc_law_word : (("_law_word" : Str) == ("__classdict__" : Str)) = false := by decide +kernel
theorem dbg_law_some : (("_law_some" : Str) == ("__debug__" : Str)) = false := by decide +kernel
theorem cdc_law_some : (("_law_some" : Str) == ("__classdict__" : Str)) = false := by decide +kernel
theorem dbg_law_row : (("_law_row" : Str) == ("__debug__" : Str)) = false := by decide +kernel
theorem cdc_law_row : (("_law_row" : Str) == ("__classdict__" : Str)) = false := by decide +kernel
theorem dbg_law_first : (("_law_first" : Str) == ("__debug__" : Str)) = false := by decide +kernel
theorem cdc_law_first : (("_law_first" : Str) == ("__classdict__" : Str)) = false := by decide +kernel
theorem dbg_law_second : (("_law_second" : Str) == ("__debug__" : Str)) = false := by decide +kernel
theorem cdc_law_second : (("_law_second" : Str) == ("__classdict__" : Str)) = false := by decide +kernel
theorem dbg_law_rows : (("_law_rows" : Str) == ("__debug__" : Str)) = false := by decide +kernel
theorem cdc_law_rows : (("_law_rows" : Str) == ("__classdict__" : Str)) = false := by decide +kernel
theorem dbg_law_found : (("_law_found" : Str) == ("__debug__" : Str)) = false := by decide +kernel
theorem cdc_law_found : (("_law_found" : Str) == ("__classdict__" : Str)) = false := by decide +kernel
theorem dbg_row : (("row" : Str) == ("__debug__" : Str)) = false := by decide +kernel
theorem cdc_row : (("row" : Str) == ("__classdict__" : Str)) = false := by decide +kernel
theorem dbg_some : (("some" : Str) == ("__debug__" : Str)) = false := by decide +kernel
theorem cdc_some : (("some" : Str) == ("__classdict__" : Str)) = false := by decide +kernel
theorem dbg_others : (("others" : Str) == ("__debug__" : Str)) = false := by decide +kernel
theorem cdc_others : (("others" : Str) == ("__classdict__" : Str)) = false := by decide +kernel
theorem dbg_thing : (("thing" : Str) == ("__debug__" : Str)) = false := by decide +kernel
theorem cdc_thing : (("thing" : Str) == ("__classdict__" : Str)) = false := by decide +kernel
theorem dbg_one : (("one" : Str) == ("__debug__" : Str)) = false := by decide +kernel
theorem cdc_one : (("one" : Str) == ("__classdict__" : Str)) = false := by decide +kernel
theorem dbg_other : (("other" : Str) == ("__debug__" : Str)) = false := by decide +kernel
theorem cdc_other : (("other" : Str) == ("__classdict__" : Str)) = false := by decide +kernel
theorem dbg_rows : (("rows" : Str) == ("__debug__" : Str)) = false := by decide +kernel
theorem cdc_rows : (("rows" : Str) == ("__classdict__" : Str)) = false := by decide +kernel
theorem dbg_told : (("told" : Str) == ("__debug__" : Str)) = false := by decide +kernel
theorem cdc_told : (("told" : Str) == ("__classdict__" : Str)) = false := by decide +kernel
theorem dbg_i : (("i" : Str) == ("__debug__" : Str)) = false := by decide +kernel
theorem cdc_i : (("i" : Str) == ("__classdict__" : Str)) = false := by decide +kernel
theorem dbg_j : (("j" : Str) == ("__debug__" : Str)) = false := by decide +kernel
theorem cdc_j : (("j" : Str) == ("__classdict__" : Str)) = false := by decide +kernel
theorem dbg_range : (("range" : Str) == ("__debug__" : Str)) = false := by decide +kernel
theorem cdc_range : (("range" : Str) == ("__classdict__" : Str)) = false := by decide +kernel
theorem dbg_are_bound : (("are_bound" : Str) == ("__debug__" : Str)) = false := by decide +kernel
theorem cdc_are_bound : (("are_bound" : Str) == ("__classdict__" : Str)) = false := by decide +kernel
theorem dbg_len : (("len" : Str) == ("__debug__" : Str)) = false := by decide +kernel
theorem cdc_len : (("len" : Str) == ("__classdict__" : Str)) = false := by decide +kernel
theorem dbg_law_due_here : (("_law_due_here" : Str) == ("__debug__" : Str)) = false := by decide +kernel
theorem cdc_law_due_here : (("_law_due_here" : Str) == ("__classdict__" : Str)) = false := by decide +kernel
theorem dbg_law_pair : (("_law_pair" : Str) == ("__debug__" : Str)) = false := by decide +kernel
theorem cdc_law_pair : (("_law_pair" : Str) == ("__classdict__" : Str)) = false := by decide +kernel
theorem dbg_law_place : (("_law_place" : Str) == ("__debug__" : Str)) = false := by decide +kernel
theorem cdc_law_place : (("_law_place" : Str) == ("__classdict__" : Str)) = false := by decide +kernel
theorem dbg_law_many : (("_law_many" : Str) == ("__debug__" : Str)) = false := by decide +kernel
theorem cdc_law_many : (("_law_many" : Str) == ("__classdict__" : Str)) = false := by decide +kernel
theorem dbg_law_handed : (("_law_handed" : Str) == ("__debug__" : Str)) = false := by decide +kernel
theorem cdc_law_handed : (("_law_handed" : Str) == ("__classdict__" : Str)) = false := by decide +kernel
theorem dbg_law_row_by : (("_law_row_by" : Str) == ("__debug__" : Str)) = false := by decide +kernel
theorem cdc_law_row_by : (("_law_row_by" : Str) == ("__classdict__" : Str)) = false := by decide +kernel
theorem dbg_law_cell_at : (("_law_cell_at" : Str) == ("__debug__" : Str)) = false := by decide +kernel
theorem cdc_law_cell_at : (("_law_cell_at" : Str) == ("__classdict__" : Str)) = false := by decide +kernel
theorem vis_law_cell_at_0 : Vis (defScope s_law_cell_at) "_law_script" := .inl (by decide +kernel)
theorem loc_law_cell_at_0 : Loc (defScope s_law_cell_at) "_law_script" := .inl (by decide +kernel)
theorem vis_law_cell_at_1 : Vis (defScope s_law_cell_at) "_law_k" := .inl (by decide +kernel)
theorem loc_law_cell_at_1 : Loc (defScope s_law_cell_at) "_law_k" := .inl (by decide +kernel)
theorem gl_law_cell_at_len : (defScope s_law_cell_at).names.lookup ("len" : Str) = some .globalImplicit := by decide +kernel
theorem vis_law_number_by_0 : Vis (defScope s_law_number_by) "_law_cell" := .inl (by decide +kernel)
theorem loc_law_number_by_0 : Loc (defScope s_law_number_by) "_law_cell" := .inl (by decide +kernel)
theorem vis_law_row_by_0 : Vis (defScope s_law_row_by) "_law_cell" := .inl (by decide +kernel)
theorem loc_law_row_by_0 : Loc (defScope s_law_row_by) "_law_cell" := .inl (by decide +kernel)
theorem vis_law_row_by_1 : Vis (defScope s_law_row_by) "_law_boxes" := .inl (by decide +kernel)
theorem loc_law_row_by_1 : Loc (defScope s_law_row_by) "_law_boxes" := .inl (by decide +kernel)
theorem vis_law_row_by_2 : Vis (defScope s_law_row_by) "_law_slots" := .inl (by decide +kernel)
theorem loc_law_row_by_2 : Loc (defScope s_law_row_by) "_law_slots" := .inl (by decide +kernel)
theorem vis_law_row_by_3 : Vis (defScope s_law_row_by) "_law_kind" := .inl (by decide +kernel)
theorem loc_law_row_by_3 : Loc (defScope s_law_row_by) "_law_kind" := .inl (by decide +kernel)
theorem vis_law_row_by_4 : Vis (defScope s_law_row_by) "_law_more" := .inl (by decide +kernel)
theorem loc_law_row_by_4 : Loc (defScope s_law_row_by) "_law_more" := .inl (by decide +kernel)
theorem vis_law_row_by_5 : Vis (defScope s_law_row_by) "_law_one" := .inl (by decide +kernel)
theorem loc_law_row_by_5 : Loc (defScope s_law_row_by) "_law_one" := .inl (by decide +kernel)
theorem vis_law_row_by_6 : Vis (defScope s_law_row_by) "_law_other" := .inl (by decide +kernel)
theorem loc_law_row_by_6 : Loc (defScope s_law_row_by) "_law_other" := .inl (by decide +kernel)
theorem vis_law_row_by_7 : Vis (defScope s_law_row_by) "_law_slot" := .inl (by decide +kernel)
theorem loc_law_row_by_7 : Loc (defScope s_law_row_by) "_law_slot" := .inl (by decide +kernel)
theorem vis_law_row_by_8 : Vis (defScope s_law_row_by) "_law_word" := .inl (by decide +kernel)
theorem loc_law_row_by_8 : Loc (defScope s_law_row_by) "_law_word" := .inl (by decide +kernel)
theorem vis_law_row_by_9 : Vis (defScope s_law_row_by) "_law_some" := .inl (by decide +kernel)
theorem loc_law_row_by_9 : Loc (defScope s_law_row_by) "_law_some" := .inl (by decide +kernel)
theorem gl_law_row_by_law_number_by : (defScope s_law_row_by).names.lookup ("_law_number_by" : Str) = some .globalImplicit := by decide +kernel
theorem vis_law_is_part_0 : Vis (defScope s_law_is_part) "_law_row" := .inl (by decide +kernel)
theorem loc_law_is_part_0 : Loc (defScope s_law_is_part) "_law_row" := .inl (by decide +kernel)
theorem vis_law_writes_0 : Vis (defScope s_law_writes) "_law_row" := .inl (by decide +kernel)
theorem loc_law_writes_0 : Loc (defScope s_law_writes) "_law_row" := .inl (by decide +kernel)
theorem vis_law_reads_0 : Vis (defScope s_law_reads) "_law_row" := .inl (by decide +kernel)
theorem loc_law_reads_0 : Loc (defScope s_law_reads) "_law_row" := .inl (by decide +kernel)
theorem vis_law_tied_0 : Vis (defScope s_law_tied) "_law_one" := .inl (by decide +kernel)
theorem loc_law_tied_0 : Loc (defScope s_law_tied) "_law_one" := .inl (by decide +kernel)
theorem vis_law_tied_1 : Vis (defScope s_law_tied) "_law_other" := .inl (by decide +kernel)
theorem loc_law_tied_1 : Loc (defScope s_law_tied) "_law_other" := .inl (by decide +kernel)
theorem vis_law_tied_2 : Vis (defScope s_law_tied) "_law_first" := .inl (by decide +kernel)
theorem loc_law_tied_2 : Loc (defScope s_law_tied) "_law_first" := .inl (by decide +kernel)
theorem vis_law_tied_3 : Vis (defScope s_law_tied) "_law_second" := .inl (by decide +kernel)
theorem loc_law_tied_3 : Loc (defScope s_law_tied) "_law_second" := .inl (by decide +kernel)
theorem gl_law_tied_law_is_part : (defScope s_law_tied).names.lookup ("_law_is_part" : Str) = some .globalImplicit := by decide +kernel
theorem gl_law_tied_law_writes : (defScope s_law_tied).names.lookup ("_law_writes" : Str) = some .globalImplicit := by decide +kernel
theorem gl_law_tied_law_reads : (defScope s_law_tied).names.lookup ("_law_reads" : Str) = some .globalImplicit := by decide +kernel
theorem vis_law_due_0 : Vis (defScope s_law_due) "_law_rows" := .inl (by decide +kernel)
theorem loc_law_due_0 : Loc (defScope s_law_due) "_law_rows" := .inl (by decide +kernel)
theorem vis_law_due_1 : Vis (defScope s_law_due) "_law_found" := .inl (by decide +kernel)
theorem loc_law_due_1 : Loc (defScope s_law_due) "_law_found" := .inl (by decide +kernel)
theorem vis_law_due_2 : Vis (defScope s_law_due) "_law_one" := .inl (by decide +kernel)
theorem loc_law_due_2 : Loc (defScope s_law_due) "_law_one" := .inl (by decide +kernel)
theorem vis_law_due_3 : Vis (defScope s_law_due) "_law_other" := .inl (by decide +kernel)
theorem loc_law_due_3 : Loc (defScope s_law_due) "_law_other" := .inl (by decide +kernel)
theorem gl_law_due_len : (defScope s_law_due).names.lookup ("len" : Str) = some .globalImplicit := by decide +kernel
theorem gl_law_due_range : (defScope s_law_due).names.lookup ("range" : Str) = some .globalImplicit := by decide +kernel
theorem gl_law_due_law_tied : (defScope s_law_due).names.lookup ("_law_tied" : Str) = some .globalImplicit := by decide +kernel
theorem vis_is_outward_0 : Vis (defScope s_is_outward) "row" := .inl (by decide +kernel)
theorem loc_is_outward_0 : Loc (defScope s_is_outward) "row" := .inl (by decide +kernel)
theorem vis_things_read_0 : Vis (defScope s_things_read) "row" := .inl (by decide +kernel)
theorem loc_things_read_0 : Loc (defScope s_things_read) "row" := .inl (by decide +kernel)
theorem vis_things_written_0 : Vis (defScope s_things_written) "row" := .inl (by decide +kernel)
theorem loc_things_written_0 : Loc (defScope s_things_written) "row" := .inl (by decide +kernel)
theorem vis_share_0 : Vis (defScope s_share) "some" := .inl (by decide +kernel)
theorem loc_share_0 : Loc (defScope s_share) "some" := .inl (by decide +kernel)
theorem vis_share_1 : Vis (defScope s_share) "others" := .inr (.inl (by decide +kernel))
theorem loc_share_1 : Loc (defScope s_share) "others" := .inr (by decide +kernel)
theorem gl_share_any : (defScope s_share).names.lookup ("any" : Str) = some .globalImplicit := by decide +kernel
theorem vis_are_bound_0 : Vis (defScope s_are_bound) "one" := .inl (by decide +kernel)
theorem loc_are_bound_0 : Loc (defScope s_are_bound) "one" := .inl (by decide +kernel)
theorem vis_are_bound_1 : Vis (defScope s_are_bound) "other" := .inl (by decide +kernel)
theorem loc_are_bound_1 : Loc (defScope s_are_bound) "other" := .inl (by decide +kernel)
theorem gl_are_bound_is_outward : (defScope s_are_bound).names.lookup ("is_outward" : Str) = some .globalImplicit := by decide +kernel
theorem gl_are_bound_things_read : (defScope s_are_bound).names.lookup ("things_read" : Str) = some .globalImplicit := by decide +kernel
theorem gl_are_bound_things_written : (defScope s_are_bound).names.lookup ("things_written" : Str) = some .globalImplicit := by decide +kernel
theorem gl_are_bound_share : (defScope s_are_bound).names.lookup ("share" : Str) = some .globalImplicit := by decide +kernel
theorem vis_bound_0 : Vis (defScope s_bound) "rows" := .inr (.inl (by decide +kernel))
theorem loc_bound_0 : Loc (defScope s_bound) "rows" := .inr (by decide +kernel)
theorem vis_bound_1 : Vis (defScope s_bound) "told" := .inl (by decide +kernel)
theorem loc_bound_1 : Loc (defScope s_bound) "told" := .inl (by decide +kernel)
theorem vis_bound_2 : Vis (defScope s_bound) "i" := .inr (.inl (by decide +kernel))
theorem loc_bound_2 : Loc (defScope s_bound) "i" := .inr (by decide +kernel)
theorem vis_bound_3 : Vis (defScope s_bound) "one" := .inr (.inl (by decide +kernel))
theorem loc_bound_3 : Loc (defScope s_bound) "one" := .inr (by decide +kernel)
theorem gl_bound_enumerate : (defScope s_bound).names.lookup ("enumerate" : Str) = some .globalImplicit := by decide +kernel
theorem gl_bound_len : (defScope s_bound).names.lookup ("len" : Str) = some .globalImplicit := by decide +kernel
theorem gl_bound_range : (defScope s_bound).names.lookup ("range" : Str) = some .globalImplicit := by decide +kernel
theorem vis_law_right_0 : Vis (defScope s_law_right) "_law_found" := .inl (by decide +kernel)
theorem loc_law_right_0 : Loc (defScope s_law_right) "_law_found" := .inl (by decide +kernel)
theorem vis_law_right_1 : Vis (defScope s_law_right) "_law_due_here" := .inl (by decide +kernel)
theorem loc_law_right_1 : Loc (defScope s_law_right) "_law_due_here" := .inl (by decide +kernel)
theorem vis_law_right_2 : Vis (defScope s_law_right) "_law_pair" := .inl (by decide +kernel)
theorem loc_law_right_2 : Loc (defScope s_law_right) "_law_pair" := .inl (by decide +kernel)
theorem vis_law_right_3 : Vis (defScope s_law_right) "_law_place" := .inl (by decide +kernel)
theorem loc_law_right_3 : Loc (defScope s_law_right) "_law_place" := .inl (by decide +kernel)
theorem gl_law_right_isinstance : (defScope s_law_right).names.lookup ("isinstance" : Str) = some .globalImplicit := by decide +kernel
theorem gl_law_right_list : (defScope s_law_right).names.lookup ("list" : Str) = some .globalImplicit := by decide +kernel
theorem gl_law_right_tuple : (defScope s_law_right).names.lookup ("tuple" : Str) = some .globalImplicit := by decide +kernel
theorem gl_law_right_int : (defScope s_law_right).names.lookup ("int" : Str) = some .globalImplicit := by decide +kernel
theorem gl_law_right_bool : (defScope s_law_right).names.lookup ("bool" : Str) = some .globalImplicit := by decide +kernel
theorem vis_law_0 : Vis (defScope s_law) "_law_script" := .inr (.inl (by decide +kernel))
theorem loc_law_0 : Loc (defScope s_law) "_law_script" := .inr (by decide +kernel)
theorem vis_law_1 : Vis (defScope s_law) "_law_many" := .inl (by decide +kernel)
theorem loc_law_1 : Loc (defScope s_law) "_law_many" := .inl (by decide +kernel)
theorem vis_law_2 : Vis (defScope s_law) "_law_boxes" := .inr (.inl (by decide +kernel))
theorem loc_law_2 : Loc (defScope s_law) "_law_boxes" := .inr (by decide +kernel)
theorem vis_law_3 : Vis (defScope s_law) "_law_slots" := .inr (.inl (by decide +kernel))
theorem loc_law_3 : Loc (defScope s_law) "_law_slots" := .inr (by decide +kernel)
theorem vis_law_4 : Vis (defScope s_law) "_law_rows" := .inl (by decide +kernel)
theorem loc_law_4 : Loc (defScope s_law) "_law_rows" := .inl (by decide +kernel)
theorem vis_law_5 : Vis (defScope s_law) "_law_handed" := .inl (by decide +kernel)
theorem loc_law_5 : Loc (defScope s_law) "_law_handed" := .inl (by decide +kernel)
theorem vis_law_6 : Vis (defScope s_law) "_law_due_here" := .inl (by decide +kernel)
theorem loc_law_6 : Loc (defScope s_law) "_law_due_here" := .inl (by decide +kernel)
theorem vis_law_7 : Vis (defScope s_law) "_law_first" := .inl (by decide +kernel)
theorem loc_law_7 : Loc (defScope s_law) "_law_first" := .inl (by decide +kernel)
theorem gl_law_law_cell_at : (defScope s_law).names.lookup ("_law_cell_at" : Str) = some .globalImplicit := by decide +kernel
theorem gl_law_range : (defScope s_law).names.lookup ("range" : Str) = some .globalImplicit := by decide +kernel
theorem gl_law_list : (defScope s_law).names.lookup ("list" : Str) = some .globalImplicit := by decide +kernel
theorem gl_law_law_due : (defScope s_law).names.lookup ("_law_due" : Str) = some .globalImplicit := by decide +kernel
theorem gl_law_bound : (defScope s_law).names.lookup ("bound" : Str) = some .globalImplicit := by decide +kernel
theorem gl_law_law_right : (defScope s_law).names.lookup ("_law_right" : Str) = some .globalImplicit := by decide +kernel
section
variable {P : Program} {w : World} {K : PySem.W.Frag} {mg : Str → Option Value} {base : Heap}
theorem sc_law_cell_at : FnScope ["_law_script", "_law_k"] ["_law_script", "_law_k"] (defScope s_law_cell_at) := ⟨rfl, rfl, rfl, by decide +kernel, rfl, by decide +kernel, by decide +kernel⟩
theorem body_law_cell_at {X : Cx} (T : Tx X.K X.mg) (B : Bd X ["_law_script", "_law_k"] (defScope s_law_cell_at) 0) (hF : TopF X) (hsc : X.env.scope = defScope s_law_cell_at) : JB X (defBody s_law_cell_at) b_law_cell_at := (jb_cons (js_if (jt_cmp cp_lt (B.jvar 1 rfl vis_law_cell_at_1 dbg_law_k cdc_law_k) (je_blt rfl (by decide +kernel) (by decide +kernel) call_lenW lenW_i (B.gl _ gl_law_cell_at_len) T.n_len PySem.boot_len (ja_c rfl (B.jvar 0 rfl vis_law_cell_at_0 dbg_law_script cdc_law_script) ja_nil))) (jb_one (js_ret (je_ix (by intro _ _; rfl) (B.jvar 0 rfl vis_law_cell_at_0 dbg_law_script cdc_law_script) (B.jvar 1 rfl vis_law_cell_at_1 dbg_law_k cdc_law_k)))) jb_nil) (jb_one (js_ret je_int)))
theorem ok_law_cell_at (T : Tx K mg) : FnOk P w K mg base (CXW P w) 1 T.a_law_cell_at T.d_law_cell_at ["_law_script", "_law_k"] (spM K mg 2 (fM b_law_cell_at 2 2)) := fun_ilT rfl rfl T.F_law_cell_at sc_law_cell_at fun {X} h1 h2 h3 h4 h5 B hF hsc => by subst h3 h4; exact body_law_cell_at T B hF hsc
theorem sc_law_number_by : FnScope ["_law_cell"] ["_law_cell"] (defScope s_law_number_by) := ⟨rfl, rfl, rfl, by decide +kernel, rfl, by decide +kernel, by decide +kernel⟩
theorem body_law_number_by {X : Cx} (T : Tx X.K X.mg) (B : Bd X ["_law_cell"] (defScope s_law_number_by) 0) (hF : TopF X) (hsc : X.env.scope = defScope s_law_number_by) : JB X (defBody s_law_number_by) b_law_number_by := (jb_cons (js_if (jt_cmp B.eq (je_mod (B.jvar 0 rfl vis_law_number_by_0 dbg_law_cell cdc_law_cell) je_int) je_int) (jb_one (js_ret (je_ix (by intro _ _; rfl) (je_lst (ja_c rfl je_int (ja_c rfl (je_neg je_int) (ja_c rfl je_int (ja_c rfl (je_neg je_int) (ja_c rfl je_int (ja_c rfl (je_neg je_int) (ja_c rfl je_int (ja_c rfl je_int ja_nil))))))))) (je_mod (je_div (B.jvar 0 rfl vis_law_number_by_0 dbg_law_cell cdc_law_cell) je_int) je_int)))) jb_nil) (jb_cons (js_if (jt_cmp B.eq (je_mod (B.jvar 0 rfl vis_law_number_by_0 dbg_law_cell cdc_law_cell) je_int) je_int) (jb_one (js_ret (je_sub (je_mod (je_mul (je_div (B.jvar 0 rfl vis_law_number_by_0 dbg_law_cell cdc_law_cell) je_int) je_int) je_int) je_int))) jb_nil) (jb_cons (js_if (jt_cmp B.eq (je_mod (B.jvar 0 rfl vis_law_number_by_0 dbg_law_cell cdc_law_cell) je_int) je_int) (jb_one (js_ret (je_sub (je_mod (je_div (B.jvar 0 rfl vis_law_number_by_0 dbg_law_cell cdc_law_cell) je_int) je_int) je_int))) jb_nil) (jb_one (js_ret (je_sub (je_mod (je_div (B.jvar 0 rfl vis_law_number_by_0 dbg_law_cell cdc_law_cell) je_int) je_int) je_int))))))
theorem ok_law_number_by (T : Tx K mg) : FnOk P w K mg base (CXW P w) 1 T.a_law_number_by T.d_law_number_by ["_law_cell"] (spM K mg 1 (fM b_law_number_by 1 1)) := fun_ilT rfl rfl T.F_law_number_by sc_law_number_by fun {X} h1 h2 h3 h4 h5 B hF hsc => by subst h3 h4; exact body_law_number_by T B hF hsc
theorem sc_law_row_by : FnScope ["_law_cell", "_law_boxes", "_law_slots", "_law_kind", "_law_more", "_law_one", "_law_other", "_law_slot", "_law_word", "_law_some"] ["_law_cell", "_law_boxes", "_law_slots"] (defScope s_law_row_by) := ⟨rfl, rfl, rfl, by decide +kernel, rfl, by decide +kernel, by decide +kernel⟩
theorem body_law_row_by {X : Cx} (T : Tx X.K X.mg) (B : Bd X ["_law_cell", "_law_boxes", "_law_slots", "_law_kind", "_law_more", "_law_one", "_law_other", "_law_slot", "_law_word", "_law_some"] (defScope s_law_row_by) 1) (hF : TopF X) (hsc : X.env.scope = defScope s_law_row_by) : JB X (defBody s_law_row_by) b_law_row_by := (jb_cons (B.jset 3 rfl loc_law_row_by_3 rfl (je_mod (B.jvar 0 rfl vis_law_row_by_0 dbg_law_cell cdc_law_cell) je_int)) (jb_cons (B.jset 4 rfl loc_law_row_by_4 rfl (je_mod (je_mul (je_div (B.jvar 0 rfl vis_law_row_by_0 dbg_law_cell cdc_law_cell) je_int) je_int) je_int)) (jb_cons (B.jset 5 rfl loc_law_row_by_5 rfl (je_mod (B.jvar 4 rfl vis_law_row_by_4 dbg_law_more cdc_law_more) (B.jvar 1 rfl vis_law_row_by_1 dbg_law_boxes cdc_law_boxes))) (jb_cons (B.jset 6 rfl loc_law_row_by_6 rfl (je_mod (je_div (B.jvar 4 rfl vis_law_row_by_4 dbg_law_more cdc_law_more) je_int) (B.jvar 1 rfl vis_law_row_by_1 dbg_law_boxes cdc_law_boxes))) (jb_cons (B.jset 7 rfl loc_law_row_by_7 rfl (je_mod (je_div (B.jvar 4 rfl vis_law_row_by_4 dbg_law_more cdc_law_more) je_int) (B.jvar 2 rfl vis_law_row_by_2 dbg_law_slots cdc_law_slots))) (jb_cons (js_if (jt_cmp cp_lt (B.jvar 3 rfl vis_law_row_by_3 dbg_law_kind cdc_law_kind) je_int) (jb_cons (B.jset 8 rfl loc_law_row_by_8 rfl (je_ix (by intro _ _; rfl) (je_lst (ja_c rfl je_str (ja_c rfl je_str (ja_c rfl je_str (ja_c rfl je_str (ja_c rfl je_str (ja_c rfl je_str ja_nil))))))) (je_mod (je_div (B.jvar 4 rfl vis_law_row_by_4 dbg_law_more cdc_law_more) je_int) je_int))) (jb_one (js_ret (je_tup (ja_c rfl je_str (ja_c rfl (B.jvar 5 rfl vis_law_row_by_5 dbg_law_one cdc_law_one) (ja_c rfl (B.jvar 8 rfl vis_law_row_by_8 dbg_law_word cdc_law_word) (ja_c rfl (B.jvar 6 rfl vis_law_row_by_6 dbg_law_other cdc_law_other) (ja_c rfl (je_mod (je_div (B.jvar 4 rfl vis_law_row_by_4 dbg_law_more cdc_law_more) je_int) (B.jvar 1 rfl vis_law_row_by_1 dbg_law_boxes cdc_law_boxes)) ja_nil))))))))) jb_nil) (jb_cons (B.jset 9 rfl loc_law_row_by_9 rfl (je_lst (ja_c rfl (je_tup (ja_c rfl je_str (ja_c rfl (B.jvar 5 rfl vis_law_row_by_5 dbg_law_one cdc_law_one) (ja_c rfl (je_cal rfl (by decide +kernel) (ok_law_number_by T) fM_len (B.room.mono (by decide)) (B.gl _ gl_law_row_by_law_number_by) T.m_law_number_by T.F_law_number_by.kp T.b_law_number_by (ja_c rfl (je_div (B.jvar 4 rfl vis_law_row_by_4 dbg_law_more cdc_law_more) je_int) ja_nil)) ja_nil)))) (ja_c rfl (je_tup (ja_c rfl je_str (ja_c rfl (B.jvar 5 rfl vis_law_row_by_5 dbg_law_one cdc_law_one) (ja_c rfl (B.jvar 6 rfl vis_law_row_by_6 dbg_law_other cdc_law_other) ja_nil)))) (ja_c rfl (je_tup (ja_c rfl je_str (ja_c rfl (B.jvar 5 rfl vis_law_row_by_5 dbg_law_one cdc_law_one) (ja_c rfl (B.jvar 7 rfl vis_law_row_by_7 dbg_law_slot cdc_law_slot) ja_nil)))) (ja_c rfl (je_tup (ja_c rfl je_str (ja_c rfl (B.jvar 7 rfl vis_law_row_by_7 dbg_law_slot cdc_law_slot) (ja_c rfl (B.jvar 5 rfl vis_law_row_by_5 dbg_law_one cdc_law_one) ja_nil)))) ja_nil)))))) (jb_cons (B.jset 9 rfl loc_law_row_by_9 rfl (je_add (B.jvar 9 rfl vis_law_row_by_9 dbg_law_some cdc_law_some) (je_lst (ja_c rfl (je_tup (ja_c rfl je_str (ja_c rfl (B.jvar 5 rfl vis_law_row_by_5 dbg_law_one cdc_law_one) ja_nil))) (ja_c rfl (je_tup (ja_c rfl je_str (ja_c rfl (B.jvar 5 rfl vis_law_row_by_5 dbg_law_one cdc_law_one) ja_nil))) (ja_c rfl (je_tup (ja_c rfl je_str ja_nil)) ja_nil)))))) (jb_one (js_ret (je_ix (by intro _ _; rfl) (B.jvar 9 rfl vis_law_row_by_9 dbg_law_some cdc_law_some) (je_sub (B.jvar 3 rfl vis_law_row_by_3 dbg_law_kind cdc_law_kind) je_int))))))))))))
theorem ok_law_row_by (T : Tx K mg) : FnOk P w K mg base (CXW P w) 2 T.a_law_row_by T.d_law_row_by ["_law_cell", "_law_boxes", "_law_slots"] (spM K mg 3 (fM b_law_row_by 10 3)) := fun_ilT rfl rfl T.F_law_row_by sc_law_row_by fun {X} h1 h2 h3 h4 h5 B hF hsc => by subst h3 h4; exact body_law_row_by T B hF hsc
theorem sc_law_is_part : FnScope ["_law_row"] ["_law_row"] (defScope s_law_is_part) := ⟨rfl, rfl, rfl, by decide +kernel, rfl, by decide +kernel, by decide +kernel⟩
theorem body_law_is_part {X : Cx} (T : Tx X.K X.mg) (B : Bd X ["_law_row"] (defScope s_law_is_part) 0) (hF : TopF X) (hsc : X.env.scope = defScope s_law_is_part) : JB X (defBody s_law_is_part) b_law_is_part := (jb_one (js_ret (je_and (je_cmp B.eq (je_ix (by intro _ _; rfl) (B.jvar 0 rfl vis_law_is_part_0 dbg_law_row cdc_law_row) je_int) je_str) (je_one (je_cmp B.eq (je_ix (by intro _ _; rfl) (B.jvar 0 rfl vis_law_is_part_0 dbg_law_row cdc_law_row) je_int) je_str)))))
theorem ok_law_is_part (T : Tx K mg) : FnOk P w K mg base (CXW P w) 1 T.a_law_is_part T.d_law_is_part ["_law_row"] (spM K mg 1 (fM b_law_is_part 1 1)) := fun_ilT rfl rfl T.F_law_is_part sc_law_is_part fun {X} h1 h2 h3 h4 h5 B hF hsc => by subst h3 h4; exact body_law_is_part T B hF hsc
theorem sc_law_writes : FnScope ["_law_row"] ["_law_row"] (defScope s_law_writes) := ⟨rfl, rfl, rfl, by decide +kernel, rfl, by decide +kernel, by decide +kernel⟩
theorem body_law_writes {X : Cx} (T : Tx X.K X.mg) (B : Bd X ["_law_row"] (defScope s_law_writes) 0) (hF : TopF X) (hsc : X.env.scope = defScope s_law_writes) : JB X (defBody s_law_writes) b_law_writes := (jb_cons (js_if (jt_w (jw_or (jt_cmp B.eq (je_ix (by intro _ _; rfl) (B.jvar 0 rfl vis_law_writes_0 dbg_law_row cdc_law_row) je_int) je_str) (jw_one (jt_cmp B.eq (je_ix (by intro _ _; rfl) (B.jvar 0 rfl vis_law_writes_0 dbg_law_row cdc_law_row) je_int) je_str)))) (jb_one (js_ret je_non)) jb_nil) (jb_one (js_ret (je_tup (ja_c rfl (je_cmp B.eq (je_ix (by intro _ _; rfl) (B.jvar 0 rfl vis_law_writes_0 dbg_law_row cdc_law_row) je_int) je_str) (ja_c rfl (je_ix (by intro _ _; rfl) (B.jvar 0 rfl vis_law_writes_0 dbg_law_row cdc_law_row) je_int) ja_nil))))))
theorem ok_law_writes (T : Tx K mg) : FnOk P w K mg base (CXW P w) 1 T.a_law_writes T.d_law_writes ["_law_row"] (spM K mg 1 (fM b_law_writes 1 1)) := fun_ilT rfl rfl T.F_law_writes sc_law_writes fun {X} h1 h2 h3 h4 h5 B hF hsc => by subst h3 h4; exact body_law_writes T B hF hsc
theorem sc_law_reads : FnScope ["_law_row"] ["_law_row"] (defScope s_law_reads) := ⟨rfl, rfl, rfl, by decide +kernel, rfl, by decide +kernel, by decide +kernel⟩
theorem body_law_reads {X : Cx} (T : Tx X.K X.mg) (B : Bd X ["_law_row"] (defScope s_law_reads) 0) (hF : TopF X) (hsc : X.env.scope = defScope s_law_reads) : JB X (defBody s_law_reads) b_law_reads := (jb_cons (js_if (jt_cmp B.eq (je_ix (by intro _ _; rfl) (B.jvar 0 rfl vis_law_reads_0 dbg_law_row cdc_law_row) je_int) je_str) (jb_one (js_ret (je_lst (ja_c rfl (je_tup (ja_c rfl je_bl (ja_c rfl (je_ix (by intro _ _; rfl) (B.jvar 0 rfl vis_law_reads_0 dbg_law_row cdc_law_row) je_int) ja_nil))) (ja_c rfl (je_tup (ja_c rfl je_bl (ja_c rfl (je_ix (by intro _ _; rfl) (B.jvar 0 rfl vis_law_reads_0 dbg_law_row cdc_law_row) je_int) ja_nil))) ja_nil))))) jb_nil) (jb_cons (js_if (jt_w (jw_or (jt_cmp B.eq (je_ix (by intro _ _; rfl) (B.jvar 0 rfl vis_law_reads_0 dbg_law_row cdc_law_row) je_int) je_str) (jw_or (jt_cmp B.eq (je_ix (by intro _ _; rfl) (B.jvar 0 rfl vis_law_reads_0 dbg_law_row cdc_law_row) je_int) je_str) (jw_one (jt_cmp B.eq (je_ix (by intro _ _; rfl) (B.jvar 0 rfl vis_law_reads_0 dbg_law_row cdc_law_row) je_int) je_str))))) (jb_one (js_ret (je_lst (ja_c rfl (je_tup (ja_c rfl (je_cmp B.eq (je_ix (by intro _ _; rfl) (B.jvar 0 rfl vis_law_reads_0 dbg_law_row cdc_law_row) je_int) je_str) (ja_c rfl (je_ix (by intro _ _; rfl) (B.jvar 0 rfl vis_law_reads_0 dbg_law_row cdc_law_row) je_int) ja_nil))) ja_nil)))) jb_nil) (jb_cons (js_if (jt_cmp B.eq (je_ix (by intro _ _; rfl) (B.jvar 0 rfl vis_law_reads_0 dbg_law_row cdc_law_row) je_int) je_str) (jb_one (js_ret (je_lst (ja_c rfl (je_tup (ja_c rfl je_bl (ja_c rfl (je_ix (by intro _ _; rfl) (B.jvar 0 rfl vis_law_reads_0 dbg_law_row cdc_law_row) je_int) ja_nil))) ja_nil)))) jb_nil) (jb_one (js_ret (je_lst ja_nil))))))
theorem ok_law_reads (T : Tx K mg) : FnOk P w K mg base (CXW P w) 1 T.a_law_reads T.d_law_reads ["_law_row"] (spM K mg 1 (fM b_law_reads 1 1)) := fun_ilT rfl rfl T.F_law_reads sc_law_reads fun {X} h1 h2 h3 h4 h5 B hF hsc => by subst h3 h4; exact body_law_reads T B hF hsc
theorem sc_law_tied : FnScope ["_law_one", "_law_other", "_law_first", "_law_second"] ["_law_one", "_law_other"] (defScope s_law_tied) := ⟨rfl, rfl, rfl, by decide +kernel, rfl, by decide +kernel, by decide +kernel⟩
theorem body_law_tied {X : Cx} (T : Tx X.K X.mg) (B : Bd X ["_law_one", "_law_other", "_law_first", "_law_second"] (defScope s_law_tied) 1) (hF : TopF X) (hsc : X.env.scope = defScope s_law_tied) : JB X (defBody s_law_tied) b_law_tied := (jb_cons (js_if (jt_w (jw_or (jt_cmp (B.in_ (by with_unfolding_all rfl)) (je_ix (by intro _ _; rfl) (B.jvar 0 rfl vis_law_tied_0 dbg_law_one cdc_law_one) je_int) (je_tup (ja_c rfl je_str (ja_c rfl je_str (ja_c rfl je_str ja_nil))))) (jw_one (jt_tru rfl (je_cal rfl (by decide +kernel) (ok_law_is_part T) fM_len (B.room.mono (by decide)) (B.gl _ gl_law_tied_law_is_part) T.m_law_is_part T.F_law_is_part.kp T.b_law_is_part (ja_c rfl (B.jvar 0 rfl vis_law_tied_0 dbg_law_one cdc_law_one) ja_nil)))))) (jb_one (js_if (jt_w (jw_or (jt_cmp (B.in_ (by with_unfolding_all rfl)) (je_ix (by intro _ _; rfl) (B.jvar 1 rfl vis_law_tied_1 dbg_law_other cdc_law_other) je_int) (je_tup (ja_c rfl je_str (ja_c rfl je_str (ja_c rfl je_str ja_nil))))) (jw_one (jt_tru rfl (je_cal rfl (by decide +kernel) (ok_law_is_part T) fM_len (B.room.mono (by decide)) (B.gl _ gl_law_tied_law_is_part) T.m_law_is_part T.F_law_is_part.kp T.b_law_is_part (ja_c rfl (B.jvar 1 rfl vis_law_tied_1 dbg_law_other cdc_law_other) ja_nil)))))) (jb_one (js_ret je_bl)) jb_nil)) jb_nil) (jb_cons (B.jset 2 rfl loc_law_tied_2 rfl (je_cal rfl (by decide +kernel) (ok_law_writes T) fM_len (B.room.mono (by decide)) (B.gl _ gl_law_tied_law_writes) T.m_law_writes T.F_law_writes.kp T.b_law_writes (ja_c rfl (B.jvar 0 rfl vis_law_tied_0 dbg_law_one cdc_law_one) ja_nil))) (jb_cons (B.jset 3 rfl loc_law_tied_3 rfl (je_cal rfl (by decide +kernel) (ok_law_writes T) fM_len (B.room.mono (by decide)) (B.gl _ gl_law_tied_law_writes) T.m_law_writes T.F_law_writes.kp T.b_law_writes (ja_c rfl (B.jvar 1 rfl vis_law_tied_1 dbg_law_other cdc_law_other) ja_nil))) (jb_cons (js_if (jt_w (jw_and (jt_cmp cp_isn (B.jvar 2 rfl vis_law_tied_2 dbg_law_first cdc_law_first) je_non) (jw_one (jt_w (jw_or (jt_cmp B.eq (B.jvar 2 rfl vis_law_tied_2 dbg_law_first cdc_law_first) (B.jvar 3 rfl vis_law_tied_3 dbg_law_second cdc_law_second)) (jw_one (jt_cmp (B.in_ (by with_unfolding_all rfl)) (B.jvar 2 rfl vis_law_tied_2 dbg_law_first cdc_law_first) (je_cal rfl (by decide +kernel) (ok_law_reads T) fM_len (B.room.mono (by decide)) (B.gl _ gl_law_tied_law_reads) T.m_law_reads T.F_law_reads.kp T.b_law_reads (ja_c rfl (B.jvar 1 rfl vis_law_tied_1 dbg_law_other cdc_law_other) ja_nil))))))))) (jb_one (js_ret je_bl)) jb_nil) (jb_one (js_ret (je_and (je_cmp cp_isn (B.jvar 3 rfl vis_law_tied_3 dbg_law_second cdc_law_second) je_non) (je_one (je_cmp (B.in_ (by with_unfolding_all rfl)) (B.jvar 3 rfl vis_law_tied_3 dbg_law_second cdc_law_second) (je_cal rfl (by decide +kernel) (ok_law_reads T) fM_len (B.room.mono (by decide)) (B.gl _ gl_law_tied_law_reads) T.m_law_reads T.F_law_reads.kp T.b_law_reads (ja_c rfl (B.jvar 0 rfl vis_law_tied_0 dbg_law_one cdc_law_one) ja_nil)))))))))))
theorem ok_law_tied (T : Tx K mg) : FnOk P w K mg base (CXW P w) 2 T.a_law_tied T.d_law_tied ["_law_one", "_law_other"] (spM K mg 2 (fM b_law_tied 4 2)) := fun_ilT rfl rfl T.F_law_tied sc_law_tied fun {X} h1 h2 h3 h4 h5 B hF hsc => by subst h3 h4; exact body_law_tied T B hF hsc
theorem sc_law_due : FnScope ["_law_rows", "_law_found", "_law_one", "_law_other"] ["_law_rows"] (defScope s_law_due) := ⟨rfl, rfl, rfl, by decide +kernel, rfl, by decide +kernel, by decide +kernel⟩
theorem body_law_due {X : Cx} (T : Tx X.K X.mg) (B : Bd X ["_law_rows", "_law_found", "_law_one", "_law_other"] (defScope s_law_due) 2) (hF : TopF X) (hsc : X.env.scope = defScope s_law_due) : JB X (defBody s_law_due) b_law_due := (jb_cons (B.jset 1 rfl loc_law_due_1 rfl (je_lst ja_nil)) (jb_cons (B.jfor (ji_range1 (B.gl _ gl_law_due_range) T.n_range rfl (ja_c rfl (je_blt rfl (by decide +kernel) (by decide +kernel) call_lenW lenW_i (B.gl _ gl_law_due_len) T.n_len PySem.boot_len (ja_c rfl (B.jvar 0 rfl vis_law_due_0 dbg_law_rows cdc_law_rows) ja_nil)) ja_nil)) (B.jname 2 rfl loc_law_due_2) (jb_one (B.jfor (ji_range2 (B.gl _ gl_law_due_range) T.n_range rfl rfl (ja_c rfl (je_add (B.jvar 2 rfl vis_law_due_2 dbg_law_one cdc_law_one) je_int) (ja_c rfl (je_blt rfl (by decide +kernel) (by decide +kernel) call_lenW lenW_i (B.gl _ gl_law_due_len) T.n_len PySem.boot_len (ja_c rfl (B.jvar 0 rfl vis_law_due_0 dbg_law_rows cdc_law_rows) ja_nil)) ja_nil))) (B.jname 3 rfl loc_law_due_3) (jb_one (js_if (jt_tru rfl (je_cal rfl (by decide +kernel) (ok_law_tied T) fM_len (B.room.mono (by decide)) (B.gl _ gl_law_due_law_tied) T.m_law_tied T.F_law_tied.kp T.b_law_tied (ja_c rfl (je_ix (by intro _ _; rfl) (B.jvar 0 rfl vis_law_due_0 dbg_law_rows cdc_law_rows) (B.jvar 2 rfl vis_law_due_2 dbg_law_one cdc_law_one)) (ja_c rfl (je_ix (by intro _ _; rfl) (B.jvar 0 rfl vis_law_due_0 dbg_law_rows cdc_law_rows) (B.jvar 3 rfl vis_law_due_3 dbg_law_other cdc_law_other)) ja_nil)))) (jb_one (js_expr rfl (je_mth rfl rfl PySem.F.plainAttrs_list PySem.F.slot_list_append PySem.F.type_list_append mt_append isL_i appendW_i (B.jvar 1 rfl vis_law_due_1 dbg_law_found cdc_law_found) (ja_c rfl (je_tup (ja_c rfl (B.jvar 2 rfl vis_law_due_2 dbg_law_one cdc_law_one) (ja_c rfl (B.jvar 3 rfl vis_law_due_3 dbg_law_other cdc_law_other) ja_nil))) ja_nil)))) jb_nil))))) (jb_one (js_ret (B.jvar 1 rfl vis_law_due_1 dbg_law_found cdc_law_found)))))
theorem ok_law_due (T : Tx K mg) : FnOk P w K mg base (CXW P w) 3 T.a_law_due T.d_law_due ["_law_rows"] (spM K mg 1 (fM b_law_due 4 1)) := fun_ilT rfl rfl T.F_law_due sc_law_due fun {X} h1 h2 h3 h4 h5 B hF hsc => by subst h3 h4; exact body_law_due T B hF hsc
theorem sc_is_outward : FnScope ["row"] ["row"] (defScope s_is_outward) := ⟨rfl, rfl, rfl, by decide +kernel, rfl, by decide +kernel, by decide +kernel⟩
theorem body_is_outward {X : Cx} (T : Tx X.K X.mg) (B : Bd X ["row"] (defScope s_is_outward) 0) (hF : TopF X) (hsc : X.env.scope = defScope s_is_outward) : JB X (defBody s_is_outward) b_is_outward := (jb_one (js_ret (je_or (je_cmp (B.in_ (by with_unfolding_all rfl)) (je_ix (by intro _ _; rfl) (B.jvar 0 rfl vis_is_outward_0 dbg_row cdc_row) je_int) (je_tup (ja_c rfl je_str (ja_c rfl je_str (ja_c rfl je_str ja_nil))))) (je_one (je_and (je_cmp B.eq (je_ix (by intro _ _; rfl) (B.jvar 0 rfl vis_is_outward_0 dbg_row cdc_row) je_int) je_str) (je_one (je_cmp B.eq (je_ix (by intro _ _; rfl) (B.jvar 0 rfl vis_is_outward_0 dbg_row cdc_row) je_int) je_str)))))))
theorem ok_is_outward (T : Tx K mg) : FnOk P w K mg base (CXW P w) 1 T.a_is_outward T.d_is_outward ["row"] (spM K mg 1 (fM b_is_outward 1 1)) := fun_ilT rfl rfl T.F_is_outward sc_is_outward fun {X} h1 h2 h3 h4 h5 B hF hsc => by subst h3 h4; exact body_is_outward T B hF hsc
theorem sc_things_read : FnScope ["row"] ["row"] (defScope s_things_read) := ⟨rfl, rfl, rfl, by decide +kernel, rfl, by decide +kernel, by decide +kernel⟩
theorem body_things_read {X : Cx} (T : Tx X.K X.mg) (B : Bd X ["row"] (defScope s_things_read) 0) (hF : TopF X) (hsc : X.env.scope = defScope s_things_read) : JB X (defBody s_things_read) b_things_read := (jb_cons (js_if (jt_cmp B.eq (je_ix (by intro _ _; rfl) (B.jvar 0 rfl vis_things_read_0 dbg_row cdc_row) je_int) je_str) (jb_one (js_ret (je_lst (ja_c rfl (je_tup (ja_c rfl je_str (ja_c rfl (je_ix (by intro _ _; rfl) (B.jvar 0 rfl vis_things_read_0 dbg_row cdc_row) je_int) ja_nil))) (ja_c rfl (je_tup (ja_c rfl je_str (ja_c rfl (je_ix (by intro _ _; rfl) (B.jvar 0 rfl vis_things_read_0 dbg_row cdc_row) je_int) ja_nil))) ja_nil))))) jb_nil) (jb_cons (js_if (jt_cmp B.eq (je_ix (by intro _ _; rfl) (B.jvar 0 rfl vis_things_read_0 dbg_row cdc_row) je_int) je_str) (jb_one (js_ret (je_lst (ja_c rfl (je_tup (ja_c rfl je_str (ja_c rfl (je_ix (by intro _ _; rfl) (B.jvar 0 rfl vis_things_read_0 dbg_row cdc_row) je_int) ja_nil))) ja_nil)))) jb_nil) (jb_cons (js_if (jt_cmp (B.in_ (by with_unfolding_all rfl)) (je_ix (by intro _ _; rfl) (B.jvar 0 rfl vis_things_read_0 dbg_row cdc_row) je_int) (je_tup (ja_c rfl je_str (ja_c rfl je_str ja_nil)))) (jb_one (js_ret (je_lst (ja_c rfl (je_tup (ja_c rfl je_str (ja_c rfl (je_ix (by intro _ _; rfl) (B.jvar 0 rfl vis_things_read_0 dbg_row cdc_row) je_int) ja_nil))) ja_nil)))) jb_nil) (jb_cons (js_if (jt_cmp B.eq (je_ix (by intro _ _; rfl) (B.jvar 0 rfl vis_things_read_0 dbg_row cdc_row) je_int) je_str) (jb_one (js_ret (je_lst (ja_c rfl (je_tup (ja_c rfl je_str (ja_c rfl (je_ix (by intro _ _; rfl) (B.jvar 0 rfl vis_things_read_0 dbg_row cdc_row) je_int) ja_nil))) ja_nil)))) jb_nil) (jb_one (js_ret (je_lst ja_nil)))))))
theorem ok_things_read (T : Tx K mg) : FnOk P w K mg base (CXW P w) 1 T.a_things_read T.d_things_read ["row"] (spM K mg 1 (fM b_things_read 1 1)) := fun_ilT rfl rfl T.F_things_read sc_things_read fun {X} h1 h2 h3 h4 h5 B hF hsc => by subst h3 h4; exact body_things_read T B hF hsc
theorem sc_things_written : FnScope ["row"] ["row"] (defScope s_things_written) := ⟨rfl, rfl, rfl, by decide +kernel, rfl, by decide +kernel, by decide +kernel⟩
theorem body_things_written {X : Cx} (T : Tx X.K X.mg) (B : Bd X ["row"] (defScope s_things_written) 0) (hF : TopF X) (hsc : X.env.scope = defScope s_things_written) : JB X (defBody s_things_written) b_things_written := (jb_cons (js_if (jt_cmp (B.in_ (by with_unfolding_all rfl)) (je_ix (by intro _ _; rfl) (B.jvar 0 rfl vis_things_written_0 dbg_row cdc_row) je_int) (je_tup (ja_c rfl je_str (ja_c rfl je_str ja_nil)))) (jb_one (js_ret (je_lst ja_nil))) jb_nil) (jb_cons (js_if (jt_cmp B.eq (je_ix (by intro _ _; rfl) (B.jvar 0 rfl vis_things_written_0 dbg_row cdc_row) je_int) je_str) (jb_one (js_ret (je_lst (ja_c rfl (je_tup (ja_c rfl je_str (ja_c rfl (je_ix (by intro _ _; rfl) (B.jvar 0 rfl vis_things_written_0 dbg_row cdc_row) je_int) ja_nil))) ja_nil)))) jb_nil) (jb_one (js_ret (je_lst (ja_c rfl (je_tup (ja_c rfl je_str (ja_c rfl (je_ix (by intro _ _; rfl) (B.jvar 0 rfl vis_things_written_0 dbg_row cdc_row) je_int) ja_nil))) ja_nil))))))
theorem ok_things_written (T : Tx K mg) : FnOk P w K mg base (CXW P w) 1 T.a_things_written T.d_things_written ["row"] (spM K mg 1 (fM b_things_written 1 1)) := fun_ilT rfl rfl T.F_things_written sc_things_written fun {X} h1 h2 h3 h4 h5 B hF hsc => by subst h3 h4; exact body_things_written T B hF hsc
theorem sc_share : FnScope ["some", "others"] ["some", "others"] (defScope s_share) := ⟨rfl, rfl, rfl, by decide +kernel, rfl, by decide +kernel, by decide +kernel⟩
theorem body_share {X : Cx} (T : Tx X.K X.mg) (B : Bd X ["some", "others"] (defScope s_share) 0) (hF : TopF X) (hsc : X.env.scope = defScope s_share) : JB X (defBody s_share) b_share := (jb_one (js_ret (je_blt rfl (by decide +kernel) (by decide +kernel) (call_any_l B.calm) anyW_i (B.gl _ gl_share_any) T.n_any PyProof.Rows.boot_any (ja_c rfl (je_comp B.calm (N' := ["thing", "others"]) (Bd.cap B.hN hsc (by decide +kernel)) (ji_both (B.jvar 0 rfl vis_share_0 dbg_some cdc_some)) (blkG B T (by decide +kernel) (by decide +kernel) fun {X} B T => (B.jname 0 rfl (.inl rfl))) (blkF B T (by decide +kernel) (by decide +kernel) fun {X} B T => jf_nil) (blkE B T (by decide +kernel) (by decide +kernel) fun {X} B T => (je_cmp (B.in_ (by with_unfolding_all rfl)) (B.jvar 0 rfl (.inl rfl) dbg_thing cdc_thing) (B.jvar 1 rfl (.inr (.inr rfl)) dbg_others cdc_others)))) ja_nil))))
theorem ok_share (T : Tx K mg) : FnOk P w K mg base (CXW P w) 1 T.a_share T.d_share ["some", "others"] (spM K mg 2 (fM b_share 2 2)) := fun_ilT rfl rfl T.F_share sc_share fun {X} h1 h2 h3 h4 h5 B hF hsc => by subst h3 h4; exact body_share T B hF hsc
theorem sc_are_bound : FnScope ["one", "other"] ["one", "other"] (defScope s_are_bound) := ⟨rfl, rfl, rfl, by decide +kernel, rfl, by decide +kernel, by decide +kernel⟩
theorem body_are_bound {X : Cx} (T : Tx X.K X.mg) (B : Bd X ["one", "other"] (defScope s_are_bound) 1) (hF : TopF X) (hsc : X.env.scope = defScope s_are_bound) : JB X (defBody s_are_bound) b_are_bound := (jb_cons (js_if (jt_w (jw_and (jt_tru rfl (je_cal rfl (by decide +kernel) (ok_is_outward T) fM_len (B.room.mono (by decide)) (B.gl _ gl_are_bound_is_outward) T.m_is_outward T.F_is_outward.kp T.b_is_outward (ja_c rfl (B.jvar 0 rfl vis_are_bound_0 dbg_one cdc_one) ja_nil))) (jw_one (jt_tru rfl (je_cal rfl (by decide +kernel) (ok_is_outward T) fM_len (B.room.mono (by decide)) (B.gl _ gl_are_bound_is_outward) T.m_is_outward T.F_is_outward.kp T.b_is_outward (ja_c rfl (B.jvar 1 rfl vis_are_bound_1 dbg_other cdc_other) ja_nil)))))) (jb_one (js_ret je_bl)) jb_nil) (jb_cons (js_if (jt_tru rfl (je_cal rfl (by decide +kernel) (ok_share T) fM_len (B.room.mono (by decide)) (B.gl _ gl_are_bound_share) T.m_share T.F_share.kp T.b_share (ja_c rfl (je_cal rfl (by decide +kernel) (ok_things_written T) fM_len (B.room.mono (by decide)) (B.gl _ gl_are_bound_things_written) T.m_things_written T.F_things_written.kp T.b_things_written (ja_c rfl (B.jvar 0 rfl vis_are_bound_0 dbg_one cdc_one) ja_nil)) (ja_c rfl (je_add (je_cal rfl (by decide +kernel) (ok_things_read T) fM_len (B.room.mono (by decide)) (B.gl _ gl_are_bound_things_read) T.m_things_read T.F_things_read.kp T.b_things_read (ja_c rfl (B.jvar 1 rfl vis_are_bound_1 dbg_other cdc_other) ja_nil)) (je_cal rfl (by decide +kernel) (ok_things_written T) fM_len (B.room.mono (by decide)) (B.gl _ gl_are_bound_things_written) T.m_things_written T.F_things_written.kp T.b_things_written (ja_c rfl (B.jvar 1 rfl vis_are_bound_1 dbg_other cdc_other) ja_nil))) ja_nil)))) (jb_one (js_ret je_bl)) jb_nil) (jb_one (js_ret (je_cal rfl (by decide +kernel) (ok_share T) fM_len (B.room.mono (by decide)) (B.gl _ gl_are_bound_share) T.m_share T.F_share.kp T.b_share (ja_c rfl (je_cal rfl (by decide +kernel) (ok_things_written T) fM_len (B.room.mono (by decide)) (B.gl _ gl_are_bound_things_written) T.m_things_written T.F_things_written.kp T.b_things_written (ja_c rfl (B.jvar 1 rfl vis_are_bound_1 dbg_other cdc_other) ja_nil)) (ja_c rfl (je_cal rfl (by decide +kernel) (ok_things_read T) fM_len (B.room.mono (by decide)) (B.gl _ gl_are_bound_things_read) T.m_things_read T.F_things_read.kp T.b_things_read (ja_c rfl (B.jvar 0 rfl vis_are_bound_0 dbg_one cdc_one) ja_nil)) ja_nil)))))))
theorem ok_are_bound (T : Tx K mg) : FnOk P w K mg base (CXW P w) 2 T.a_are_bound T.d_are_bound ["one", "other"] (spM K mg 2 (fM b_are_bound 2 2)) := fun_ilT rfl rfl T.F_are_bound sc_are_bound fun {X} h1 h2 h3 h4 h5 B hF hsc => by subst h3 h4; exact body_are_bound T B hF hsc
theorem sc_bound : FnScope ["rows", "told", "i", "one"] ["rows"] (defScope s_bound) := ⟨rfl, rfl, rfl, by decide +kernel, rfl, by decide +kernel, by decide +kernel⟩
theorem body_bound {X : Cx} (T : Tx X.K X.mg) (B : Bd X ["rows", "told", "i", "one"] (defScope s_bound) 2) (hF : TopF X) (hsc : X.env.scope = defScope s_bound) : JB X (defBody s_bound) b_bound := (jb_cons (B.jset 1 rfl loc_bound_1 rfl (je_lst ja_nil)) (jb_cons (B.jfor (ji_enum (B.gl _ gl_bound_enumerate) T.n_enumerate rfl (ja_c rfl (B.jvar 0 rfl vis_bound_0 dbg_rows cdc_rows) ja_nil)) (jg_tup B.calm (jgs_cons (B.jname 2 rfl loc_bound_2) (jgs_cons (B.jname 3 rfl loc_bound_3) jgs_nil))) (jb_one (js_expr rfl (je_mth rfl rfl PySem.F.plainAttrs_list PySem.F.slot_list_extend PySem.F.type_list_extend mt_extend isL_i extendW_i (B.jvar 1 rfl vis_bound_1 dbg_told cdc_told) (ja_c rfl (je_comp B.calm (N' := ["j", "i", "one", "rows"]) (Bd.cap B.hN hsc (by decide +kernel)) (ji_range2 (B.gl _ gl_bound_range) T.n_range rfl rfl (ja_c rfl (je_add (B.jvar 2 rfl vis_bound_2 dbg_i cdc_i) je_int) (ja_c rfl (je_blt rfl (by decide +kernel) (by decide +kernel) call_lenW lenW_i (B.gl _ gl_bound_len) T.n_len PySem.boot_len (ja_c rfl (B.jvar 0 rfl vis_bound_0 dbg_rows cdc_rows) ja_nil)) ja_nil))) (blkG B T (by decide +kernel) (by decide +kernel) fun {X} B T => (B.jname 0 rfl (.inl rfl))) (blkF B T (by decide +kernel) (by decide +kernel) fun {X} B T => (jf_one (jt_tru rfl (je_cal rfl (by decide +kernel) (ok_are_bound T) fM_len (B.room.mono (by decide)) (B.gl _ rfl) T.m_are_bound T.F_are_bound.kp T.b_are_bound (ja_c rfl (B.jvar 2 rfl (.inr (.inr rfl)) dbg_one cdc_one) (ja_c rfl (je_ix (by intro _ _; rfl) (B.jvar 3 rfl (.inr (.inr rfl)) dbg_rows cdc_rows) (B.jvar 0 rfl (.inl rfl) dbg_j cdc_j)) ja_nil)))))) (blkE B T (by decide +kernel) (by decide +kernel) fun {X} B T => (je_tup (ja_c rfl (B.jvar 1 rfl (.inr (.inr rfl)) dbg_i cdc_i) (ja_c rfl (B.jvar 0 rfl (.inl rfl) dbg_j cdc_j) ja_nil))))) ja_nil))))) (jb_one (js_ret (B.jvar 1 rfl vis_bound_1 dbg_told cdc_told)))))
theorem ok_bound (T : Tx K mg) : FnOk P w K mg base (CXW P w) 3 T.a_bound T.d_bound ["rows"] (spM K mg 1 (fM b_bound 4 1)) := fun_ilT rfl rfl T.F_bound sc_bound fun {X} h1 h2 h3 h4 h5 B hF hsc => by subst h3 h4; exact body_bound T B hF hsc
theorem sc_law_right : FnScope ["_law_found", "_law_due_here", "_law_pair", "_law_place"] ["_law_found", "_law_due_here"] (defScope s_law_right) := ⟨rfl, rfl, rfl, by decide +kernel, rfl, by decide +kernel, by decide +kernel⟩
theorem body_law_right {X : Cx} (T : Tx X.K X.mg) (B : Bd X ["_law_found", "_law_due_here", "_law_pair", "_law_place"] (defScope s_law_right) 0) (hF : TopF X) (hsc : X.env.scope = defScope s_law_right) : JB X (defBody s_law_right) b_law_right := (jb_cons (js_if (jt_w (jw_or (jt_not (jt_tru rfl (je_is kits_list PyProof.Rows.boot_list (by decide +kernel) (by decide +kernel) rfl (B.gl _ gl_law_right_isinstance) T.n_isinstance (B.gl _ gl_law_right_list) T.n_list (B.jvar 0 rfl vis_law_right_0 dbg_law_found cdc_law_found)))) (jw_one (jt_cmp B.ne (B.jvar 0 rfl vis_law_right_0 dbg_law_found cdc_law_found) (B.jvar 1 rfl vis_law_right_1 dbg_law_due_here cdc_law_due_here))))) (jb_one (js_ret je_bl)) jb_nil) (jb_cons (B.jfor (ji_both (B.jvar 0 rfl vis_law_right_0 dbg_law_found cdc_law_found)) (B.jname 2 rfl loc_law_right_2) (jb_cons (js_if (jt_not (jt_tru rfl (je_is kits_tuple PyProof.Rows.boot_tuple (by decide +kernel) (by decide +kernel) rfl (B.gl _ gl_law_right_isinstance) T.n_isinstance (B.gl _ gl_law_right_tuple) T.n_tuple (B.jvar 2 rfl vis_law_right_2 dbg_law_pair cdc_law_pair)))) (jb_one (js_ret je_bl)) jb_nil) (jb_one (B.jfor (ji_both (B.jvar 2 rfl vis_law_right_2 dbg_law_pair cdc_law_pair)) (B.jname 3 rfl loc_law_right_3) (jb_one (js_if (jt_w (jw_or (jt_not (jt_tru rfl (je_is kits_int PyProof.Rows.boot_int (by decide +kernel) (by decide +kernel) rfl (B.gl _ gl_law_right_isinstance) T.n_isinstance (B.gl _ gl_law_right_int) T.n_int (B.jvar 3 rfl vis_law_right_3 dbg_law_place cdc_law_place)))) (jw_one (jt_tru rfl (je_is kits_bool PyProof.Rows.boot_bool (by decide +kernel) (by decide +kernel) rfl (B.gl _ gl_law_right_isinstance) T.n_isinstance (B.gl _ gl_law_right_bool) T.n_bool (B.jvar 3 rfl vis_law_right_3 dbg_law_place cdc_law_place)))))) (jb_one (js_ret je_bl)) jb_nil)))))) (jb_one (js_ret je_bl))))
theorem ok_law_right (T : Tx K mg) : FnOk P w K mg base (CXW P w) 1 T.a_law_right T.d_law_right ["_law_found", "_law_due_here"] (spM K mg 2 (fM b_law_right 4 2)) := fun_ilT rfl rfl T.F_law_right sc_law_right fun {X} h1 h2 h3 h4 h5 B hF hsc => by subst h3 h4; exact body_law_right T B hF hsc
theorem sc_law : FnScope ["_law_script", "_law_many", "_law_boxes", "_law_slots", "_law_rows", "_law_handed", "_law_due_here", "_law_first"] ["_law_script"] (defScope s_law) := ⟨rfl, rfl, rfl, by decide +kernel, rfl, by decide +kernel, by decide +kernel⟩
theorem body_law {X : Cx} (T : Tx X.K X.mg) (B : Bd X ["_law_script", "_law_many", "_law_boxes", "_law_slots", "_law_rows", "_law_handed", "_law_due_here", "_law_first"] (defScope s_law) 3) (hF : TopF X) (hsc : X.env.scope = defScope s_law) : JB X (defBody s_law) b_law := (jb_cons (B.jset 1 rfl loc_law_1 rfl (je_mod (je_cal rfl (by decide +kernel) (ok_law_cell_at T) fM_len (B.room.mono (by decide)) (B.gl _ gl_law_law_cell_at) T.m_law_cell_at T.F_law_cell_at.kp T.b_law_cell_at (ja_c rfl (B.jvar 0 rfl vis_law_0 dbg_law_script cdc_law_script) (ja_c rfl je_int ja_nil))) je_int)) (jb_cons (js_if (jt_cmp B.eq (je_mod (je_div (je_cal rfl (by decide +kernel) (ok_law_cell_at T) fM_len (B.room.mono (by decide)) (B.gl _ gl_law_law_cell_at) T.m_law_cell_at T.F_law_cell_at.kp T.b_law_cell_at (ja_c rfl (B.jvar 0 rfl vis_law_0 dbg_law_script cdc_law_script) (ja_c rfl je_int ja_nil))) je_int) je_int) je_int) (jb_one (B.jset 1 rfl loc_law_1 rfl (je_add je_int (je_mod (je_div (je_cal rfl (by decide +kernel) (ok_law_cell_at T) fM_len (B.room.mono (by decide)) (B.gl _ gl_law_law_cell_at) T.m_law_cell_at T.F_law_cell_at.kp T.b_law_cell_at (ja_c rfl (B.jvar 0 rfl vis_law_0 dbg_law_script cdc_law_script) (ja_c rfl je_int ja_nil))) je_int) je_int)))) jb_nil) (jb_cons (B.jset 2 rfl loc_law_2 rfl (je_add je_int (je_mod (je_cal rfl (by decide +kernel) (ok_law_cell_at T) fM_len (B.room.mono (by decide)) (B.gl _ gl_law_law_cell_at) T.m_law_cell_at T.F_law_cell_at.kp T.b_law_cell_at (ja_c rfl (B.jvar 0 rfl vis_law_0 dbg_law_script cdc_law_script) (ja_c rfl je_int ja_nil))) je_int))) (jb_cons (B.jset 3 rfl loc_law_3 rfl (je_add je_int (je_mod (je_div (je_cal rfl (by decide +kernel) (ok_law_cell_at T) fM_len (B.room.mono (by decide)) (B.gl _ gl_law_law_cell_at) T.m_law_cell_at T.F_law_cell_at.kp T.b_law_cell_at (ja_c rfl (B.jvar 0 rfl vis_law_0 dbg_law_script cdc_law_script) (ja_c rfl je_int ja_nil))) je_int) je_int))) (jb_cons (js_comp (i := 4) (by rw [B.hN]; exact B.nd) (by rw [B.hN]; rfl) (by rw [hsc]; decide +kernel) B.calm (N' := ["_law_k", "_law_boxes", "_law_slots", "_law_script"]) (Bd.cap B.hN hsc (by decide +kernel)) (ji_range1 (B.gl _ gl_law_range) T.n_range rfl (ja_c rfl (B.jvar 1 rfl vis_law_1 dbg_law_many cdc_law_many) ja_nil)) (blkG B T (by decide +kernel) (by decide +kernel) fun {X} B T => (B.jname 0 rfl (.inl rfl))) (blkF B T (by decide +kernel) (by decide +kernel) fun {X} B T => jf_nil) (blkE B T (by decide +kernel) (by decide +kernel) fun {X} B T => (je_cal rfl (by decide +kernel) (ok_law_row_by T) fM_len (B.room.mono (by decide)) (B.gl _ rfl) T.m_law_row_by T.F_law_row_by.kp T.b_law_row_by (ja_c rfl (je_add (je_cal rfl (by decide +kernel) (ok_law_cell_at T) fM_len (B.room.mono (by decide)) (B.gl _ rfl) T.m_law_cell_at T.F_law_cell_at.kp T.b_law_cell_at (ja_c rfl (B.jvar 3 rfl (.inr (.inr rfl)) dbg_law_script cdc_law_script) (ja_c rfl (je_add je_int (je_mod (B.jvar 0 rfl (.inl rfl) dbg_law_k cdc_law_k) je_int)) ja_nil))) (je_mul je_int (B.jvar 0 rfl (.inl rfl) dbg_law_k cdc_law_k))) (ja_c rfl (B.jvar 1 rfl (.inr (.inr rfl)) dbg_law_boxes cdc_law_boxes) (ja_c rfl (B.jvar 2 rfl (.inr (.inr rfl)) dbg_law_slots cdc_law_slots) ja_nil))))) (swaps_yes (by rw [hsc]; rfl) (by rw [hsc]; decide +kernel) rfl (by decide +kernel))) (jb_cons (B.jset 5 rfl loc_law_5 rfl (je_typ rfl (by decide +kernel) (by decide +kernel) call_list_of listW_i (B.gl _ gl_law_list) T.n_list PyProof.Rows.boot_list (ja_c rfl (B.jvar 4 rfl vis_law_4 dbg_law_rows cdc_law_rows) ja_nil))) (jb_cons (B.jset 6 rfl loc_law_6 rfl (je_cal rfl (by decide +kernel) (ok_law_due T) fM_len (B.room.mono (by decide)) (B.gl _ gl_law_law_due) T.m_law_due T.F_law_due.kp T.b_law_due (ja_c rfl (B.jvar 4 rfl vis_law_4 dbg_law_rows cdc_law_rows) ja_nil))) (jb_cons (B.jset 7 rfl loc_law_7 rfl (je_cal rfl (by decide +kernel) (ok_bound T) fM_len (B.room.mono (by decide)) (B.gl _ gl_law_bound) T.m_bound T.F_bound.kp T.b_bound (ja_c rfl (B.jvar 5 rfl vis_law_5 dbg_law_handed cdc_law_handed) ja_nil))) (jb_cons (js_if (jt_not (jt_tru rfl (je_cal rfl (by decide +kernel) (ok_law_right T) fM_len (B.room.mono (by decide)) (B.gl _ gl_law_law_right) T.m_law_right T.F_law_right.kp T.b_law_right (ja_c rfl (B.jvar 7 rfl vis_law_7 dbg_law_first cdc_law_first) (ja_c rfl (B.jvar 6 rfl vis_law_6 dbg_law_due_here cdc_law_due_here) ja_nil))))) (jb_one (js_ret je_bl)) jb_nil) (jb_cons (js_expr rfl (je_mth0 PySem.F.plainAttrs_list PySem.F.slot_list_clear PySem.F.type_list_clear mt_clear isL_i clearW_i (B.jvar 7 rfl vis_law_7 dbg_law_first cdc_law_first))) (jb_one (js_ret (je_and (je_cal rfl (by decide +kernel) (ok_law_right T) fM_len (B.room.mono (by decide)) (B.gl _ gl_law_law_right) T.m_law_right T.F_law_right.kp T.b_law_right (ja_c rfl (je_cal rfl (by decide +kernel) (ok_bound T) fM_len (B.room.mono (by decide)) (B.gl _ gl_law_bound) T.m_bound T.F_bound.kp T.b_bound (ja_c rfl (B.jvar 5 rfl vis_law_5 dbg_law_handed cdc_law_handed) ja_nil)) (ja_c rfl (B.jvar 6 rfl vis_law_6 dbg_law_due_here cdc_law_due_here) ja_nil))) (je_and (je_cmp B.eq (B.jvar 7 rfl vis_law_7 dbg_law_first cdc_law_first) (je_lst ja_nil)) (je_one (je_cmp B.eq (B.jvar 5 rfl vis_law_5 dbg_law_handed cdc_law_handed) (B.jvar 4 rfl vis_law_4 dbg_law_rows cdc_law_rows)))))))))))))))))
theorem ok_law (T : Tx K mg) : FnOk P w K mg base (CXW P w) 4 T.a_law T.d_law ["_law_script"] (spM K mg 1 (fM b_law 8 1)) := fun_ilT rfl rfl T.F_law sc_law fun {X} h1 h2 h3 h4 h5 B hF hsc => by subst h3 h4; exact body_law T B hF hsc
end
theorem all_mk {l : PySem.W.OpenLaw} {w : World} {K : PySem.W.Frag} {h : Heap} {mg : Str → Option Value} {fa : Addr} (KX : K.In h) (G : h.Ns mainGlobals mg) (hfa : mg "law" = some (.ref fa))
    {f_law_cell_at_ : Addr} {od_law_cell_at an_law_cell_at : Option Addr} {sl_law_cell_at : Array (Option Value)} {oc_law_cell_at kV_law_cell_at dc_law_cell_at pm_law_cell_at cd_law_cell_at ct_law_cell_at : Value}
    {f_law_number_by_ : Addr} {od_law_number_by an_law_number_by : Option Addr} {sl_law_number_by : Array (Option Value)} {oc_law_number_by kV_law_number_by dc_law_number_by pm_law_number_by cd_law_number_by ct_law_number_by : Value}
    {f_law_row_by_ : Addr} {od_law_row_by an_law_row_by : Option Addr} {sl_law_row_by : Array (Option Value)} {oc_law_row_by kV_law_row_by dc_law_row_by pm_law_row_by cd_law_row_by ct_law_row_by : Value}
    {f_law_is_part_ : Addr} {od_law_is_part an_law_is_part : Option Addr} {sl_law_is_part : Array (Option Value)} {oc_law_is_part kV_law_is_part dc_law_is_part pm_law_is_part cd_law_is_part ct_law_is_part : Value}
    {f_law_writes_ : Addr} {od_law_writes an_law_writes : Option Addr} {sl_law_writes : Array (Option Value)} {oc_law_writes kV_law_writes dc_law_writes pm_law_writes cd_law_writes ct_law_writes : Value}
    {f_law_reads_ : Addr} {od_law_reads an_law_reads : Option Addr} {sl_law_reads : Array (Option Value)} {oc_law_reads kV_law_reads dc_law_reads pm_law_reads cd_law_reads ct_law_reads : Value}
    {f_law_tied_ : Addr} {od_law_tied an_law_tied : Option Addr} {sl_law_tied : Array (Option Value)} {oc_law_tied kV_law_tied dc_law_tied pm_law_tied cd_law_tied ct_law_tied : Value}
    {f_law_due_ : Addr} {od_law_due an_law_due : Option Addr} {sl_law_due : Array (Option Value)} {oc_law_due kV_law_due dc_law_due pm_law_due cd_law_due ct_law_due : Value}
    {f_is_outward_ : Addr} {od_is_outward an_is_outward : Option Addr} {sl_is_outward : Array (Option Value)} {oc_is_outward kV_is_outward dc_is_outward pm_is_outward cd_is_outward ct_is_outward : Value}
    {f_things_read_ : Addr} {od_things_read an_things_read : Option Addr} {sl_things_read : Array (Option Value)} {oc_things_read kV_things_read dc_things_read pm_things_read cd_things_read ct_things_read : Value}
    {f_things_written_ : Addr} {od_things_written an_things_written : Option Addr} {sl_things_written : Array (Option Value)} {oc_things_written kV_things_written dc_things_written pm_things_written cd_things_written ct_things_written : Value}
    {f_share_ : Addr} {od_share an_share : Option Addr} {sl_share : Array (Option Value)} {oc_share kV_share dc_share pm_share cd_share ct_share : Value}
    {f_are_bound_ : Addr} {od_are_bound an_are_bound : Option Addr} {sl_are_bound : Array (Option Value)} {oc_are_bound kV_are_bound dc_are_bound pm_are_bound cd_are_bound ct_are_bound : Value}
    {f_bound_ : Addr} {od_bound an_bound : Option Addr} {sl_bound : Array (Option Value)} {oc_bound kV_bound dc_bound pm_bound cd_bound ct_bound : Value}
    {f_law_right_ : Addr} {od_law_right an_law_right : Option Addr} {sl_law_right : Array (Option Value)} {oc_law_right kV_law_right dc_law_right pm_law_right cd_law_right ct_law_right : Value}
    {f_law_ : Addr} {od_law an_law : Option Addr} {sl_law : Array (Option Value)} {oc_law kV_law dc_law pm_law cd_law ct_law : Value}
    (a_law_cell_at : PySem.W.nsIn K mainGlobals "_law_cell_at" = some (some (.ref f_law_cell_at_)))
    (l_law_cell_at : K.lookup f_law_cell_at_ = some ⟨oc_law_cell_at, od_law_cell_at, .func (PySem.W.fnOf "_law_cell_at" "_law_cell_at" (defArgs s_law_cell_at) (defBody s_law_cell_at) (defScope s_law_cell_at) .none kV_law_cell_at dc_law_cell_at pm_law_cell_at an_law_cell_at cd_law_cell_at ct_law_cell_at), sl_law_cell_at⟩)
    (c_law_cell_at : PySem.W.codeIn K cd_law_cell_at "_law_cell_at" = true)
    (k_law_cell_at : PySem.W.keepIn K (.ref f_law_cell_at_) = true)
    (a_law_number_by : PySem.W.nsIn K mainGlobals "_law_number_by" = some (some (.ref f_law_number_by_)))
    (l_law_number_by : K.lookup f_law_number_by_ = some ⟨oc_law_number_by, od_law_number_by, .func (PySem.W.fnOf "_law_number_by" "_law_number_by" (defArgs s_law_number_by) (defBody s_law_number_by) (defScope s_law_number_by) .none kV_law_number_by dc_law_number_by pm_law_number_by an_law_number_by cd_law_number_by ct_law_number_by), sl_law_number_by⟩)
    (c_law_number_by : PySem.W.codeIn K cd_law_number_by "_law_number_by" = true)
    (k_law_number_by : PySem.W.keepIn K (.ref f_law_number_by_) = true)
    (a_law_row_by : PySem.W.nsIn K mainGlobals "_law_row_by" = some (some (.ref f_law_row_by_)))
    (l_law_row_by : K.lookup f_law_row_by_ = some ⟨oc_law_row_by, od_law_row_by, .func (PySem.W.fnOf "_law_row_by" "_law_row_by" (defArgs s_law_row_by) (defBody s_law_row_by) (defScope s_law_row_by) .none kV_law_row_by dc_law_row_by pm_law_row_by an_law_row_by cd_law_row_by ct_law_row_by), sl_law_row_by⟩)
    (c_law_row_by : PySem.W.codeIn K cd_law_row_by "_law_row_by" = true)
    (k_law_row_by : PySem.W.keepIn K (.ref f_law_row_by_) = true)
    (a_law_is_part : PySem.W.nsIn K mainGlobals "_law_is_part" = some (some (.ref f_law_is_part_)))
    (l_law_is_part : K.lookup f_law_is_part_ = some ⟨oc_law_is_part, od_law_is_part, .func (PySem.W.fnOf "_law_is_part" "_law_is_part" (defArgs s_law_is_part) (defBody s_law_is_part) (defScope s_law_is_part) .none kV_law_is_part dc_law_is_part pm_law_is_part an_law_is_part cd_law_is_part ct_law_is_part), sl_law_is_part⟩)
    (c_law_is_part : PySem.W.codeIn K cd_law_is_part "_law_is_part" = true)
    (k_law_is_part : PySem.W.keepIn K (.ref f_law_is_part_) = true)
    (a_law_writes : PySem.W.nsIn K mainGlobals "_law_writes" = some (some (.ref f_law_writes_)))
    (l_law_writes : K.lookup f_law_writes_ = some ⟨oc_law_writes, od_law_writes, .func (PySem.W.fnOf "_law_writes" "_law_writes" (defArgs s_law_writes) (defBody s_law_writes) (defScope s_law_writes) .none kV_law_writes dc_law_writes pm_law_writes an_law_writes cd_law_writes ct_law_writes), sl_law_writes⟩)
    (c_law_writes : PySem.W.codeIn K cd_law_writes "_law_writes" = true)
    (k_law_writes : PySem.W.keepIn K (.ref f_law_writes_) = true)
    (a_law_reads : PySem.W.nsIn K mainGlobals "_law_reads" = some (some (.ref f_law_reads_)))
    (l_law_reads : K.lookup f_law_reads_ = some ⟨oc_law_reads, od_law_reads, .func (PySem.W.fnOf "_law_reads" "_law_reads" (defArgs s_law_reads) (defBody s_law_reads) (defScope s_law_reads) .none kV_law_reads dc_law_reads pm_law_reads an_law_reads cd_law_reads ct_law_reads), sl_law_reads⟩)
    (c_law_reads : PySem.W.codeIn K cd_law_reads "_law_reads" = true)
    (k_law_reads : PySem.W.keepIn K (.ref f_law_reads_) = true)
    (a_law_tied : PySem.W.nsIn K mainGlobals "_law_tied" = some (some (.ref f_law_tied_)))
    (l_law_tied : K.lookup f_law_tied_ = some ⟨oc_law_tied, od_law_tied, .func (PySem.W.fnOf "_law_tied" "_law_tied" (defArgs s_law_tied) (defBody s_law_tied) (defScope s_law_tied) .none kV_law_tied dc_law_tied pm_law_tied an_law_tied cd_law_tied ct_law_tied), sl_law_tied⟩)
    (c_law_tied : PySem.W.codeIn K cd_law_tied "_law_tied" = true)
    (k_law_tied : PySem.W.keepIn K (.ref f_law_tied_) = true)
    (a_law_due : PySem.W.nsIn K mainGlobals "_law_due" = some (some (.ref f_law_due_)))
    (l_law_due : K.lookup f_law_due_ = some ⟨oc_law_due, od_law_due, .func (PySem.W.fnOf "_law_due" "_law_due" (defArgs s_law_due) (defBody s_law_due) (defScope s_law_due) .none kV_law_due dc_law_due pm_law_due an_law_due cd_law_due ct_law_due), sl_law_due⟩)
    (c_law_due : PySem.W.codeIn K cd_law_due "_law_due" = true)
    (k_law_due : PySem.W.keepIn K (.ref f_law_due_) = true)
    (a_is_outward : PySem.W.nsIn K mainGlobals "is_outward" = some (some (.ref f_is_outward_)))
    (l_is_outward : K.lookup f_is_outward_ = some ⟨oc_is_outward, od_is_outward, .func (PySem.W.fnOf "is_outward" "is_outward" (defArgs s_is_outward) (defBody s_is_outward) (defScope s_is_outward) .none kV_is_outward dc_is_outward pm_is_outward an_is_outward cd_is_outward ct_is_outward), sl_is_outward⟩)
    (c_is_outward : PySem.W.codeIn K cd_is_outward "is_outward" = true)
    (k_is_outward : PySem.W.keepIn K (.ref f_is_outward_) = true)
    (a_things_read : PySem.W.nsIn K mainGlobals "things_read" = some (some (.ref f_things_read_)))
    (l_things_read : K.lookup f_things_read_ = some ⟨oc_things_read, od_things_read, .func (PySem.W.fnOf "things_read" "things_read" (defArgs s_things_read) (defBody s_things_read) (defScope s_things_read) .none kV_things_read dc_things_read pm_things_read an_things_read cd_things_read ct_things_read), sl_things_read⟩)
    (c_things_read : PySem.W.codeIn K cd_things_read "things_read" = true)
    (k_things_read : PySem.W.keepIn K (.ref f_things_read_) = true)
    (a_things_written : PySem.W.nsIn K mainGlobals "things_written" = some (some (.ref f_things_written_)))
    (l_things_written : K.lookup f_things_written_ = some ⟨oc_things_written, od_things_written, .func (PySem.W.fnOf "things_written" "things_written" (defArgs s_things_written) (defBody s_things_written) (defScope s_things_written) .none kV_things_written dc_things_written pm_things_written an_things_written cd_things_written ct_things_written), sl_things_written⟩)
    (c_things_written : PySem.W.codeIn K cd_things_written "things_written" = true)
    (k_things_written : PySem.W.keepIn K (.ref f_things_written_) = true)
    (a_share : PySem.W.nsIn K mainGlobals "share" = some (some (.ref f_share_)))
    (l_share : K.lookup f_share_ = some ⟨oc_share, od_share, .func (PySem.W.fnOf "share" "share" (defArgs s_share) (defBody s_share) (defScope s_share) .none kV_share dc_share pm_share an_share cd_share ct_share), sl_share⟩)
    (c_share : PySem.W.codeIn K cd_share "share" = true)
    (k_share : PySem.W.keepIn K (.ref f_share_) = true)
    (a_are_bound : PySem.W.nsIn K mainGlobals "are_bound" = some (some (.ref f_are_bound_)))
    (l_are_bound : K.lookup f_are_bound_ = some ⟨oc_are_bound, od_are_bound, .func (PySem.W.fnOf "are_bound" "are_bound" (defArgs s_are_bound) (defBody s_are_bound) (defScope s_are_bound) .none kV_are_bound dc_are_bound pm_are_bound an_are_bound cd_are_bound ct_are_bound), sl_are_bound⟩)
    (c_are_bound : PySem.W.codeIn K cd_are_bound "are_bound" = true)
    (k_are_bound : PySem.W.keepIn K (.ref f_are_bound_) = true)
    (a_bound : PySem.W.nsIn K mainGlobals "bound" = some (some (.ref f_bound_)))
    (l_bound : K.lookup f_bound_ = some ⟨oc_bound, od_bound, .func (PySem.W.fnOf "bound" "bound" (defArgs s_bound) (defBody s_bound) (defScope s_bound) .none kV_bound dc_bound pm_bound an_bound cd_bound ct_bound), sl_bound⟩)
    (c_bound : PySem.W.codeIn K cd_bound "bound" = true)
    (k_bound : PySem.W.keepIn K (.ref f_bound_) = true)
    (a_law_right : PySem.W.nsIn K mainGlobals "_law_right" = some (some (.ref f_law_right_)))
    (l_law_right : K.lookup f_law_right_ = some ⟨oc_law_right, od_law_right, .func (PySem.W.fnOf "_law_right" "_law_right" (defArgs s_law_right) (defBody s_law_right) (defScope s_law_right) .none kV_law_right dc_law_right pm_law_right an_law_right cd_law_right ct_law_right), sl_law_right⟩)
    (c_law_right : PySem.W.codeIn K cd_law_right "_law_right" = true)
    (k_law_right : PySem.W.keepIn K (.ref f_law_right_) = true)
    (a_law : PySem.W.nsIn K mainGlobals "law" = some (some (.ref f_law_)))
    (l_law : K.lookup f_law_ = some ⟨oc_law, od_law, .func (PySem.W.fnOf "law" "law" (defArgs s_law) (defBody s_law) (defScope s_law) .none kV_law dc_law pm_law an_law cd_law ct_law), sl_law⟩)
    (c_law : PySem.W.codeIn K cd_law "law" = true)
    (k_law : PySem.W.keepIn K (.ref f_law_) = true)
    (z_any : PySem.W.nsIn K mainGlobals "any" = some none)
    (z_bool : PySem.W.nsIn K mainGlobals "bool" = some none)
    (z_enumerate : PySem.W.nsIn K mainGlobals "enumerate" = some none)
    (z_int : PySem.W.nsIn K mainGlobals "int" = some none)
    (z_isinstance : PySem.W.nsIn K mainGlobals "isinstance" = some none)
    (z_len : PySem.W.nsIn K mainGlobals "len" = some none)
    (z_list : PySem.W.nsIn K mainGlobals "list" = some none)
    (z_range : PySem.W.nsIn K mainGlobals "range" = some none)
    (z_tuple : PySem.W.nsIn K mainGlobals "tuple" = some none)
    : ∃ fd : FuncData, (∀ (s : Shared) (v : Value), BindsTo s fd ⟨[v], []⟩ [("_law_script", v)]) ∧ ∀ base : Heap, K.In base → base.Ns mainGlobals mg → FnOk l.prog w K mg base (CXW l.prog w) 4 fa fd ["_law_script"] (spM K mg 1 f_law) := by
  have e := hfa.symm.trans (PySem.W.mg_of KX G a_law)
  cases e
  have F_law_cell_at := fun_mk (st := s_law_cell_at) l_law_cell_at c_law_cell_at k_law_cell_at
  have F_law_number_by := fun_mk (st := s_law_number_by) l_law_number_by c_law_number_by k_law_number_by
  have F_law_row_by := fun_mk (st := s_law_row_by) l_law_row_by c_law_row_by k_law_row_by
  have F_law_is_part := fun_mk (st := s_law_is_part) l_law_is_part c_law_is_part k_law_is_part
  have F_law_writes := fun_mk (st := s_law_writes) l_law_writes c_law_writes k_law_writes
  have F_law_reads := fun_mk (st := s_law_reads) l_law_reads c_law_reads k_law_reads
  have F_law_tied := fun_mk (st := s_law_tied) l_law_tied c_law_tied k_law_tied
  have F_law_due := fun_mk (st := s_law_due) l_law_due c_law_due k_law_due
  have F_is_outward := fun_mk (st := s_is_outward) l_is_outward c_is_outward k_is_outward
  have F_things_read := fun_mk (st := s_things_read) l_things_read c_things_read k_things_read
  have F_things_written := fun_mk (st := s_things_written) l_things_written c_things_written k_things_written
  have F_share := fun_mk (st := s_share) l_share c_share k_share
  have F_are_bound := fun_mk (st := s_are_bound) l_are_bound c_are_bound k_are_bound
  have F_bound := fun_mk (st := s_bound) l_bound c_bound k_bound
  have F_law_right := fun_mk (st := s_law_right) l_law_right c_law_right k_law_right
  have F_law := fun_mk (st := s_law) l_law c_law k_law
  let T : Tx K mg := {
    a_law_cell_at := f_law_cell_at_, d_law_cell_at := _, F_law_cell_at := F_law_cell_at, m_law_cell_at := PySem.W.mg_of KX G a_law_cell_at, b_law_cell_at := F_law_cell_at.binds (ps := ["_law_script", "_law_k"]) (fun _ _ _ _ _ _ us hl => match us, hl with | [_, _], _ => rfl),
    a_law_number_by := f_law_number_by_, d_law_number_by := _, F_law_number_by := F_law_number_by, m_law_number_by := PySem.W.mg_of KX G a_law_number_by, b_law_number_by := F_law_number_by.binds (ps := ["_law_cell"]) (fun _ _ _ _ _ _ us hl => match us, hl with | [_], _ => rfl),
    a_law_row_by := f_law_row_by_, d_law_row_by := _, F_law_row_by := F_law_row_by, m_law_row_by := PySem.W.mg_of KX G a_law_row_by, b_law_row_by := F_law_row_by.binds (ps := ["_law_cell", "_law_boxes", "_law_slots"]) (fun _ _ _ _ _ _ us hl => match us, hl with | [_, _, _], _ => rfl),
    a_law_is_part := f_law_is_part_, d_law_is_part := _, F_law_is_part := F_law_is_part, m_law_is_part := PySem.W.mg_of KX G a_law_is_part, b_law_is_part := F_law_is_part.binds (ps := ["_law_row"]) (fun _ _ _ _ _ _ us hl => match us, hl with | [_], _ => rfl),
    a_law_writes := f_law_writes_, d_law_writes := _, F_law_writes := F_law_writes, m_law_writes := PySem.W.mg_of KX G a_law_writes, b_law_writes := F_law_writes.binds (ps := ["_law_row"]) (fun _ _ _ _ _ _ us hl => match us, hl with | [_], _ => rfl),
    a_law_reads := f_law_reads_, d_law_reads := _, F_law_reads := F_law_reads, m_law_reads := PySem.W.mg_of KX G a_law_reads, b_law_reads := F_law_reads.binds (ps := ["_law_row"]) (fun _ _ _ _ _ _ us hl => match us, hl with | [_], _ => rfl),
    a_law_tied := f_law_tied_, d_law_tied := _, F_law_tied := F_law_tied, m_law_tied := PySem.W.mg_of KX G a_law_tied, b_law_tied := F_law_tied.binds (ps := ["_law_one", "_law_other"]) (fun _ _ _ _ _ _ us hl => match us, hl with | [_, _], _ => rfl),
    a_law_due := f_law_due_, d_law_due := _, F_law_due := F_law_due, m_law_due := PySem.W.mg_of KX G a_law_due, b_law_due := F_law_due.binds (ps := ["_law_rows"]) (fun _ _ _ _ _ _ us hl => match us, hl with | [_], _ => rfl),
    a_is_outward := f_is_outward_, d_is_outward := _, F_is_outward := F_is_outward, m_is_outward := PySem.W.mg_of KX G a_is_outward, b_is_outward := F_is_outward.binds (ps := ["row"]) (fun _ _ _ _ _ _ us hl => match us, hl with | [_], _ => rfl),
    a_things_read := f_things_read_, d_things_read := _, F_things_read := F_things_read, m_things_read := PySem.W.mg_of KX G a_things_read, b_things_read := F_things_read.binds (ps := ["row"]) (fun _ _ _ _ _ _ us hl => match us, hl with | [_], _ => rfl),
    a_things_written := f_things_written_, d_things_written := _, F_things_written := F_things_written, m_things_written := PySem.W.mg_of KX G a_things_written, b_things_written := F_things_written.binds (ps := ["row"]) (fun _ _ _ _ _ _ us hl => match us, hl with | [_], _ => rfl),
    a_share := f_share_, d_share := _, F_share := F_share, m_share := PySem.W.mg_of KX G a_share, b_share := F_share.binds (ps := ["some", "others"]) (fun _ _ _ _ _ _ us hl => match us, hl with | [_, _], _ => rfl),
    a_are_bound := f_are_bound_, d_are_bound := _, F_are_bound := F_are_bound, m_are_bound := PySem.W.mg_of KX G a_are_bound, b_are_bound := F_are_bound.binds (ps := ["one", "other"]) (fun _ _ _ _ _ _ us hl => match us, hl with | [_, _], _ => rfl),
    a_bound := f_bound_, d_bound := _, F_bound := F_bound, m_bound := PySem.W.mg_of KX G a_bound, b_bound := F_bound.binds (ps := ["rows"]) (fun _ _ _ _ _ _ us hl => match us, hl with | [_], _ => rfl),
    a_law_right := f_law_right_, d_law_right := _, F_law_right := F_law_right, m_law_right := PySem.W.mg_of KX G a_law_right, b_law_right := F_law_right.binds (ps := ["_law_found", "_law_due_here"]) (fun _ _ _ _ _ _ us hl => match us, hl with | [_, _], _ => rfl),
    a_law := fa, d_law := _, F_law := F_law, m_law := PySem.W.mg_of KX G a_law, b_law := F_law.binds (ps := ["_law_script"]) (fun _ _ _ _ _ _ us hl => match us, hl with | [_], _ => rfl),
    n_any := PySem.W.mg_none_of KX G z_any,
    n_bool := PySem.W.mg_none_of KX G z_bool,
    n_enumerate := PySem.W.mg_none_of KX G z_enumerate,
    n_int := PySem.W.mg_none_of KX G z_int,
    n_isinstance := PySem.W.mg_none_of KX G z_isinstance,
    n_len := PySem.W.mg_none_of KX G z_len,
    n_list := PySem.W.mg_none_of KX G z_list,
    n_range := PySem.W.mg_none_of KX G z_range,
    n_tuple := PySem.W.mg_none_of KX G z_tuple }
  exact ⟨PySem.W.fnOf "law" "law" (defArgs s_law) (defBody s_law) (defScope s_law) .none kV_law dc_law pm_law an_law cd_law ct_law, fun s v => .of_eq rfl, fun base _ _ => ok_law T⟩
theorem walk_law {l : PySem.W.OpenLaw} {q : Program} {loose : List Str} {XP : (Str → Option Value) → Heap → Prop} {YP : World → Heap → Prop} {d : DefRec} {K : Params → PySem.W.Frag} (good : ∀ ns : List Int, ns.length ≤ 63 → ∃ ph', f_law [.fl (ns.map W.int)] [] = .ok (.bl true) ph') (hn : l.most = some 63) (hdf : d.params.defaults = [])
    (hY : ∀ (w : World) (h : Heap), YP w h → (K w.params).In h)
    (F : ∀ (w : World) (mg : Str → Option Value) (fa : Addr) (h : Heap), (K w.params).In h → h.Ns mainGlobals mg → mg d.name = some (.ref fa) → ∃ fd : FuncData, (∀ (s : Shared) (u : Value), BindsTo s fd ⟨[u], []⟩ [("_law_script", u)]) ∧ ∀ base : Heap, (K w.params).In base → base.Ns mainGlobals mg → FnOk l.prog w (K w.params) mg base (CXW l.prog w) 4 fa fd ["_law_script"] (spM (K w.params) mg 1 f_law)) :
    PySem.W.WalkO q loose XP YP l.row.toRowW d [] (fun f vs => PySem.call f vs) := walk_il 4 good hn hdf ⟨rfl, by decide, by decide⟩ hY F

end IL.K22
namespace IL.K22
open PySem L2
theorem mulC_r {a b : Int} (h1 : -(2 ^ 64) < b) (h2 : b < 2 ^ 64) : mulC a b = true := by
  unfold mulC
  rw [decide_eq_true h1, decide_eq_true h2]
  simp
theorem cell_at (ns : List Int) (k : Nat) (ph : PH) : f_law_cell_at [.fl (ns.map W.int), .int (k : Int)] ph = .ok (.int (ns.getD k 0)) ph := by
  unfold f_law_cell_at b_law_cell_at
  try simp only [bnd_pur, bnd_exx, bnd_nop, bnd_assoc, bnd_ite, eVar_0, eVar_s, eC_ap, gN_ap, eOp_ap, eUn_ap, eT_ap, eTru_ap, tAndM_ap, tOrM_ap, tNotM_ap, eIf_ap, sSeq_ap, sIf_ap, sRet_ap, sNext_ap, sExpr_ap, sAsg_ap, eCall_ap, eCallB_ap, aNil_ap, aCons_ap, eTup_ap, eLst_ap, eIs_ap, eAnd_ap, eOr_ap, eNot_ap, eChain_ap, eMeth_ap, fEnd_rt, fEnd_nx, fM_1, fM_2, fM_3, fM_4, l_add, l_sub, l_neg, l_lt, l_le, l_gt, l_ge, l_int, l_intb, l_abs, l_max, l_min, l_tb, l_truB, l_truI, l_truT, l_eqI, l_neI, lift_ret, pur_ap, exx_ap, ite_ap, Nat.reduceSub, List.reduceReplicate, List.set_cons_zero, List.set_cons_succ, if_true, if_false, decide_true, decide_false, Bool.false_eq_true, Bool.not_true, Bool.not_false, ↓reduceIte, l_eqL, l_neL, l_neB, is_i, is_b, is_n, is_s, is_t, k_ii, k_ib, k_bi, k_bb, k_ni, k_si, k_li, k_ll, k_tt, newT_0, newT_1, newT_2, newT_3, newT_4, newT_5, ixT_0, ixT_1, ixT_2, ixT_3, ixT_4, l_notN, l_isN, isNon_i, isNon_n, isNon_t, isNon_r, String.reduceEq, reduceCtorEq, in_l2, in_l3, Bool.or_false, Bool.false_or, Bool.or_true, Bool.true_or, Bool.and_true, Bool.true_and, Bool.and_false, Bool.false_and, lenF]
  by_cases h : k < ns.length
  · have e : atI (ns.map W.int) (k : Int) = some (.int (ns.getD k 0)) := by
      rw [atI_nat _ _ (by simpa using h)]; simp [h]
    rw [ixF e]
    simp [h, pur, fEnd, bnd]
  · have e : ns.getD k 0 = 0 := by simp [Nat.le_of_not_lt h]
    simp [h, pur, fEnd, bnd, e]
theorem cell_0 (ns : List Int) (ph : PH) : f_law_cell_at [.fl (ns.map W.int), .int 0] ph = .ok (.int (ns.getD 0 0)) ph := cell_at ns 0 ph
theorem cell_1 (ns : List Int) (ph : PH) : f_law_cell_at [.fl (ns.map W.int), .int 1] ph = .ok (.int (ns.getD 1 0)) ph := cell_at ns 1 ph
theorem number_by (c : Int) (ph : PH) : ∃ v ph', f_law_number_by [.int c] ph = .ok (.int v) ph' ∧ Ex ph ph' := by
  unfold f_law_number_by b_law_number_by
  try simp only [bnd_pur, bnd_exx, bnd_nop, bnd_assoc, bnd_ite, eVar_0, eVar_s, eC_ap, gN_ap, eOp_ap, eUn_ap, eT_ap, eTru_ap, tAndM_ap, tOrM_ap, tNotM_ap, eIf_ap, sSeq_ap, sIf_ap, sRet_ap, sNext_ap, sExpr_ap, sAsg_ap, eCall_ap, eCallB_ap, aNil_ap, aCons_ap, eTup_ap, eLst_ap, eIs_ap, eAnd_ap, eOr_ap, eNot_ap, eChain_ap, eMeth_ap, fEnd_rt, fEnd_nx, fM_1, fM_2, fM_3, fM_4, l_add, l_sub, l_neg, l_lt, l_le, l_gt, l_ge, l_int, l_intb, l_abs, l_max, l_min, l_tb, l_truB, l_truI, l_truT, l_eqI, l_neI, lift_ret, pur_ap, exx_ap, ite_ap, Nat.reduceSub, List.reduceReplicate, List.set_cons_zero, List.set_cons_succ, if_true, if_false, decide_true, decide_false, Bool.false_eq_true, Bool.not_true, Bool.not_false, ↓reduceIte, l_eqL, l_neL, l_neB, is_i, is_b, is_n, is_s, is_t, k_ii, k_ib, k_bi, k_bb, k_ni, k_si, k_li, k_ll, k_tt, newT_0, newT_1, newT_2, newT_3, newT_4, newT_5, ixT_0, ixT_1, ixT_2, ixT_3, ixT_4, l_notN, l_isN, isNon_i, isNon_n, isNon_t, isNon_r, String.reduceEq, reduceCtorEq, in_l2, in_l3, Bool.or_false, Bool.false_or, Bool.or_true, Bool.true_or, Bool.and_true, Bool.true_and, Bool.and_false, Bool.false_and, l_mod (show (4 : Int) ≠ 0 by decide), l_mod (show (8 : Int) ≠ 0 by decide), l_mod (show (4294967296 : Int) ≠ 0 by decide), l_mod (show (100003 : Int) ≠ 0 by decide), l_mod (show (19 : Int) ≠ 0 by decide), l_div (show (4 : Int) ≠ 0 by decide) (by decide), l_mul (mulC_r (a := c.fdiv 4) (b := 48271) (by decide) (by decide))]
  by_cases h3 : c.fmod 4 = 3
  · simp only [decide_eq_true h3, if_true]
    rw [bnd_new _ _ _ (small (by simp))]
    have q := fmod_range (c.fdiv 4) 8 (by decide)
    generalize (c.fdiv 4).fmod 8 = d at q
    have : d = 0 ∨ d = 1 ∨ d = 2 ∨ d = 3 ∨ d = 4 ∨ d = 5 ∨ d = 6 ∨ d = 7 := by omega
    rcases this with rfl | rfl | rfl | rfl | rfl | rfl | rfl | rfl <;>
    · rw [bnd_ok (ix_ref (get_new _ _) (by rfl))]
      exact ⟨_, _, rfl, Ex.one _ _⟩
  · simp only [decide_eq_false h3, Bool.false_eq_true, if_false]
    by_cases h2 : c.fmod 4 = 2
    · simp only [decide_eq_true h2, if_true]
      exact ⟨_, _, rfl, Ex.refl _⟩
    · simp only [decide_eq_false h2, Bool.false_eq_true, if_false]
      by_cases h1 : c.fmod 4 = 1
      · simp only [decide_eq_true h1, if_true]
        exact ⟨_, _, rfl, Ex.refl _⟩
      · simp only [decide_eq_false h1, Bool.false_eq_true, if_false]
        exact ⟨_, _, rfl, Ex.refl _⟩
/-- a row over boxes -/
inductive Rw where
  | put (b n : Int) | mv (a b : Int) | pull (b s : Int) | push (s b : Int) | take (b : Int) | tell (b : Int) | turn | dd (d : Int) (w : Str) (hw : PyData.strOk w = true) (a b : Int)
def Rw.W : Rw → W
  | .put b n => .tup [.str "put", .int b, .int n]
  | .mv a b => .tup [.str "move", .int a, .int b]
  | .pull b s => .tup [.str "pull", .int b, .int s]
  | .push s b => .tup [.str "push", .int s, .int b]
  | .take b => .tup [.str "take", .int b]
  | .tell b => .tup [.str "tell", .int b]
  | .turn => .tup [.str "turn"]
  | .dd d w _ a b => .tup [.str "do", .int d, .str w, .int a, .int b]
theorem row_by (c bx sl : Int) (hb : bx ≠ 0) (hs : sl ≠ 0) (ph : PH) : ∃ (r : Rw) (ph' : PH), f_law_row_by [.int c, .int bx, .int sl] ph = .ok r.W ph' ∧ Ex ph ph' := by
  unfold f_law_row_by b_law_row_by
  try simp only [bnd_pur, bnd_exx, bnd_nop, bnd_assoc, bnd_ite, eVar_0, eVar_s, eC_ap, gN_ap, eOp_ap, eUn_ap, eT_ap, eTru_ap, tAndM_ap, tOrM_ap, tNotM_ap, eIf_ap, sSeq_ap, sIf_ap, sRet_ap, sNext_ap, sExpr_ap, sAsg_ap, eCall_ap, eCallB_ap, aNil_ap, aCons_ap, eTup_ap, eLst_ap, eIs_ap, eAnd_ap, eOr_ap, eNot_ap, eChain_ap, eMeth_ap, fEnd_rt, fEnd_nx, fM_1, fM_2, fM_3, fM_4, l_add, l_sub, l_neg, l_lt, l_le, l_gt, l_ge, l_int, l_intb, l_abs, l_max, l_min, l_tb, l_truB, l_truI, l_truT, l_eqI, l_neI, lift_ret, pur_ap, exx_ap, ite_ap, Nat.reduceSub, List.reduceReplicate, List.set_cons_zero, List.set_cons_succ, if_true, if_false, decide_true, decide_false, Bool.false_eq_true, Bool.not_true, Bool.not_false, ↓reduceIte, l_eqL, l_neL, l_neB, is_i, is_b, is_n, is_s, is_t, k_ii, k_ib, k_bi, k_bb, k_ni, k_si, k_li, k_ll, k_tt, newT_0, newT_1, newT_2, newT_3, newT_4, newT_5, ixT_0, ixT_1, ixT_2, ixT_3, ixT_4, l_notN, l_isN, isNon_i, isNon_n, isNon_t, isNon_r, String.reduceEq, reduceCtorEq, in_l2, in_l3, Bool.or_false, Bool.false_or, Bool.or_true, Bool.true_or, Bool.and_true, Bool.true_and, Bool.and_false, Bool.false_and, l_mod (show (12 : Int) ≠ 0 by decide), l_mod (show (2147483647 : Int) ≠ 0 by decide), l_mod hb, l_mod hs, l_mod (show (6 : Int) ≠ 0 by decide), l_div (show (12 : Int) ≠ 0 by decide) (by decide), l_div (show (9 : Int) ≠ 0 by decide) (by decide), l_div (show (81 : Int) ≠ 0 by decide) (by decide), l_div (show (486 : Int) ≠ 0 by decide) (by decide), l_div (show (2916 : Int) ≠ 0 by decide) (by decide), l_mul (mulC_r (a := c.fdiv 12) (b := 48271) (by decide) (by decide))]
  have qk := fmod_range c 12 (by decide)
  generalize c.fmod 12 = k at qk
  generalize ((c.fdiv 12) * 48271).fmod 2147483647 = more
  by_cases h5 : k < 5
  · simp only [decide_eq_true h5, if_true]
    rw [bnd_new _ _ _ (small (by simp))]
    have q := fmod_range (more.fdiv 486) 6 (by decide)
    generalize (more.fdiv 486).fmod 6 = d at q
    have : d = 0 ∨ d = 1 ∨ d = 2 ∨ d = 3 ∨ d = 4 ∨ d = 5 := by omega
    rcases this with rfl | rfl | rfl | rfl | rfl | rfl <;>
    · rw [bnd_ok (ix_ref (get_new _ _) (by rfl))]
      try simp only [bnd_pur, bnd_exx, bnd_nop, bnd_assoc, bnd_ite, eVar_0, eVar_s, eC_ap, gN_ap, eOp_ap, eUn_ap, eT_ap, eTru_ap, tAndM_ap, tOrM_ap, tNotM_ap, eIf_ap, sSeq_ap, sIf_ap, sRet_ap, sNext_ap, sExpr_ap, sAsg_ap, eCall_ap, eCallB_ap, aNil_ap, aCons_ap, eTup_ap, eLst_ap, eIs_ap, eAnd_ap, eOr_ap, eNot_ap, eChain_ap, eMeth_ap, fEnd_rt, fEnd_nx, fM_1, fM_2, fM_3, fM_4, l_add, l_sub, l_neg, l_lt, l_le, l_gt, l_ge, l_int, l_intb, l_abs, l_max, l_min, l_tb, l_truB, l_truI, l_truT, l_eqI, l_neI, lift_ret, pur_ap, exx_ap, ite_ap, Nat.reduceSub, List.reduceReplicate, List.set_cons_zero, List.set_cons_succ, if_true, if_false, decide_true, decide_false, Bool.false_eq_true, Bool.not_true, Bool.not_false, ↓reduceIte, l_eqL, l_neL, l_neB, is_i, is_b, is_n, is_s, is_t, k_ii, k_ib, k_bi, k_bb, k_ni, k_si, k_li, k_ll, k_tt, newT_0, newT_1, newT_2, newT_3, newT_4, newT_5, ixT_0, ixT_1, ixT_2, ixT_3, ixT_4, l_notN, l_isN, isNon_i, isNon_n, isNon_t, isNon_r, String.reduceEq, reduceCtorEq, in_l2, in_l3, Bool.or_false, Bool.false_or, Bool.or_true, Bool.true_or, Bool.and_true, Bool.true_and, Bool.and_false, Bool.false_and]
      exact ⟨.dd _ _ (so _) _ _, _, rfl, Ex.one _ _⟩
  · simp only [decide_eq_false h5, Bool.false_eq_true, if_false]
    obtain ⟨v, ph1, e1, x1⟩ := number_by (more.fdiv 9) ph
    rw [bnd_ok e1]
    try simp only [bnd_pur, bnd_exx, bnd_nop, bnd_assoc, bnd_ite, eVar_0, eVar_s, eC_ap, gN_ap, eOp_ap, eUn_ap, eT_ap, eTru_ap, tAndM_ap, tOrM_ap, tNotM_ap, eIf_ap, sSeq_ap, sIf_ap, sRet_ap, sNext_ap, sExpr_ap, sAsg_ap, eCall_ap, eCallB_ap, aNil_ap, aCons_ap, eTup_ap, eLst_ap, eIs_ap, eAnd_ap, eOr_ap, eNot_ap, eChain_ap, eMeth_ap, fEnd_rt, fEnd_nx, fM_1, fM_2, fM_3, fM_4, l_add, l_sub, l_neg, l_lt, l_le, l_gt, l_ge, l_int, l_intb, l_abs, l_max, l_min, l_tb, l_truB, l_truI, l_truT, l_eqI, l_neI, lift_ret, pur_ap, exx_ap, ite_ap, Nat.reduceSub, List.reduceReplicate, List.set_cons_zero, List.set_cons_succ, if_true, if_false, decide_true, decide_false, Bool.false_eq_true, Bool.not_true, Bool.not_false, ↓reduceIte, l_eqL, l_neL, l_neB, is_i, is_b, is_n, is_s, is_t, k_ii, k_ib, k_bi, k_bb, k_ni, k_si, k_li, k_ll, k_tt, newT_0, newT_1, newT_2, newT_3, newT_4, newT_5, ixT_0, ixT_1, ixT_2, ixT_3, ixT_4, l_notN, l_isN, isNon_i, isNon_n, isNon_t, isNon_r, String.reduceEq, reduceCtorEq, in_l2, in_l3, Bool.or_false, Bool.false_or, Bool.or_true, Bool.true_or, Bool.and_true, Bool.true_and, Bool.and_false, Bool.false_and]
    rw [bnd_new _ _ _ (small (by simp))]
    try simp only [bnd_pur, bnd_exx, bnd_nop, bnd_assoc, bnd_ite, eVar_0, eVar_s, eC_ap, gN_ap, eOp_ap, eUn_ap, eT_ap, eTru_ap, tAndM_ap, tOrM_ap, tNotM_ap, eIf_ap, sSeq_ap, sIf_ap, sRet_ap, sNext_ap, sExpr_ap, sAsg_ap, eCall_ap, eCallB_ap, aNil_ap, aCons_ap, eTup_ap, eLst_ap, eIs_ap, eAnd_ap, eOr_ap, eNot_ap, eChain_ap, eMeth_ap, fEnd_rt, fEnd_nx, fM_1, fM_2, fM_3, fM_4, l_add, l_sub, l_neg, l_lt, l_le, l_gt, l_ge, l_int, l_intb, l_abs, l_max, l_min, l_tb, l_truB, l_truI, l_truT, l_eqI, l_neI, lift_ret, pur_ap, exx_ap, ite_ap, Nat.reduceSub, List.reduceReplicate, List.set_cons_zero, List.set_cons_succ, if_true, if_false, decide_true, decide_false, Bool.false_eq_true, Bool.not_true, Bool.not_false, ↓reduceIte, l_eqL, l_neL, l_neB, is_i, is_b, is_n, is_s, is_t, k_ii, k_ib, k_bi, k_bb, k_ni, k_si, k_li, k_ll, k_tt, newT_0, newT_1, newT_2, newT_3, newT_4, newT_5, ixT_0, ixT_1, ixT_2, ixT_3, ixT_4, l_notN, l_isN, isNon_i, isNon_n, isNon_t, isNon_r, String.reduceEq, reduceCtorEq, in_l2, in_l3, Bool.or_false, Bool.false_or, Bool.or_true, Bool.true_or, Bool.and_true, Bool.true_and, Bool.and_false, Bool.false_and]
    rw [bnd_new _ _ _ (small (by simp))]
    rw [bnd_ok (add_ref ((Ex.one _ _).get (get_new _ _)) (get_new _ _) (small (by simp)))]
    try simp only [bnd_pur, bnd_exx, bnd_nop, bnd_assoc, bnd_ite, eVar_0, eVar_s, eC_ap, gN_ap, eOp_ap, eUn_ap, eT_ap, eTru_ap, tAndM_ap, tOrM_ap, tNotM_ap, eIf_ap, sSeq_ap, sIf_ap, sRet_ap, sNext_ap, sExpr_ap, sAsg_ap, eCall_ap, eCallB_ap, aNil_ap, aCons_ap, eTup_ap, eLst_ap, eIs_ap, eAnd_ap, eOr_ap, eNot_ap, eChain_ap, eMeth_ap, fEnd_rt, fEnd_nx, fM_1, fM_2, fM_3, fM_4, l_add, l_sub, l_neg, l_lt, l_le, l_gt, l_ge, l_int, l_intb, l_abs, l_max, l_min, l_tb, l_truB, l_truI, l_truT, l_eqI, l_neI, lift_ret, pur_ap, exx_ap, ite_ap, Nat.reduceSub, List.reduceReplicate, List.set_cons_zero, List.set_cons_succ, if_true, if_false, decide_true, decide_false, Bool.false_eq_true, Bool.not_true, Bool.not_false, ↓reduceIte, l_eqL, l_neL, l_neB, is_i, is_b, is_n, is_s, is_t, k_ii, k_ib, k_bi, k_bb, k_ni, k_si, k_li, k_ll, k_tt, newT_0, newT_1, newT_2, newT_3, newT_4, newT_5, ixT_0, ixT_1, ixT_2, ixT_3, ixT_4, l_notN, l_isN, isNon_i, isNon_n, isNon_t, isNon_r, String.reduceEq, reduceCtorEq, in_l2, in_l3, Bool.or_false, Bool.false_or, Bool.or_true, Bool.true_or, Bool.and_true, Bool.true_and, Bool.and_false, Bool.false_and]
    have hx : Ex ph (ph1 ++ [PO.lst [Rw.W (.put (more.fmod bx) v), Rw.W (.mv (more.fmod bx) ((more.fdiv 9).fmod bx)), Rw.W (.pull (more.fmod bx) ((more.fdiv 81).fmod sl)), Rw.W (.push ((more.fdiv 81).fmod sl) (more.fmod bx))]] ++ [PO.lst [Rw.W (.take (more.fmod bx)), Rw.W (.tell (more.fmod bx)), Rw.W .turn]]) := (x1.trans (Ex.one _ _)).trans (Ex.one _ _)
    have : k = 5 ∨ k = 6 ∨ k = 7 ∨ k = 8 ∨ k = 9 ∨ k = 10 ∨ k = 11 := by omega
    rcases this with rfl | rfl | rfl | rfl | rfl | rfl | rfl
    · rw [bnd_ok (ix_ref (get_new _ _) (by rfl))]; exact ⟨.put _ _, _, rfl, hx.trans (Ex.one _ _)⟩
    · rw [bnd_ok (ix_ref (get_new _ _) (by rfl))]; exact ⟨.mv _ _, _, rfl, hx.trans (Ex.one _ _)⟩
    · rw [bnd_ok (ix_ref (get_new _ _) (by rfl))]; exact ⟨.pull _ _, _, rfl, hx.trans (Ex.one _ _)⟩
    · rw [bnd_ok (ix_ref (get_new _ _) (by rfl))]; exact ⟨.push _ _, _, rfl, hx.trans (Ex.one _ _)⟩
    · rw [bnd_ok (ix_ref (get_new _ _) (by rfl))]; exact ⟨.take _, _, rfl, hx.trans (Ex.one _ _)⟩
    · rw [bnd_ok (ix_ref (get_new _ _) (by rfl))]; exact ⟨.tell _, _, rfl, hx.trans (Ex.one _ _)⟩
    · rw [bnd_ok (ix_ref (get_new _ _) (by rfl))]; exact ⟨.turn, _, rfl, hx.trans (Ex.one _ _)⟩
end IL.K22

namespace IL.K22
open PySem L2
/-- a thing: is it a slot, its number -/
abbrev Th := Bool × Int
def rd : Rw → List Th
  | .dd _ _ _ a b => [(false, a), (false, b)]
  | .tell b => [(false, b)]
  | .mv _ b => [(false, b)]
  | .push _ b => [(false, b)]
  | .pull _ s => [(true, s)]
  | _ => []
def wr : Rw → Option Th
  | .tell _ => none
  | .turn => none
  | .push s _ => some (true, s)
  | .put b _ => some (false, b)
  | .mv b _ => some (false, b)
  | .pull b _ => some (false, b)
  | .take b => some (false, b)
  | .dd d _ _ _ _ => some (false, d)
def out : Rw → Bool
  | .take _ => true
  | .tell _ => true
  | .turn => true
  | .dd _ w _ _ _ => decide (w = "part")
  | _ => false
def kw (s : Bool) : String := if s then "slot" else "box"
/-- how the program writes a thing, how the law does -/
def tP (t : Th) : W := .tup [.str (Str.ofString (kw t.1)), .int t.2]
def tL (t : Th) : W := .tup [.bl t.1, .int t.2]
theorem read_s (r : Rw) (ph : PH) : f_things_read [r.W] ph = .ok (.ref ph.length) (ph ++ [.lst ((rd r).map tP)]) := by
  unfold f_things_read b_things_read
  cases r <;>
  · unfold Rw.W
    try simp only [bnd_pur, bnd_exx, bnd_nop, bnd_assoc, bnd_ite, eVar_0, eVar_s, eC_ap, gN_ap, eOp_ap, eUn_ap, eT_ap, eTru_ap, tAndM_ap, tOrM_ap, tNotM_ap, eIf_ap, sSeq_ap, sIf_ap, sRet_ap, sNext_ap, sExpr_ap, sAsg_ap, eCall_ap, eCallB_ap, aNil_ap, aCons_ap, eTup_ap, eLst_ap, eIs_ap, eAnd_ap, eOr_ap, eNot_ap, eChain_ap, eMeth_ap, fEnd_rt, fEnd_nx, fM_1, fM_2, fM_3, fM_4, l_add, l_sub, l_neg, l_lt, l_le, l_gt, l_ge, l_int, l_intb, l_abs, l_max, l_min, l_tb, l_truB, l_truI, l_truT, l_eqI, l_neI, lift_ret, pur_ap, exx_ap, ite_ap, Nat.reduceSub, List.reduceReplicate, List.set_cons_zero, List.set_cons_succ, if_true, if_false, decide_true, decide_false, Bool.false_eq_true, Bool.not_true, Bool.not_false, ↓reduceIte, l_eqL, l_neL, l_neB, is_i, is_b, is_n, is_s, is_t, k_ii, k_ib, k_bi, k_bb, k_ni, k_si, k_li, k_ll, k_tt, newT_0, newT_1, newT_2, newT_3, newT_4, newT_5, ixT_0, ixT_1, ixT_2, ixT_3, ixT_4, l_notN, l_isN, isNon_i, isNon_n, isNon_t, isNon_r, String.reduceEq, reduceCtorEq, in_l2, in_l3, Bool.or_false, Bool.false_or, Bool.or_true, Bool.true_or, Bool.and_true, Bool.true_and, Bool.and_false, Bool.false_and, decide_true, decide_false]
    rw [bnd_new _ _ _ (small (by simp))]
    rfl
theorem written_s (r : Rw) (ph : PH) : f_things_written [r.W] ph = .ok (.ref ph.length) (ph ++ [.lst ((wr r).toList.map tP)]) := by
  unfold f_things_written b_things_written
  cases r <;>
  · unfold Rw.W
    try simp only [bnd_pur, bnd_exx, bnd_nop, bnd_assoc, bnd_ite, eVar_0, eVar_s, eC_ap, gN_ap, eOp_ap, eUn_ap, eT_ap, eTru_ap, tAndM_ap, tOrM_ap, tNotM_ap, eIf_ap, sSeq_ap, sIf_ap, sRet_ap, sNext_ap, sExpr_ap, sAsg_ap, eCall_ap, eCallB_ap, aNil_ap, aCons_ap, eTup_ap, eLst_ap, eIs_ap, eAnd_ap, eOr_ap, eNot_ap, eChain_ap, eMeth_ap, fEnd_rt, fEnd_nx, fM_1, fM_2, fM_3, fM_4, l_add, l_sub, l_neg, l_lt, l_le, l_gt, l_ge, l_int, l_intb, l_abs, l_max, l_min, l_tb, l_truB, l_truI, l_truT, l_eqI, l_neI, lift_ret, pur_ap, exx_ap, ite_ap, Nat.reduceSub, List.reduceReplicate, List.set_cons_zero, List.set_cons_succ, if_true, if_false, decide_true, decide_false, Bool.false_eq_true, Bool.not_true, Bool.not_false, ↓reduceIte, l_eqL, l_neL, l_neB, is_i, is_b, is_n, is_s, is_t, k_ii, k_ib, k_bi, k_bb, k_ni, k_si, k_li, k_ll, k_tt, newT_0, newT_1, newT_2, newT_3, newT_4, newT_5, ixT_0, ixT_1, ixT_2, ixT_3, ixT_4, l_notN, l_isN, isNon_i, isNon_n, isNon_t, isNon_r, String.reduceEq, reduceCtorEq, in_l2, in_l3, Bool.or_false, Bool.false_or, Bool.or_true, Bool.true_or, Bool.and_true, Bool.true_and, Bool.and_false, Bool.false_and, decide_true, decide_false]
    rw [bnd_new _ _ _ (small (by simp))]
    rfl
theorem outward_s (r : Rw) (ph : PH) : f_is_outward [r.W] ph = .ok (.bl (out r)) ph := by
  unfold f_is_outward b_is_outward
  cases r with
  | dd d w hw a b =>
    unfold Rw.W
    try simp only [bnd_pur, bnd_exx, bnd_nop, bnd_assoc, bnd_ite, eVar_0, eVar_s, eC_ap, gN_ap, eOp_ap, eUn_ap, eT_ap, eTru_ap, tAndM_ap, tOrM_ap, tNotM_ap, eIf_ap, sSeq_ap, sIf_ap, sRet_ap, sNext_ap, sExpr_ap, sAsg_ap, eCall_ap, eCallB_ap, aNil_ap, aCons_ap, eTup_ap, eLst_ap, eIs_ap, eAnd_ap, eOr_ap, eNot_ap, eChain_ap, eMeth_ap, fEnd_rt, fEnd_nx, fM_1, fM_2, fM_3, fM_4, l_add, l_sub, l_neg, l_lt, l_le, l_gt, l_ge, l_int, l_intb, l_abs, l_max, l_min, l_tb, l_truB, l_truI, l_truT, l_eqI, l_neI, lift_ret, pur_ap, exx_ap, ite_ap, Nat.reduceSub, List.reduceReplicate, List.set_cons_zero, List.set_cons_succ, if_true, if_false, decide_true, decide_false, Bool.false_eq_true, Bool.not_true, Bool.not_false, ↓reduceIte, l_eqL, l_neL, l_neB, is_i, is_b, is_n, is_s, is_t, k_ii, k_ib, k_bi, k_bb, k_ni, k_si, k_li, k_ll, k_tt, newT_0, newT_1, newT_2, newT_3, newT_4, newT_5, ixT_0, ixT_1, ixT_2, ixT_3, ixT_4, l_notN, l_isN, isNon_i, isNon_n, isNon_t, isNon_r, String.reduceEq, reduceCtorEq, in_l2, in_l3, Bool.or_false, Bool.false_or, Bool.or_true, Bool.true_or, Bool.and_true, Bool.true_and, Bool.and_false, Bool.false_and, l_eqS hw (so "part")]
    rfl
  | _ =>
    unfold Rw.W
    try simp only [bnd_pur, bnd_exx, bnd_nop, bnd_assoc, bnd_ite, eVar_0, eVar_s, eC_ap, gN_ap, eOp_ap, eUn_ap, eT_ap, eTru_ap, tAndM_ap, tOrM_ap, tNotM_ap, eIf_ap, sSeq_ap, sIf_ap, sRet_ap, sNext_ap, sExpr_ap, sAsg_ap, eCall_ap, eCallB_ap, aNil_ap, aCons_ap, eTup_ap, eLst_ap, eIs_ap, eAnd_ap, eOr_ap, eNot_ap, eChain_ap, eMeth_ap, fEnd_rt, fEnd_nx, fM_1, fM_2, fM_3, fM_4, l_add, l_sub, l_neg, l_lt, l_le, l_gt, l_ge, l_int, l_intb, l_abs, l_max, l_min, l_tb, l_truB, l_truI, l_truT, l_eqI, l_neI, lift_ret, pur_ap, exx_ap, ite_ap, Nat.reduceSub, List.reduceReplicate, List.set_cons_zero, List.set_cons_succ, if_true, if_false, decide_true, decide_false, Bool.false_eq_true, Bool.not_true, Bool.not_false, ↓reduceIte, l_eqL, l_neL, l_neB, is_i, is_b, is_n, is_s, is_t, k_ii, k_ib, k_bi, k_bb, k_ni, k_si, k_li, k_ll, k_tt, newT_0, newT_1, newT_2, newT_3, newT_4, newT_5, ixT_0, ixT_1, ixT_2, ixT_3, ixT_4, l_notN, l_isN, isNon_i, isNon_n, isNon_t, isNon_r, String.reduceEq, reduceCtorEq, in_l2, in_l3, Bool.or_false, Bool.false_or, Bool.or_true, Bool.true_or, Bool.and_true, Bool.true_and, Bool.and_false, Bool.false_and]
    try rfl
theorem ispart_s (r : Rw) (ph : PH) : f_law_is_part [r.W] ph = .ok (.bl (match r with | .dd _ w _ _ _ => decide (w = "part") | _ => false)) ph := by
  unfold f_law_is_part b_law_is_part
  cases r with
  | dd d w hw a b =>
    unfold Rw.W
    try simp only [bnd_pur, bnd_exx, bnd_nop, bnd_assoc, bnd_ite, eVar_0, eVar_s, eC_ap, gN_ap, eOp_ap, eUn_ap, eT_ap, eTru_ap, tAndM_ap, tOrM_ap, tNotM_ap, eIf_ap, sSeq_ap, sIf_ap, sRet_ap, sNext_ap, sExpr_ap, sAsg_ap, eCall_ap, eCallB_ap, aNil_ap, aCons_ap, eTup_ap, eLst_ap, eIs_ap, eAnd_ap, eOr_ap, eNot_ap, eChain_ap, eMeth_ap, fEnd_rt, fEnd_nx, fM_1, fM_2, fM_3, fM_4, l_add, l_sub, l_neg, l_lt, l_le, l_gt, l_ge, l_int, l_intb, l_abs, l_max, l_min, l_tb, l_truB, l_truI, l_truT, l_eqI, l_neI, lift_ret, pur_ap, exx_ap, ite_ap, Nat.reduceSub, List.reduceReplicate, List.set_cons_zero, List.set_cons_succ, if_true, if_false, decide_true, decide_false, Bool.false_eq_true, Bool.not_true, Bool.not_false, ↓reduceIte, l_eqL, l_neL, l_neB, is_i, is_b, is_n, is_s, is_t, k_ii, k_ib, k_bi, k_bb, k_ni, k_si, k_li, k_ll, k_tt, newT_0, newT_1, newT_2, newT_3, newT_4, newT_5, ixT_0, ixT_1, ixT_2, ixT_3, ixT_4, l_notN, l_isN, isNon_i, isNon_n, isNon_t, isNon_r, String.reduceEq, reduceCtorEq, in_l2, in_l3, Bool.or_false, Bool.false_or, Bool.or_true, Bool.true_or, Bool.and_true, Bool.true_and, Bool.and_false, Bool.false_and, l_eqS hw (so "part")]
    try rfl
  | _ =>
    unfold Rw.W
    try simp only [bnd_pur, bnd_exx, bnd_nop, bnd_assoc, bnd_ite, eVar_0, eVar_s, eC_ap, gN_ap, eOp_ap, eUn_ap, eT_ap, eTru_ap, tAndM_ap, tOrM_ap, tNotM_ap, eIf_ap, sSeq_ap, sIf_ap, sRet_ap, sNext_ap, sExpr_ap, sAsg_ap, eCall_ap, eCallB_ap, aNil_ap, aCons_ap, eTup_ap, eLst_ap, eIs_ap, eAnd_ap, eOr_ap, eNot_ap, eChain_ap, eMeth_ap, fEnd_rt, fEnd_nx, fM_1, fM_2, fM_3, fM_4, l_add, l_sub, l_neg, l_lt, l_le, l_gt, l_ge, l_int, l_intb, l_abs, l_max, l_min, l_tb, l_truB, l_truI, l_truT, l_eqI, l_neI, lift_ret, pur_ap, exx_ap, ite_ap, Nat.reduceSub, List.reduceReplicate, List.set_cons_zero, List.set_cons_succ, if_true, if_false, decide_true, decide_false, Bool.false_eq_true, Bool.not_true, Bool.not_false, ↓reduceIte, l_eqL, l_neL, l_neB, is_i, is_b, is_n, is_s, is_t, k_ii, k_ib, k_bi, k_bb, k_ni, k_si, k_li, k_ll, k_tt, newT_0, newT_1, newT_2, newT_3, newT_4, newT_5, ixT_0, ixT_1, ixT_2, ixT_3, ixT_4, l_notN, l_isN, isNon_i, isNon_n, isNon_t, isNon_r, String.reduceEq, reduceCtorEq, in_l2, in_l3, Bool.or_false, Bool.false_or, Bool.or_true, Bool.true_or, Bool.and_true, Bool.true_and, Bool.and_false, Bool.false_and]
    try rfl
theorem writes_s (r : Rw) (ph : PH) : f_law_writes [r.W] ph = .ok (match wr r with | none => .non | some t => tL t) ph := by
  unfold f_law_writes b_law_writes
  cases r <;>
  · unfold Rw.W
    try simp only [bnd_pur, bnd_exx, bnd_nop, bnd_assoc, bnd_ite, eVar_0, eVar_s, eC_ap, gN_ap, eOp_ap, eUn_ap, eT_ap, eTru_ap, tAndM_ap, tOrM_ap, tNotM_ap, eIf_ap, sSeq_ap, sIf_ap, sRet_ap, sNext_ap, sExpr_ap, sAsg_ap, eCall_ap, eCallB_ap, aNil_ap, aCons_ap, eTup_ap, eLst_ap, eIs_ap, eAnd_ap, eOr_ap, eNot_ap, eChain_ap, eMeth_ap, fEnd_rt, fEnd_nx, fM_1, fM_2, fM_3, fM_4, l_add, l_sub, l_neg, l_lt, l_le, l_gt, l_ge, l_int, l_intb, l_abs, l_max, l_min, l_tb, l_truB, l_truI, l_truT, l_eqI, l_neI, lift_ret, pur_ap, exx_ap, ite_ap, Nat.reduceSub, List.reduceReplicate, List.set_cons_zero, List.set_cons_succ, if_true, if_false, decide_true, decide_false, Bool.false_eq_true, Bool.not_true, Bool.not_false, ↓reduceIte, l_eqL, l_neL, l_neB, is_i, is_b, is_n, is_s, is_t, k_ii, k_ib, k_bi, k_bb, k_ni, k_si, k_li, k_ll, k_tt, newT_0, newT_1, newT_2, newT_3, newT_4, newT_5, ixT_0, ixT_1, ixT_2, ixT_3, ixT_4, l_notN, l_isN, isNon_i, isNon_n, isNon_t, isNon_r, String.reduceEq, reduceCtorEq, in_l2, in_l3, Bool.or_false, Bool.false_or, Bool.or_true, Bool.true_or, Bool.and_true, Bool.true_and, Bool.and_false, Bool.false_and]
    try rfl
theorem reads_s (r : Rw) (ph : PH) : f_law_reads [r.W] ph = .ok (.ref ph.length) (ph ++ [.lst ((rd r).map tL)]) := by
  unfold f_law_reads b_law_reads
  cases r <;>
  · unfold Rw.W
    try simp only [bnd_pur, bnd_exx, bnd_nop, bnd_assoc, bnd_ite, eVar_0, eVar_s, eC_ap, gN_ap, eOp_ap, eUn_ap, eT_ap, eTru_ap, tAndM_ap, tOrM_ap, tNotM_ap, eIf_ap, sSeq_ap, sIf_ap, sRet_ap, sNext_ap, sExpr_ap, sAsg_ap, eCall_ap, eCallB_ap, aNil_ap, aCons_ap, eTup_ap, eLst_ap, eIs_ap, eAnd_ap, eOr_ap, eNot_ap, eChain_ap, eMeth_ap, fEnd_rt, fEnd_nx, fM_1, fM_2, fM_3, fM_4, l_add, l_sub, l_neg, l_lt, l_le, l_gt, l_ge, l_int, l_intb, l_abs, l_max, l_min, l_tb, l_truB, l_truI, l_truT, l_eqI, l_neI, lift_ret, pur_ap, exx_ap, ite_ap, Nat.reduceSub, List.reduceReplicate, List.set_cons_zero, List.set_cons_succ, if_true, if_false, decide_true, decide_false, Bool.false_eq_true, Bool.not_true, Bool.not_false, ↓reduceIte, l_eqL, l_neL, l_neB, is_i, is_b, is_n, is_s, is_t, k_ii, k_ib, k_bi, k_bb, k_ni, k_si, k_li, k_ll, k_tt, newT_0, newT_1, newT_2, newT_3, newT_4, newT_5, ixT_0, ixT_1, ixT_2, ixT_3, ixT_4, l_notN, l_isN, isNon_i, isNon_n, isNon_t, isNon_r, String.reduceEq, reduceCtorEq, in_l2, in_l3, Bool.or_false, Bool.false_or, Bool.or_true, Bool.true_or, Bool.and_true, Bool.true_and, Bool.and_false, Bool.false_and, decide_true, decide_false]
    rw [bnd_new _ _ _ (small (by simp))]
    rfl
/-! things, compared -/
def dP (t : Th) : PyData := .tuple [.str (Str.ofString (kw t.1)), .int t.2]
def dL (t : Th) : PyData := .tuple [.bool t.1, .int t.2]
theorem dat_P (ph : PH) (n : Nat) (t : Th) : dat ph (n + 1) (tP t) = some (dP t) := by
  unfold tP dP
  simp only [dat, mapO, so, if_true, Option.map_some]
theorem dat_L (ph : PH) (n : Nat) (t : Th) : dat ph (n + 1) (tL t) = some (dL t) := by
  unfold tL dL
  simp only [dat, mapO, Option.map_some]
theorem kw_inj {a b : Bool} : kw a = kw b ↔ a = b := by
  cases a <;> cases b <;> decide
theorem eqv_P (t u : Th) : PyData.eqv (dP t) (dP u) = decide (t = u) := by
  obtain ⟨a, i⟩ := t
  obtain ⟨b, j⟩ := u
  unfold dP
  rw [eqv_t2, eqv_s, eqv_i, ← Bool.decide_and]
  simp only [os_inj, kw_inj, Prod.mk.injEq]
theorem eqv_L (t u : Th) : PyData.eqv (dL t) (dL u) = decide (t = u) := by
  obtain ⟨a, i⟩ := t
  obtain ⟨b, j⟩ := u
  unfold dL
  rw [eqv_t2, eqv_b, eqv_i, ← Bool.decide_and]
  simp only [Prod.mk.injEq]
theorem any_mem (ts : List Th) (t : Th) : (ts.any fun u => decide (u = t)) = decide (t ∈ ts) := by
  rw [Bool.eq_iff_iff, List.any_eq_true, decide_eq_true_eq]
  constructor
  · rintro ⟨u, hu, e⟩
    rw [← of_decide_eq_true e]; exact hu
  · intro h
    exact ⟨t, h, decide_eq_true rfl⟩
theorem in_P {ph : PH} {i : Nat} {ts : List Th} (h : ph[i]? = some (.lst (ts.map tP))) (t : Th) : lift (inW (tP t) (.ref i)) ph = .ok (.bl (decide (t ∈ ts))) ph := by
  rw [in_ref h (mapO_map _ _ dP (fun a => dat_P _ _ a) ts) (dat_P _ _ t), List.any_map]
  simp only [Function.comp_def, eqv_P, any_mem]
theorem in_L {ph : PH} {i : Nat} {ts : List Th} (h : ph[i]? = some (.lst (ts.map tL))) (t : Th) : lift (inW (tL t) (.ref i)) ph = .ok (.bl (decide (t ∈ ts))) ph := by
  rw [in_ref h (mapO_map _ _ dL (fun a => dat_L _ _ a) ts) (dat_L _ _ t), List.any_map]
  simp only [Function.comp_def, eqv_L, any_mem]
theorem eq_L (t u : Th) : lift (eqW (tL t) (tL u)) = pur (.bl (decide (t = u))) := by
  funext ph
  unfold lift eqW eqD
  simp only [dat_L, Option.map_some, eqv_L]
  rfl
theorem eq_Ln (t : Th) : lift (eqW (tL t) .non) = pur (.bl false) := by
  funext ph
  unfold lift eqW eqD
  simp only [dat_L, dat, Option.map_some, dL, PyData.eqv]
  rfl
end IL.K22

namespace IL.K22
open PySem L2
theorem cT_ap (σ : PSt) (ph : PH) : cTrue σ ph = .ok true ph := rfl
theorem share_s {ph : PH} {i j : Nat} {as bs : List Th} (hi : ph[i]? = some (.lst (as.map tP))) (hj : ph[j]? = some (.lst (bs.map tP))) (hz : as.length ≤ 1000) :
    ∃ ph', f_share [.ref i, .ref j] ph = .ok (.bl (as.any fun a => decide (a ∈ bs))) ph' ∧ Ex ph ph' := by
  unfold f_share b_share
  try simp only [bnd_pur, bnd_exx, bnd_nop, bnd_assoc, bnd_ite, eVar_0, eVar_s, eC_ap, gN_ap, eOp_ap, eUn_ap, eT_ap, eTru_ap, tAndM_ap, tOrM_ap, tNotM_ap, eIf_ap, sSeq_ap, sIf_ap, sRet_ap, sNext_ap, sExpr_ap, sAsg_ap, eCall_ap, eCallB_ap, aNil_ap, aCons_ap, eTup_ap, eLst_ap, eIs_ap, eAnd_ap, eOr_ap, eNot_ap, eChain_ap, eMeth_ap, fEnd_rt, fEnd_nx, fM_1, fM_2, fM_3, fM_4, l_add, l_sub, l_neg, l_lt, l_le, l_gt, l_ge, l_int, l_intb, l_abs, l_max, l_min, l_tb, l_truB, l_truI, l_truT, l_eqI, l_neI, lift_ret, pur_ap, exx_ap, ite_ap, Nat.reduceSub, List.reduceReplicate, List.set_cons_zero, List.set_cons_succ, if_true, if_false, decide_true, decide_false, Bool.false_eq_true, Bool.not_true, Bool.not_false, ↓reduceIte, l_eqL, l_neL, l_neB, is_i, is_b, is_n, is_s, is_t, k_ii, k_ib, k_bi, k_bb, k_ni, k_si, k_li, k_ll, k_tt, newT_0, newT_1, newT_2, newT_3, newT_4, newT_5, ixT_0, ixT_1, ixT_2, ixT_3, ixT_4, l_notN, l_isN, isNon_i, isNon_n, isNon_t, isNon_r, String.reduceEq, reduceCtorEq, in_l2, in_l3, Bool.or_false, Bool.false_or, Bool.or_true, Bool.true_or, Bool.and_true, Bool.true_and, Bool.and_false, Bool.false_and]
  obtain ⟨ph', e, x⟩ := comp_run (σ := [some (W.ref i), some (W.ref j)]) (cap := [none, some 1]) (g := gN 0) (c := cTrue) (e := eOp inW (eVar 0) (eVar 1)) as tP (iBoth_ref (m := eVar 0) (show eVar 0 [some (W.ref i), some (W.ref j)] ph = .ok (.ref i) ph from rfl) hi)
    (fun ph' x => decide_eq_true (x.get hi)) (small (by omega)) (fun a => some (.bl (decide (a ∈ bs)))) (fun σ => ∃ y, σ = [y, some (W.ref j)]) ⟨none, rfl⟩
    (fun a ha σ H hS hE => by
      obtain ⟨y, rfl⟩ := hS
      refine ⟨_, rfl, ⟨_, rfl⟩, true, H, rfl, Ex.refl _, .inr ⟨rfl, .bl (decide (a ∈ bs)), H, ?_, Ex.refl _, rfl⟩⟩
      show eOp inW (eVar 0) (eVar 1) [some (tP a), some (W.ref j)] H = _
      try simp only [bnd_pur, bnd_exx, bnd_nop, bnd_assoc, bnd_ite, eVar_0, eVar_s, eC_ap, gN_ap, eOp_ap, eUn_ap, eT_ap, eTru_ap, tAndM_ap, tOrM_ap, tNotM_ap, eIf_ap, sSeq_ap, sIf_ap, sRet_ap, sNext_ap, sExpr_ap, sAsg_ap, eCall_ap, eCallB_ap, aNil_ap, aCons_ap, eTup_ap, eLst_ap, eIs_ap, eAnd_ap, eOr_ap, eNot_ap, eChain_ap, eMeth_ap, fEnd_rt, fEnd_nx, fM_1, fM_2, fM_3, fM_4, l_add, l_sub, l_neg, l_lt, l_le, l_gt, l_ge, l_int, l_intb, l_abs, l_max, l_min, l_tb, l_truB, l_truI, l_truT, l_eqI, l_neI, lift_ret, pur_ap, exx_ap, ite_ap, Nat.reduceSub, List.reduceReplicate, List.set_cons_zero, List.set_cons_succ, if_true, if_false, decide_true, decide_false, Bool.false_eq_true, Bool.not_true, Bool.not_false, ↓reduceIte, l_eqL, l_neL, l_neB, is_i, is_b, is_n, is_s, is_t, k_ii, k_ib, k_bi, k_bb, k_ni, k_si, k_li, k_ll, k_tt, newT_0, newT_1, newT_2, newT_3, newT_4, newT_5, ixT_0, ixT_1, ixT_2, ixT_3, ixT_4, l_notN, l_isN, isNon_i, isNon_n, isNon_t, isNon_r, String.reduceEq, reduceCtorEq, in_l2, in_l3, Bool.or_false, Bool.false_or, Bool.or_true, Bool.true_or, Bool.and_true, Bool.true_and, Bool.and_false, Bool.false_and]
      exact in_P (hE.get hj) a)
  rw [bnd_ok e]
  have e2 : as.filterMap (fun a => some (W.bl (decide (a ∈ bs)))) = (as.map fun a => decide (a ∈ bs)).map W.bl := by
    rw [fm_some, List.map_map]; rfl
  rw [e2] at x
  rw [bnd_ok (any_ref (x.get (get_new _ _)))]
  refine ⟨ph', ?_, (Ex.one _ _).trans x⟩
  rw [List.any_map]
  rfl
def bd (a b : Rw) : Bool := (out a && out b) || ((wr a).toList.any fun t => decide (t ∈ rd b ++ (wr b).toList)) || ((wr b).toList.any fun t => decide (t ∈ rd a))
theorem rd_len (r : Rw) : (rd r).length ≤ 2 := by cases r <;> simp [rd]
theorem wr_len (r : Rw) : (wr r).toList.length ≤ 1 := by cases r <;> simp [wr]
theorem bound_s (a b : Rw) (ph : PH) : ∃ ph', f_are_bound [a.W, b.W] ph = .ok (.bl (bd a b)) ph' ∧ Ex ph ph' := by
  unfold f_are_bound b_are_bound
  have rb := rd_len b
  have wb := wr_len b
  have wa := wr_len a
  -- the last question
  have last : ∀ ph, ∃ ph', bnd (f_things_written [b.W]) (fun x => bnd (f_things_read [a.W]) fun y => bnd (f_share [x, y]) fun w => pur w) ph = .ok (.bl ((wr b).toList.any fun t => decide (t ∈ rd a))) ph' ∧ Ex ph ph' := fun ph => by
    rw [bnd_ok (written_s b ph), bnd_ok (read_s a _)]
    obtain ⟨ph', e, x⟩ := share_s (ph := ph ++ [.lst ((wr b).toList.map tP)] ++ [.lst ((rd a).map tP)]) ((Ex.one _ _).get (get_new _ _)) (get_new _ _) (by omega)
    rw [bnd_ok e]
    exact ⟨ph', rfl, ((Ex.one _ _).trans (Ex.one _ _)).trans x⟩
  have mid : ∀ ph, ∃ ph', bnd (f_things_written [a.W]) (fun x => bnd (f_things_read [b.W]) fun y => bnd (f_things_written [b.W]) fun z => bnd (lift (addW y z)) fun u => f_share [x, u]) ph = .ok (.bl ((wr a).toList.any fun t => decide (t ∈ rd b ++ (wr b).toList))) ph' ∧ Ex ph ph' := fun ph => by
    rw [bnd_ok (written_s a ph), bnd_ok (read_s b _), bnd_ok (written_s b _), bnd_ok (add_ref ((Ex.one _ _).get (get_new _ _)) (get_new _ _) (small (by simp; omega)))]
    rw [← List.map_append]
    obtain ⟨ph', e, x⟩ := share_s (ph := ph ++ [.lst ((wr a).toList.map tP)] ++ [.lst ((rd b).map tP)] ++ [.lst ((wr b).toList.map tP)] ++ [.lst ((rd b ++ (wr b).toList).map tP)]) (as := (wr a).toList) (bs := rd b ++ (wr b).toList) (i := ph.length) (((Ex.one _ _).trans (Ex.one _ _)).trans (Ex.one _ _) |>.get (get_new _ _)) (get_new _ _) (by omega)
    exact ⟨ph', e, (((Ex.one _ _).trans (Ex.one _ _)).trans (Ex.one _ _)).trans (Ex.one _ _) |>.trans x⟩
  have rest : ∀ ph, ∃ ph', bnd (bnd (f_things_written [a.W]) (fun x => bnd (f_things_read [b.W]) fun y => bnd (f_things_written [b.W]) fun z => bnd (lift (addW y z)) fun u => f_share [x, u])) (fun v => bnd (lift (truW v)) fun c => if c = true then pur (W.bl true) else bnd (f_things_written [b.W]) (fun x => bnd (f_things_read [a.W]) fun y => bnd (f_share [x, y]) fun w => pur w)) ph = .ok (.bl (((wr a).toList.any fun t => decide (t ∈ rd b ++ (wr b).toList)) || ((wr b).toList.any fun t => decide (t ∈ rd a)))) ph' ∧ Ex ph ph' := fun ph => by
    obtain ⟨p1, e1, x1⟩ := mid ph
    rw [bnd_ok e1, l_truB, bnd_pur]
    cases (wr a).toList.any fun t => decide (t ∈ rd b ++ (wr b).toList) with
    | true => exact ⟨p1, rfl, x1⟩
    | false =>
      obtain ⟨p2, e2, x2⟩ := last p1
      exact ⟨p2, e2, x1.trans x2⟩
  obtain ⟨p, e, x⟩ := rest ph
  simp only [bnd_pur, bnd_exx, bnd_nop, bnd_assoc, bnd_ite, eVar_0, eVar_s, eC_ap, gN_ap, eOp_ap, eUn_ap, eT_ap, eTru_ap, tAndM_ap, tOrM_ap, tNotM_ap, eIf_ap, sSeq_ap, sIf_ap, sRet_ap, sNext_ap, sExpr_ap, sAsg_ap, eCall_ap, eCallB_ap, aNil_ap, aCons_ap, eTup_ap, eLst_ap, eIs_ap, eAnd_ap, eOr_ap, eNot_ap, eChain_ap, eMeth_ap, fEnd_rt, fEnd_nx, fM_1, fM_2, fM_3, fM_4, l_add, l_sub, l_neg, l_lt, l_le, l_gt, l_ge, l_int, l_intb, l_abs, l_max, l_min, l_tb, l_truB, l_truI, l_truT, l_eqI, l_neI, lift_ret, pur_ap, exx_ap, ite_ap, Nat.reduceSub, List.reduceReplicate, List.set_cons_zero, List.set_cons_succ, if_true, if_false, decide_true, decide_false, Bool.false_eq_true, Bool.not_true, Bool.not_false, ↓reduceIte, l_eqL, l_neL, l_neB, is_i, is_b, is_n, is_s, is_t, k_ii, k_ib, k_bi, k_bb, k_ni, k_si, k_li, k_ll, k_tt, newT_0, newT_1, newT_2, newT_3, newT_4, newT_5, ixT_0, ixT_1, ixT_2, ixT_3, ixT_4, l_notN, l_isN, isNon_i, isNon_n, isNon_t, isNon_r, String.reduceEq, reduceCtorEq, in_l2, in_l3, Bool.or_false, Bool.false_or, Bool.or_true, Bool.true_or, Bool.and_true, Bool.true_and, Bool.and_false, Bool.false_and] at e
  unfold bd
  try simp only [bnd_pur, bnd_exx, bnd_nop, bnd_assoc, bnd_ite, eVar_0, eVar_s, eC_ap, gN_ap, eOp_ap, eUn_ap, eT_ap, eTru_ap, tAndM_ap, tOrM_ap, tNotM_ap, eIf_ap, sSeq_ap, sIf_ap, sRet_ap, sNext_ap, sExpr_ap, sAsg_ap, eCall_ap, eCallB_ap, aNil_ap, aCons_ap, eTup_ap, eLst_ap, eIs_ap, eAnd_ap, eOr_ap, eNot_ap, eChain_ap, eMeth_ap, fEnd_rt, fEnd_nx, fM_1, fM_2, fM_3, fM_4, l_add, l_sub, l_neg, l_lt, l_le, l_gt, l_ge, l_int, l_intb, l_abs, l_max, l_min, l_tb, l_truB, l_truI, l_truT, l_eqI, l_neI, lift_ret, pur_ap, exx_ap, ite_ap, Nat.reduceSub, List.reduceReplicate, List.set_cons_zero, List.set_cons_succ, if_true, if_false, decide_true, decide_false, Bool.false_eq_true, Bool.not_true, Bool.not_false, ↓reduceIte, l_eqL, l_neL, l_neB, is_i, is_b, is_n, is_s, is_t, k_ii, k_ib, k_bi, k_bb, k_ni, k_si, k_li, k_ll, k_tt, newT_0, newT_1, newT_2, newT_3, newT_4, newT_5, ixT_0, ixT_1, ixT_2, ixT_3, ixT_4, l_notN, l_isN, isNon_i, isNon_n, isNon_t, isNon_r, String.reduceEq, reduceCtorEq, in_l2, in_l3, Bool.or_false, Bool.false_or, Bool.or_true, Bool.true_or, Bool.and_true, Bool.true_and, Bool.and_false, Bool.false_and]
  rw [bnd_ok (outward_s a ph)]
  try simp only [bnd_pur, bnd_exx, bnd_nop, bnd_assoc, bnd_ite, eVar_0, eVar_s, eC_ap, gN_ap, eOp_ap, eUn_ap, eT_ap, eTru_ap, tAndM_ap, tOrM_ap, tNotM_ap, eIf_ap, sSeq_ap, sIf_ap, sRet_ap, sNext_ap, sExpr_ap, sAsg_ap, eCall_ap, eCallB_ap, aNil_ap, aCons_ap, eTup_ap, eLst_ap, eIs_ap, eAnd_ap, eOr_ap, eNot_ap, eChain_ap, eMeth_ap, fEnd_rt, fEnd_nx, fM_1, fM_2, fM_3, fM_4, l_add, l_sub, l_neg, l_lt, l_le, l_gt, l_ge, l_int, l_intb, l_abs, l_max, l_min, l_tb, l_truB, l_truI, l_truT, l_eqI, l_neI, lift_ret, pur_ap, exx_ap, ite_ap, Nat.reduceSub, List.reduceReplicate, List.set_cons_zero, List.set_cons_succ, if_true, if_false, decide_true, decide_false, Bool.false_eq_true, Bool.not_true, Bool.not_false, ↓reduceIte, l_eqL, l_neL, l_neB, is_i, is_b, is_n, is_s, is_t, k_ii, k_ib, k_bi, k_bb, k_ni, k_si, k_li, k_ll, k_tt, newT_0, newT_1, newT_2, newT_3, newT_4, newT_5, ixT_0, ixT_1, ixT_2, ixT_3, ixT_4, l_notN, l_isN, isNon_i, isNon_n, isNon_t, isNon_r, String.reduceEq, reduceCtorEq, in_l2, in_l3, Bool.or_false, Bool.false_or, Bool.or_true, Bool.true_or, Bool.and_true, Bool.true_and, Bool.and_false, Bool.false_and]
  cases oa : out a with
  | false =>
    simp only [Bool.false_eq_true, if_false, Bool.false_and, Bool.false_or]
    exact ⟨p, e, x⟩
  | true =>
    simp only [if_true, Bool.true_and]
    rw [bnd_ok (outward_s b ph)]
    try simp only [bnd_pur, bnd_exx, bnd_nop, bnd_assoc, bnd_ite, eVar_0, eVar_s, eC_ap, gN_ap, eOp_ap, eUn_ap, eT_ap, eTru_ap, tAndM_ap, tOrM_ap, tNotM_ap, eIf_ap, sSeq_ap, sIf_ap, sRet_ap, sNext_ap, sExpr_ap, sAsg_ap, eCall_ap, eCallB_ap, aNil_ap, aCons_ap, eTup_ap, eLst_ap, eIs_ap, eAnd_ap, eOr_ap, eNot_ap, eChain_ap, eMeth_ap, fEnd_rt, fEnd_nx, fM_1, fM_2, fM_3, fM_4, l_add, l_sub, l_neg, l_lt, l_le, l_gt, l_ge, l_int, l_intb, l_abs, l_max, l_min, l_tb, l_truB, l_truI, l_truT, l_eqI, l_neI, lift_ret, pur_ap, exx_ap, ite_ap, Nat.reduceSub, List.reduceReplicate, List.set_cons_zero, List.set_cons_succ, if_true, if_false, decide_true, decide_false, Bool.false_eq_true, Bool.not_true, Bool.not_false, ↓reduceIte, l_eqL, l_neL, l_neB, is_i, is_b, is_n, is_s, is_t, k_ii, k_ib, k_bi, k_bb, k_ni, k_si, k_li, k_ll, k_tt, newT_0, newT_1, newT_2, newT_3, newT_4, newT_5, ixT_0, ixT_1, ixT_2, ixT_3, ixT_4, l_notN, l_isN, isNon_i, isNon_n, isNon_t, isNon_r, String.reduceEq, reduceCtorEq, in_l2, in_l3, Bool.or_false, Bool.false_or, Bool.or_true, Bool.true_or, Bool.and_true, Bool.true_and, Bool.and_false, Bool.false_and]
    cases ob : out b with
    | false =>
      simp only [Bool.false_eq_true, if_false, Bool.false_or]
      exact ⟨p, e, x⟩
    | true => exact ⟨ph, rfl, Ex.refl _⟩
end IL.K22

namespace IL.K22
open PySem L2
def hd : Rw → String
  | .put _ _ => "put" | .mv _ _ => "move" | .pull _ _ => "pull" | .push _ _ => "push" | .take _ => "take" | .tell _ => "tell" | .turn => "turn" | .dd _ _ _ _ _ => "do"
theorem ix_hd (r : Rw) : lift (ixW r.W (.int 0)) = pur (.str (Str.ofString (hd r))) := by
  cases r <;> exact ixT_0 _ _
def o3 (r : Rw) : Bool := decide ("take" = hd r) || (decide ("tell" = hd r) || decide ("turn" = hd r))
theorem in3 (r : Rw) : lift (inW (.str (Str.ofString (hd r))) (.tup [.str (Str.ofString "take"), .str (Str.ofString "tell"), .str (Str.ofString "turn")])) = pur (.bl (o3 r)) := in_l3 _ _ _ _
def pt (r : Rw) : Bool := match r with | .dd _ w _ _ _ => decide (w = "part") | _ => false
theorem ispart_s' (r : Rw) (ph : PH) : f_law_is_part [r.W] ph = .ok (.bl (pt r)) ph := ispart_s r ph
theorem out_eq (r : Rw) : out r = (o3 r || pt r) := by
  cases r <;> simp [out, o3, pt, hd]
theorem writes_n {r : Rw} (h : wr r = none) (ph : PH) : f_law_writes [r.W] ph = .ok .non ph := by rw [writes_s, h]
theorem writes_t {r : Rw} {t : Th} (h : wr r = some t) (ph : PH) : f_law_writes [r.W] ph = .ok (tL t) ph := by rw [writes_s, h]
/-- what the law asks behind the outward words -/
noncomputable def rest2 : SM := (sSeq (sAsg (eCall f_law_writes (aCons (eVar 0) aNil)) (gN 2)) (sSeq (sAsg (eCall f_law_writes (aCons (eVar 1) aNil)) (gN 3)) (sSeq (sIf (tAndM (eT (eOp notNW (eVar 2) (eC .non))) (tOrM (eT (eOp eqW (eVar 2) (eVar 3))) (eT (eOp inW (eVar 2) (eCall f_law_reads (aCons (eVar 1) aNil)))))) (sRet (eC (.bl true))) sNext) (sRet (eAnd (eOp notNW (eVar 3) (eC .non)) (eOp inW (eVar 3) (eCall f_law_reads (aCons (eVar 0) aNil))))))))
theorem non_L (t : Th) : isNon (tL t) = false := rfl
theorem any1 {α : Type} (t : α) (f : α → Bool) : (some t).toList.any f = f t := by rw [Option.toList_some, List.any_cons, List.any_nil, Bool.or_false]
theorem rest_L (a b : Rw) (ph : PH) : ∃ ph', bnd (rest2 [some a.W, some b.W, none, none]) fEnd ph = .ok (.bl (((wr a).toList.any fun t => decide (t ∈ rd b ++ (wr b).toList)) || ((wr b).toList.any fun t => decide (t ∈ rd a)))) ph' ∧ Ex ph ph' := by
  unfold rest2
  try simp only [bnd_pur, bnd_exx, bnd_nop, bnd_assoc, bnd_ite, eVar_0, eVar_s, eC_ap, gN_ap, eOp_ap, eUn_ap, eT_ap, eTru_ap, tAndM_ap, tOrM_ap, tNotM_ap, eIf_ap, sSeq_ap, sIf_ap, sRet_ap, sNext_ap, sExpr_ap, sAsg_ap, eCall_ap, eCallB_ap, aNil_ap, aCons_ap, eTup_ap, eLst_ap, eIs_ap, eAnd_ap, eOr_ap, eNot_ap, eChain_ap, eMeth_ap, fEnd_rt, fEnd_nx, fM_1, fM_2, fM_3, fM_4, l_add, l_sub, l_neg, l_lt, l_le, l_gt, l_ge, l_int, l_intb, l_abs, l_max, l_min, l_tb, l_truB, l_truI, l_truT, l_eqI, l_neI, lift_ret, pur_ap, exx_ap, ite_ap, Nat.reduceSub, List.reduceReplicate, List.set_cons_zero, List.set_cons_succ, if_true, if_false, decide_true, decide_false, Bool.false_eq_true, Bool.not_true, Bool.not_false, ↓reduceIte, l_eqL, l_neL, l_neB, is_i, is_b, is_n, is_s, is_t, k_ii, k_ib, k_bi, k_bb, k_ni, k_si, k_li, k_ll, k_tt, newT_0, newT_1, newT_2, newT_3, newT_4, newT_5, ixT_0, ixT_1, ixT_2, ixT_3, ixT_4, l_notN, l_isN, isNon_i, isNon_n, isNon_t, isNon_r, String.reduceEq, reduceCtorEq, in_l2, in_l3, Bool.or_false, Bool.false_or, Bool.or_true, Bool.true_or, Bool.and_true, Bool.true_and, Bool.and_false, Bool.false_and]
  cases h : wr a with
  | none =>
    rw [bnd_ok (writes_n h ph)]
    try simp only [bnd_pur, bnd_exx, bnd_nop, bnd_assoc, bnd_ite, eVar_0, eVar_s, eC_ap, gN_ap, eOp_ap, eUn_ap, eT_ap, eTru_ap, tAndM_ap, tOrM_ap, tNotM_ap, eIf_ap, sSeq_ap, sIf_ap, sRet_ap, sNext_ap, sExpr_ap, sAsg_ap, eCall_ap, eCallB_ap, aNil_ap, aCons_ap, eTup_ap, eLst_ap, eIs_ap, eAnd_ap, eOr_ap, eNot_ap, eChain_ap, eMeth_ap, fEnd_rt, fEnd_nx, fM_1, fM_2, fM_3, fM_4, l_add, l_sub, l_neg, l_lt, l_le, l_gt, l_ge, l_int, l_intb, l_abs, l_max, l_min, l_tb, l_truB, l_truI, l_truT, l_eqI, l_neI, lift_ret, pur_ap, exx_ap, ite_ap, Nat.reduceSub, List.reduceReplicate, List.set_cons_zero, List.set_cons_succ, if_true, if_false, decide_true, decide_false, Bool.false_eq_true, Bool.not_true, Bool.not_false, ↓reduceIte, l_eqL, l_neL, l_neB, is_i, is_b, is_n, is_s, is_t, k_ii, k_ib, k_bi, k_bb, k_ni, k_si, k_li, k_ll, k_tt, newT_0, newT_1, newT_2, newT_3, newT_4, newT_5, ixT_0, ixT_1, ixT_2, ixT_3, ixT_4, l_notN, l_isN, isNon_i, isNon_n, isNon_t, isNon_r, String.reduceEq, reduceCtorEq, in_l2, in_l3, Bool.or_false, Bool.false_or, Bool.or_true, Bool.true_or, Bool.and_true, Bool.true_and, Bool.and_false, Bool.false_and]
    cases hb : wr b with
    | none =>
      rw [bnd_ok (writes_n hb ph)]
      try simp only [bnd_pur, bnd_exx, bnd_nop, bnd_assoc, bnd_ite, eVar_0, eVar_s, eC_ap, gN_ap, eOp_ap, eUn_ap, eT_ap, eTru_ap, tAndM_ap, tOrM_ap, tNotM_ap, eIf_ap, sSeq_ap, sIf_ap, sRet_ap, sNext_ap, sExpr_ap, sAsg_ap, eCall_ap, eCallB_ap, aNil_ap, aCons_ap, eTup_ap, eLst_ap, eIs_ap, eAnd_ap, eOr_ap, eNot_ap, eChain_ap, eMeth_ap, fEnd_rt, fEnd_nx, fM_1, fM_2, fM_3, fM_4, l_add, l_sub, l_neg, l_lt, l_le, l_gt, l_ge, l_int, l_intb, l_abs, l_max, l_min, l_tb, l_truB, l_truI, l_truT, l_eqI, l_neI, lift_ret, pur_ap, exx_ap, ite_ap, Nat.reduceSub, List.reduceReplicate, List.set_cons_zero, List.set_cons_succ, if_true, if_false, decide_true, decide_false, Bool.false_eq_true, Bool.not_true, Bool.not_false, ↓reduceIte, l_eqL, l_neL, l_neB, is_i, is_b, is_n, is_s, is_t, k_ii, k_ib, k_bi, k_bb, k_ni, k_si, k_li, k_ll, k_tt, newT_0, newT_1, newT_2, newT_3, newT_4, newT_5, ixT_0, ixT_1, ixT_2, ixT_3, ixT_4, l_notN, l_isN, isNon_i, isNon_n, isNon_t, isNon_r, String.reduceEq, reduceCtorEq, in_l2, in_l3, Bool.or_false, Bool.false_or, Bool.or_true, Bool.true_or, Bool.and_true, Bool.true_and, Bool.and_false, Bool.false_and]
      exact ⟨_, rfl, Ex.refl _⟩
    | some u =>
      rw [bnd_ok (writes_t hb ph)]
      try simp only [bnd_pur, bnd_exx, bnd_nop, bnd_assoc, bnd_ite, eVar_0, eVar_s, eC_ap, gN_ap, eOp_ap, eUn_ap, eT_ap, eTru_ap, tAndM_ap, tOrM_ap, tNotM_ap, eIf_ap, sSeq_ap, sIf_ap, sRet_ap, sNext_ap, sExpr_ap, sAsg_ap, eCall_ap, eCallB_ap, aNil_ap, aCons_ap, eTup_ap, eLst_ap, eIs_ap, eAnd_ap, eOr_ap, eNot_ap, eChain_ap, eMeth_ap, fEnd_rt, fEnd_nx, fM_1, fM_2, fM_3, fM_4, l_add, l_sub, l_neg, l_lt, l_le, l_gt, l_ge, l_int, l_intb, l_abs, l_max, l_min, l_tb, l_truB, l_truI, l_truT, l_eqI, l_neI, lift_ret, pur_ap, exx_ap, ite_ap, Nat.reduceSub, List.reduceReplicate, List.set_cons_zero, List.set_cons_succ, if_true, if_false, decide_true, decide_false, Bool.false_eq_true, Bool.not_true, Bool.not_false, ↓reduceIte, l_eqL, l_neL, l_neB, is_i, is_b, is_n, is_s, is_t, k_ii, k_ib, k_bi, k_bb, k_ni, k_si, k_li, k_ll, k_tt, newT_0, newT_1, newT_2, newT_3, newT_4, newT_5, ixT_0, ixT_1, ixT_2, ixT_3, ixT_4, l_notN, l_isN, isNon_i, isNon_n, isNon_t, isNon_r, String.reduceEq, reduceCtorEq, in_l2, in_l3, Bool.or_false, Bool.false_or, Bool.or_true, Bool.true_or, Bool.and_true, Bool.true_and, Bool.and_false, Bool.false_and, non_L]
      rw [bnd_ok (reads_s a ph), bnd_ok (in_L (get_new _ _) u)]
      simp only [Option.toList_some, Option.toList_none, List.any_cons, List.any_nil, Bool.or_false, Bool.false_or]
      exact ⟨_, rfl, Ex.one _ _⟩
  | some t =>
    rw [bnd_ok (writes_t h ph)]
    try simp only [bnd_pur, bnd_exx, bnd_nop, bnd_assoc, bnd_ite, eVar_0, eVar_s, eC_ap, gN_ap, eOp_ap, eUn_ap, eT_ap, eTru_ap, tAndM_ap, tOrM_ap, tNotM_ap, eIf_ap, sSeq_ap, sIf_ap, sRet_ap, sNext_ap, sExpr_ap, sAsg_ap, eCall_ap, eCallB_ap, aNil_ap, aCons_ap, eTup_ap, eLst_ap, eIs_ap, eAnd_ap, eOr_ap, eNot_ap, eChain_ap, eMeth_ap, fEnd_rt, fEnd_nx, fM_1, fM_2, fM_3, fM_4, l_add, l_sub, l_neg, l_lt, l_le, l_gt, l_ge, l_int, l_intb, l_abs, l_max, l_min, l_tb, l_truB, l_truI, l_truT, l_eqI, l_neI, lift_ret, pur_ap, exx_ap, ite_ap, Nat.reduceSub, List.reduceReplicate, List.set_cons_zero, List.set_cons_succ, if_true, if_false, decide_true, decide_false, Bool.false_eq_true, Bool.not_true, Bool.not_false, ↓reduceIte, l_eqL, l_neL, l_neB, is_i, is_b, is_n, is_s, is_t, k_ii, k_ib, k_bi, k_bb, k_ni, k_si, k_li, k_ll, k_tt, newT_0, newT_1, newT_2, newT_3, newT_4, newT_5, ixT_0, ixT_1, ixT_2, ixT_3, ixT_4, l_notN, l_isN, isNon_i, isNon_n, isNon_t, isNon_r, String.reduceEq, reduceCtorEq, in_l2, in_l3, Bool.or_false, Bool.false_or, Bool.or_true, Bool.true_or, Bool.and_true, Bool.true_and, Bool.and_false, Bool.false_and]
    cases hb : wr b with
    | none =>
      rw [bnd_ok (writes_n hb ph)]
      try simp only [bnd_pur, bnd_exx, bnd_nop, bnd_assoc, bnd_ite, eVar_0, eVar_s, eC_ap, gN_ap, eOp_ap, eUn_ap, eT_ap, eTru_ap, tAndM_ap, tOrM_ap, tNotM_ap, eIf_ap, sSeq_ap, sIf_ap, sRet_ap, sNext_ap, sExpr_ap, sAsg_ap, eCall_ap, eCallB_ap, aNil_ap, aCons_ap, eTup_ap, eLst_ap, eIs_ap, eAnd_ap, eOr_ap, eNot_ap, eChain_ap, eMeth_ap, fEnd_rt, fEnd_nx, fM_1, fM_2, fM_3, fM_4, l_add, l_sub, l_neg, l_lt, l_le, l_gt, l_ge, l_int, l_intb, l_abs, l_max, l_min, l_tb, l_truB, l_truI, l_truT, l_eqI, l_neI, lift_ret, pur_ap, exx_ap, ite_ap, Nat.reduceSub, List.reduceReplicate, List.set_cons_zero, List.set_cons_succ, if_true, if_false, decide_true, decide_false, Bool.false_eq_true, Bool.not_true, Bool.not_false, ↓reduceIte, l_eqL, l_neL, l_neB, is_i, is_b, is_n, is_s, is_t, k_ii, k_ib, k_bi, k_bb, k_ni, k_si, k_li, k_ll, k_tt, newT_0, newT_1, newT_2, newT_3, newT_4, newT_5, ixT_0, ixT_1, ixT_2, ixT_3, ixT_4, l_notN, l_isN, isNon_i, isNon_n, isNon_t, isNon_r, String.reduceEq, reduceCtorEq, in_l2, in_l3, Bool.or_false, Bool.false_or, Bool.or_true, Bool.true_or, Bool.and_true, Bool.true_and, Bool.and_false, Bool.false_and, non_L, eq_Ln]
      rw [bnd_ok (reads_s b ph), bnd_ok (in_L (get_new _ _) t)]
      simp only [Option.toList_some, Option.toList_none, List.append_nil, List.any_cons, List.any_nil, Bool.or_false]
      try simp only [bnd_pur, bnd_exx, bnd_nop, bnd_assoc, bnd_ite, eVar_0, eVar_s, eC_ap, gN_ap, eOp_ap, eUn_ap, eT_ap, eTru_ap, tAndM_ap, tOrM_ap, tNotM_ap, eIf_ap, sSeq_ap, sIf_ap, sRet_ap, sNext_ap, sExpr_ap, sAsg_ap, eCall_ap, eCallB_ap, aNil_ap, aCons_ap, eTup_ap, eLst_ap, eIs_ap, eAnd_ap, eOr_ap, eNot_ap, eChain_ap, eMeth_ap, fEnd_rt, fEnd_nx, fM_1, fM_2, fM_3, fM_4, l_add, l_sub, l_neg, l_lt, l_le, l_gt, l_ge, l_int, l_intb, l_abs, l_max, l_min, l_tb, l_truB, l_truI, l_truT, l_eqI, l_neI, lift_ret, pur_ap, exx_ap, ite_ap, Nat.reduceSub, List.reduceReplicate, List.set_cons_zero, List.set_cons_succ, if_true, if_false, decide_true, decide_false, Bool.false_eq_true, Bool.not_true, Bool.not_false, ↓reduceIte, l_eqL, l_neL, l_neB, is_i, is_b, is_n, is_s, is_t, k_ii, k_ib, k_bi, k_bb, k_ni, k_si, k_li, k_ll, k_tt, newT_0, newT_1, newT_2, newT_3, newT_4, newT_5, ixT_0, ixT_1, ixT_2, ixT_3, ixT_4, l_notN, l_isN, isNon_i, isNon_n, isNon_t, isNon_r, String.reduceEq, reduceCtorEq, in_l2, in_l3, Bool.or_false, Bool.false_or, Bool.or_true, Bool.true_or, Bool.and_true, Bool.true_and, Bool.and_false, Bool.false_and]
      cases ht : decide (t ∈ rd b) with
      | true => exact ⟨_, rfl, Ex.one _ _⟩
      | false => exact ⟨_, rfl, Ex.one _ _⟩
    | some u =>
      rw [bnd_ok (writes_t hb ph)]
      try simp only [bnd_pur, bnd_exx, bnd_nop, bnd_assoc, bnd_ite, eVar_0, eVar_s, eC_ap, gN_ap, eOp_ap, eUn_ap, eT_ap, eTru_ap, tAndM_ap, tOrM_ap, tNotM_ap, eIf_ap, sSeq_ap, sIf_ap, sRet_ap, sNext_ap, sExpr_ap, sAsg_ap, eCall_ap, eCallB_ap, aNil_ap, aCons_ap, eTup_ap, eLst_ap, eIs_ap, eAnd_ap, eOr_ap, eNot_ap, eChain_ap, eMeth_ap, fEnd_rt, fEnd_nx, fM_1, fM_2, fM_3, fM_4, l_add, l_sub, l_neg, l_lt, l_le, l_gt, l_ge, l_int, l_intb, l_abs, l_max, l_min, l_tb, l_truB, l_truI, l_truT, l_eqI, l_neI, lift_ret, pur_ap, exx_ap, ite_ap, Nat.reduceSub, List.reduceReplicate, List.set_cons_zero, List.set_cons_succ, if_true, if_false, decide_true, decide_false, Bool.false_eq_true, Bool.not_true, Bool.not_false, ↓reduceIte, l_eqL, l_neL, l_neB, is_i, is_b, is_n, is_s, is_t, k_ii, k_ib, k_bi, k_bb, k_ni, k_si, k_li, k_ll, k_tt, newT_0, newT_1, newT_2, newT_3, newT_4, newT_5, ixT_0, ixT_1, ixT_2, ixT_3, ixT_4, l_notN, l_isN, isNon_i, isNon_n, isNon_t, isNon_r, String.reduceEq, reduceCtorEq, in_l2, in_l3, Bool.or_false, Bool.false_or, Bool.or_true, Bool.true_or, Bool.and_true, Bool.true_and, Bool.and_false, Bool.false_and, non_L, eq_L]
      have hm : decide (t ∈ rd b ++ (some u).toList) = (decide (t = u) || decide (t ∈ rd b)) := by
        rw [← Bool.decide_or, decide_eq_decide, List.mem_append, Option.toList_some, List.mem_singleton, Or.comm]
      rw [any1, any1, hm]
      cases htu : decide (t = u) with
      | true => exact ⟨_, rfl, Ex.refl _⟩
      | false =>
        simp only [Bool.false_eq_true, if_false, Bool.false_or]
        rw [bnd_ok (reads_s b ph), bnd_ok (in_L (get_new _ _) t)]
        try simp only [bnd_pur, bnd_exx, bnd_nop, bnd_assoc, bnd_ite, eVar_0, eVar_s, eC_ap, gN_ap, eOp_ap, eUn_ap, eT_ap, eTru_ap, tAndM_ap, tOrM_ap, tNotM_ap, eIf_ap, sSeq_ap, sIf_ap, sRet_ap, sNext_ap, sExpr_ap, sAsg_ap, eCall_ap, eCallB_ap, aNil_ap, aCons_ap, eTup_ap, eLst_ap, eIs_ap, eAnd_ap, eOr_ap, eNot_ap, eChain_ap, eMeth_ap, fEnd_rt, fEnd_nx, fM_1, fM_2, fM_3, fM_4, l_add, l_sub, l_neg, l_lt, l_le, l_gt, l_ge, l_int, l_intb, l_abs, l_max, l_min, l_tb, l_truB, l_truI, l_truT, l_eqI, l_neI, lift_ret, pur_ap, exx_ap, ite_ap, Nat.reduceSub, List.reduceReplicate, List.set_cons_zero, List.set_cons_succ, if_true, if_false, decide_true, decide_false, Bool.false_eq_true, Bool.not_true, Bool.not_false, ↓reduceIte, l_eqL, l_neL, l_neB, is_i, is_b, is_n, is_s, is_t, k_ii, k_ib, k_bi, k_bb, k_ni, k_si, k_li, k_ll, k_tt, newT_0, newT_1, newT_2, newT_3, newT_4, newT_5, ixT_0, ixT_1, ixT_2, ixT_3, ixT_4, l_notN, l_isN, isNon_i, isNon_n, isNon_t, isNon_r, String.reduceEq, reduceCtorEq, in_l2, in_l3, Bool.or_false, Bool.false_or, Bool.or_true, Bool.true_or, Bool.and_true, Bool.true_and, Bool.and_false, Bool.false_and, non_L]
        cases ht : decide (t ∈ rd b) with
        | true => exact ⟨_, rfl, Ex.one _ _⟩
        | false =>
          simp only [Bool.false_eq_true, if_false, Bool.false_or]
          rw [bnd_ok (reads_s a _), bnd_ok (in_L (get_new _ _) u)]
          exact ⟨_, rfl, (Ex.one _ _).trans (Ex.one _ _)⟩
theorem tied_eq : b_law_tied = sSeq (sIf (tOrM (eT (eOp inW (eOp ixW (eVar 0) (eC (.int (0)))) (eTup (aCons (eC (.str "take")) (aCons (eC (.str "tell")) (aCons (eC (.str "turn")) aNil)))))) (eTru (eCall f_law_is_part (aCons (eVar 0) aNil)))) (sIf (tOrM (eT (eOp inW (eOp ixW (eVar 1) (eC (.int (0)))) (eTup (aCons (eC (.str "take")) (aCons (eC (.str "tell")) (aCons (eC (.str "turn")) aNil)))))) (eTru (eCall f_law_is_part (aCons (eVar 1) aNil)))) (sRet (eC (.bl true))) sNext) sNext) rest2 := rfl
theorem tied_s (a b : Rw) (ph : PH) : ∃ ph', f_law_tied [a.W, b.W] ph = .ok (.bl (bd a b)) ph' ∧ Ex ph ph' := by
  obtain ⟨ph', e, q⟩ := rest_L a b ph
  unfold bd
  rw [Bool.or_assoc, out_eq a, out_eq b]
  unfold f_law_tied
  rw [tied_eq]
  try simp only [bnd_pur, bnd_exx, bnd_nop, bnd_assoc, bnd_ite, eVar_0, eVar_s, eC_ap, gN_ap, eOp_ap, eUn_ap, eT_ap, eTru_ap, tAndM_ap, tOrM_ap, tNotM_ap, eIf_ap, sSeq_ap, sIf_ap, sRet_ap, sNext_ap, sExpr_ap, sAsg_ap, eCall_ap, eCallB_ap, aNil_ap, aCons_ap, eTup_ap, eLst_ap, eIs_ap, eAnd_ap, eOr_ap, eNot_ap, eChain_ap, eMeth_ap, fEnd_rt, fEnd_nx, fM_1, fM_2, fM_3, fM_4, l_add, l_sub, l_neg, l_lt, l_le, l_gt, l_ge, l_int, l_intb, l_abs, l_max, l_min, l_tb, l_truB, l_truI, l_truT, l_eqI, l_neI, lift_ret, pur_ap, exx_ap, ite_ap, Nat.reduceSub, List.reduceReplicate, List.set_cons_zero, List.set_cons_succ, if_true, if_false, decide_true, decide_false, Bool.false_eq_true, Bool.not_true, Bool.not_false, ↓reduceIte, l_eqL, l_neL, l_neB, is_i, is_b, is_n, is_s, is_t, k_ii, k_ib, k_bi, k_bb, k_ni, k_si, k_li, k_ll, k_tt, newT_0, newT_1, newT_2, newT_3, newT_4, newT_5, ixT_0, ixT_1, ixT_2, ixT_3, ixT_4, l_notN, l_isN, isNon_i, isNon_n, isNon_t, isNon_r, String.reduceEq, reduceCtorEq, in_l2, in_l3, Bool.or_false, Bool.false_or, Bool.or_true, Bool.true_or, Bool.and_true, Bool.true_and, Bool.and_false, Bool.false_and, ix_hd, -in_l3, in3]
  cases h1 : o3 a with
  | true =>
    simp only [if_true, Bool.true_or, Bool.true_and]
    cases h2 : o3 b with
    | true => exact ⟨_, rfl, Ex.refl _⟩
    | false =>
      simp only [Bool.false_eq_true, if_false, Bool.false_or]
      rw [bnd_ok (ispart_s' b ph)]
      try simp only [bnd_pur, bnd_exx, bnd_nop, bnd_assoc, bnd_ite, eVar_0, eVar_s, eC_ap, gN_ap, eOp_ap, eUn_ap, eT_ap, eTru_ap, tAndM_ap, tOrM_ap, tNotM_ap, eIf_ap, sSeq_ap, sIf_ap, sRet_ap, sNext_ap, sExpr_ap, sAsg_ap, eCall_ap, eCallB_ap, aNil_ap, aCons_ap, eTup_ap, eLst_ap, eIs_ap, eAnd_ap, eOr_ap, eNot_ap, eChain_ap, eMeth_ap, fEnd_rt, fEnd_nx, fM_1, fM_2, fM_3, fM_4, l_add, l_sub, l_neg, l_lt, l_le, l_gt, l_ge, l_int, l_intb, l_abs, l_max, l_min, l_tb, l_truB, l_truI, l_truT, l_eqI, l_neI, lift_ret, pur_ap, exx_ap, ite_ap, Nat.reduceSub, List.reduceReplicate, List.set_cons_zero, List.set_cons_succ, if_true, if_false, decide_true, decide_false, Bool.false_eq_true, Bool.not_true, Bool.not_false, ↓reduceIte, l_eqL, l_neL, l_neB, is_i, is_b, is_n, is_s, is_t, k_ii, k_ib, k_bi, k_bb, k_ni, k_si, k_li, k_ll, k_tt, newT_0, newT_1, newT_2, newT_3, newT_4, newT_5, ixT_0, ixT_1, ixT_2, ixT_3, ixT_4, l_notN, l_isN, isNon_i, isNon_n, isNon_t, isNon_r, String.reduceEq, reduceCtorEq, in_l2, in_l3, Bool.or_false, Bool.false_or, Bool.or_true, Bool.true_or, Bool.and_true, Bool.true_and, Bool.and_false, Bool.false_and]
      cases pt b with
      | true => exact ⟨_, rfl, Ex.refl _⟩
      | false => exact ⟨_, e, q⟩
  | false =>
    simp only [Bool.false_eq_true, if_false, Bool.false_or]
    rw [bnd_ok (ispart_s' a ph)]
    try simp only [bnd_pur, bnd_exx, bnd_nop, bnd_assoc, bnd_ite, eVar_0, eVar_s, eC_ap, gN_ap, eOp_ap, eUn_ap, eT_ap, eTru_ap, tAndM_ap, tOrM_ap, tNotM_ap, eIf_ap, sSeq_ap, sIf_ap, sRet_ap, sNext_ap, sExpr_ap, sAsg_ap, eCall_ap, eCallB_ap, aNil_ap, aCons_ap, eTup_ap, eLst_ap, eIs_ap, eAnd_ap, eOr_ap, eNot_ap, eChain_ap, eMeth_ap, fEnd_rt, fEnd_nx, fM_1, fM_2, fM_3, fM_4, l_add, l_sub, l_neg, l_lt, l_le, l_gt, l_ge, l_int, l_intb, l_abs, l_max, l_min, l_tb, l_truB, l_truI, l_truT, l_eqI, l_neI, lift_ret, pur_ap, exx_ap, ite_ap, Nat.reduceSub, List.reduceReplicate, List.set_cons_zero, List.set_cons_succ, if_true, if_false, decide_true, decide_false, Bool.false_eq_true, Bool.not_true, Bool.not_false, ↓reduceIte, l_eqL, l_neL, l_neB, is_i, is_b, is_n, is_s, is_t, k_ii, k_ib, k_bi, k_bb, k_ni, k_si, k_li, k_ll, k_tt, newT_0, newT_1, newT_2, newT_3, newT_4, newT_5, ixT_0, ixT_1, ixT_2, ixT_3, ixT_4, l_notN, l_isN, isNon_i, isNon_n, isNon_t, isNon_r, String.reduceEq, reduceCtorEq, in_l2, in_l3, Bool.or_false, Bool.false_or, Bool.or_true, Bool.true_or, Bool.and_true, Bool.true_and, Bool.and_false, Bool.false_and, ix_hd, -in_l3, in3]
    cases pt a with
    | false => exact ⟨_, e, q⟩
    | true =>
      simp only [if_true, Bool.true_and]
      cases h2 : o3 b with
      | true => exact ⟨_, rfl, Ex.refl _⟩
      | false =>
        simp only [Bool.false_eq_true, if_false, Bool.false_or]
        rw [bnd_ok (ispart_s' b ph)]
        try simp only [bnd_pur, bnd_exx, bnd_nop, bnd_assoc, bnd_ite, eVar_0, eVar_s, eC_ap, gN_ap, eOp_ap, eUn_ap, eT_ap, eTru_ap, tAndM_ap, tOrM_ap, tNotM_ap, eIf_ap, sSeq_ap, sIf_ap, sRet_ap, sNext_ap, sExpr_ap, sAsg_ap, eCall_ap, eCallB_ap, aNil_ap, aCons_ap, eTup_ap, eLst_ap, eIs_ap, eAnd_ap, eOr_ap, eNot_ap, eChain_ap, eMeth_ap, fEnd_rt, fEnd_nx, fM_1, fM_2, fM_3, fM_4, l_add, l_sub, l_neg, l_lt, l_le, l_gt, l_ge, l_int, l_intb, l_abs, l_max, l_min, l_tb, l_truB, l_truI, l_truT, l_eqI, l_neI, lift_ret, pur_ap, exx_ap, ite_ap, Nat.reduceSub, List.reduceReplicate, List.set_cons_zero, List.set_cons_succ, if_true, if_false, decide_true, decide_false, Bool.false_eq_true, Bool.not_true, Bool.not_false, ↓reduceIte, l_eqL, l_neL, l_neB, is_i, is_b, is_n, is_s, is_t, k_ii, k_ib, k_bi, k_bb, k_ni, k_si, k_li, k_ll, k_tt, newT_0, newT_1, newT_2, newT_3, newT_4, newT_5, ixT_0, ixT_1, ixT_2, ixT_3, ixT_4, l_notN, l_isN, isNon_i, isNon_n, isNon_t, isNon_r, String.reduceEq, reduceCtorEq, in_l2, in_l3, Bool.or_false, Bool.false_or, Bool.or_true, Bool.true_or, Bool.and_true, Bool.true_and, Bool.and_false, Bool.false_and]
        cases pt b with
        | true => exact ⟨_, rfl, Ex.refl _⟩
        | false => exact ⟨_, e, q⟩
end IL.K22

namespace IL.K22
open PySem L2
def prW (i j : Nat) : W := .tup [.int (i : Int), .int (j : Int)]
def at_ (rs : List Rw) (i : Nat) : Rw := rs.getD i .turn
/-- the pairs of the row at i -/
def one (rs : List Rw) (i k : Nat) : Option W := if bd (at_ rs i) (at_ rs (i + 1 + k)) = true then some (prW i (i + 1 + k)) else none
def rowP (rs : List Rw) (i : Nat) : List W := (List.range (rs.length - (i + 1))).filterMap (one rs i)
def allP (rs : List Rw) (k : Nat) : List W := (List.range k).flatMap (rowP rs)
theorem allP_succ (rs : List Rw) (k : Nat) : allP rs (k + 1) = allP rs k ++ rowP rs k := by
  unfold allP; rw [List.range_succ, List.flatMap_append]; simp
theorem rowP_len (rs : List Rw) (i : Nat) : (rowP rs i).length ≤ rs.length := by
  unfold rowP
  exact Nat.le_trans (List.length_filterMap_le _ _) (by simp)
theorem allP_len (rs : List Rw) : ∀ k : Nat, (allP rs k).length ≤ k * rs.length
  | 0 => by simp [allP]
  | k + 1 => by
    rw [allP_succ, List.length_append, Nat.succ_mul]
    have := allP_len rs k
    have := rowP_len rs k
    omega
theorem at_get {rs : List Rw} {i : Nat} (h : i < rs.length) : atI (rs.map Rw.W) (i : Int) = some (at_ rs i).W := by
  rw [atI_nat _ _ (by simpa using h)]
  simp [at_, h]
/-- the program's pairs -/
theorem boundc (rs : List Rw) (hz : rs.length ≤ 40) (r i : Nat) (hi : i < rs.length) {ph : PH} (hr : ph[r]? = some (.lst (rs.map Rw.W))) (x : W) :
    ∃ ph', eComp (iR2 (aCons (eOp addW (eVar 2) (eC (.int (1)))) (aCons (eCallB lenW (aCons (eVar 0) aNil)) aNil))) [none, some 2, some 3, some 0] (gN 0) (eTru (eCall f_are_bound (aCons (eVar 2) (aCons (eOp ixW (eVar 3) (eVar 0)) aNil)))) (eTup (aCons (eVar 1) (aCons (eVar 0) aNil))) [some (.ref r), some x, some (.int (i : Int)), some (at_ rs i).W] ph = .ok (.ref ph.length) ph' ∧ Ex (ph ++ [.lst (rowP rs i)]) ph' := by
  have him : iR2 (aCons (eOp addW (eVar 2) (eC (.int (1)))) (aCons (eCallB lenW (aCons (eVar 0) aNil)) aNil)) [some (.ref r), some x, some (.int (i : Int)), some (at_ rs i).W] ph = .ok ((List.range (rs.length - (i + 1))).map fun k : Nat => W.int ((i : Int) + 1 + ((k : Nat) : Int)), fun _ => true) ph := by
    rw [iR2_ap (i := (i : Int) + 1) (j := (rs.length : Int)) (ph' := ph) ?_ (by omega) (by omega) (by omega) (by omega)]
    · rw [show (((rs.length : Int) - ((i : Int) + 1)).toNat) = rs.length - (i + 1) by omega]; rfl
    · try simp only [bnd_pur, bnd_exx, bnd_nop, bnd_assoc, bnd_ite, eVar_0, eVar_s, eC_ap, gN_ap, eOp_ap, eUn_ap, eT_ap, eTru_ap, tAndM_ap, tOrM_ap, tNotM_ap, eIf_ap, sSeq_ap, sIf_ap, sRet_ap, sNext_ap, sExpr_ap, sAsg_ap, eCall_ap, eCallB_ap, aNil_ap, aCons_ap, eTup_ap, eLst_ap, eIs_ap, eAnd_ap, eOr_ap, eNot_ap, eChain_ap, eMeth_ap, fEnd_rt, fEnd_nx, fM_1, fM_2, fM_3, fM_4, l_add, l_sub, l_neg, l_lt, l_le, l_gt, l_ge, l_int, l_intb, l_abs, l_max, l_min, l_tb, l_truB, l_truI, l_truT, l_eqI, l_neI, lift_ret, pur_ap, exx_ap, ite_ap, Nat.reduceSub, List.reduceReplicate, List.set_cons_zero, List.set_cons_succ, if_true, if_false, decide_true, decide_false, Bool.false_eq_true, Bool.not_true, Bool.not_false, ↓reduceIte, l_eqL, l_neL, l_neB, is_i, is_b, is_n, is_s, is_t, k_ii, k_ib, k_bi, k_bb, k_ni, k_si, k_li, k_ll, k_tt, newT_0, newT_1, newT_2, newT_3, newT_4, newT_5, ixT_0, ixT_1, ixT_2, ixT_3, ixT_4, l_notN, l_isN, isNon_i, isNon_n, isNon_t, isNon_r, String.reduceEq, reduceCtorEq, in_l2, in_l3, Bool.or_false, Bool.false_or, Bool.or_true, Bool.true_or, Bool.and_true, Bool.true_and, Bool.and_false, Bool.false_and]
      rw [bnd_ok (len_ref hr)]
      try simp only [bnd_pur, bnd_exx, bnd_nop, bnd_assoc, bnd_ite, eVar_0, eVar_s, eC_ap, gN_ap, eOp_ap, eUn_ap, eT_ap, eTru_ap, tAndM_ap, tOrM_ap, tNotM_ap, eIf_ap, sSeq_ap, sIf_ap, sRet_ap, sNext_ap, sExpr_ap, sAsg_ap, eCall_ap, eCallB_ap, aNil_ap, aCons_ap, eTup_ap, eLst_ap, eIs_ap, eAnd_ap, eOr_ap, eNot_ap, eChain_ap, eMeth_ap, fEnd_rt, fEnd_nx, fM_1, fM_2, fM_3, fM_4, l_add, l_sub, l_neg, l_lt, l_le, l_gt, l_ge, l_int, l_intb, l_abs, l_max, l_min, l_tb, l_truB, l_truI, l_truT, l_eqI, l_neI, lift_ret, pur_ap, exx_ap, ite_ap, Nat.reduceSub, List.reduceReplicate, List.set_cons_zero, List.set_cons_succ, if_true, if_false, decide_true, decide_false, Bool.false_eq_true, Bool.not_true, Bool.not_false, ↓reduceIte, l_eqL, l_neL, l_neB, is_i, is_b, is_n, is_s, is_t, k_ii, k_ib, k_bi, k_bb, k_ni, k_si, k_li, k_ll, k_tt, newT_0, newT_1, newT_2, newT_3, newT_4, newT_5, ixT_0, ixT_1, ixT_2, ixT_3, ixT_4, l_notN, l_isN, isNon_i, isNon_n, isNon_t, isNon_r, String.reduceEq, reduceCtorEq, in_l2, in_l3, Bool.or_false, Bool.false_or, Bool.or_true, Bool.true_or, Bool.and_true, Bool.true_and, Bool.and_false, Bool.false_and, List.length_map]
  refine comp_run _ _ him (fun _ _ => rfl) (small (by simp; omega)) (one rs i) (fun σ => ∃ y, σ = [y, some (.int (i : Int)), some (at_ rs i).W, some (.ref r)]) ⟨none, rfl⟩ (fun k hk σ H hS hE => ?_)
  obtain ⟨y, rfl⟩ := hS
  have hk : k < rs.length - (i + 1) := List.mem_range.mp hk
  refine ⟨_, rfl, ⟨_, rfl⟩, ?_⟩
  obtain ⟨H1, e1, x1⟩ := bound_s (at_ rs i) (at_ rs (i + 1 + k)) H
  refine ⟨bd (at_ rs i) (at_ rs (i + 1 + k)), H1, ?_, x1, ?_⟩
  · show eTru (eCall f_are_bound (aCons (eVar 2) (aCons (eOp ixW (eVar 3) (eVar 0)) aNil))) [some (.int ((i : Int) + 1 + (k : Int))), some (.int (i : Int)), some (at_ rs i).W, some (.ref r)] H = _
    try simp only [bnd_pur, bnd_exx, bnd_nop, bnd_assoc, bnd_ite, eVar_0, eVar_s, eC_ap, gN_ap, eOp_ap, eUn_ap, eT_ap, eTru_ap, tAndM_ap, tOrM_ap, tNotM_ap, eIf_ap, sSeq_ap, sIf_ap, sRet_ap, sNext_ap, sExpr_ap, sAsg_ap, eCall_ap, eCallB_ap, aNil_ap, aCons_ap, eTup_ap, eLst_ap, eIs_ap, eAnd_ap, eOr_ap, eNot_ap, eChain_ap, eMeth_ap, fEnd_rt, fEnd_nx, fM_1, fM_2, fM_3, fM_4, l_add, l_sub, l_neg, l_lt, l_le, l_gt, l_ge, l_int, l_intb, l_abs, l_max, l_min, l_tb, l_truB, l_truI, l_truT, l_eqI, l_neI, lift_ret, pur_ap, exx_ap, ite_ap, Nat.reduceSub, List.reduceReplicate, List.set_cons_zero, List.set_cons_succ, if_true, if_false, decide_true, decide_false, Bool.false_eq_true, Bool.not_true, Bool.not_false, ↓reduceIte, l_eqL, l_neL, l_neB, is_i, is_b, is_n, is_s, is_t, k_ii, k_ib, k_bi, k_bb, k_ni, k_si, k_li, k_ll, k_tt, newT_0, newT_1, newT_2, newT_3, newT_4, newT_5, ixT_0, ixT_1, ixT_2, ixT_3, ixT_4, l_notN, l_isN, isNon_i, isNon_n, isNon_t, isNon_r, String.reduceEq, reduceCtorEq, in_l2, in_l3, Bool.or_false, Bool.false_or, Bool.or_true, Bool.true_or, Bool.and_true, Bool.true_and, Bool.and_false, Bool.false_and]
    rw [show ((i : Int) + 1 + (k : Int)) = ((i + 1 + k : Nat) : Int) by omega]
    rw [bnd_ok (ix_ref (hE.get hr) (at_get (by omega))), bnd_ok e1]
    rfl
  · unfold one
    cases hb : bd (at_ rs i) (at_ rs (i + 1 + k)) with
    | false => exact .inl ⟨rfl, rfl⟩
    | true =>
      refine .inr ⟨rfl, prW i (i + 1 + k), H1, ?_, Ex.refl _, rfl⟩
      show eTup (aCons (eVar 1) (aCons (eVar 0) aNil)) [some (.int ((i : Int) + 1 + (k : Int))), some (.int (i : Int)), some (at_ rs i).W, some (.ref r)] H1 = _
      try simp only [bnd_pur, bnd_exx, bnd_nop, bnd_assoc, bnd_ite, eVar_0, eVar_s, eC_ap, gN_ap, eOp_ap, eUn_ap, eT_ap, eTru_ap, tAndM_ap, tOrM_ap, tNotM_ap, eIf_ap, sSeq_ap, sIf_ap, sRet_ap, sNext_ap, sExpr_ap, sAsg_ap, eCall_ap, eCallB_ap, aNil_ap, aCons_ap, eTup_ap, eLst_ap, eIs_ap, eAnd_ap, eOr_ap, eNot_ap, eChain_ap, eMeth_ap, fEnd_rt, fEnd_nx, fM_1, fM_2, fM_3, fM_4, l_add, l_sub, l_neg, l_lt, l_le, l_gt, l_ge, l_int, l_intb, l_abs, l_max, l_min, l_tb, l_truB, l_truI, l_truT, l_eqI, l_neI, lift_ret, pur_ap, exx_ap, ite_ap, Nat.reduceSub, List.reduceReplicate, List.set_cons_zero, List.set_cons_succ, if_true, if_false, decide_true, decide_false, Bool.false_eq_true, Bool.not_true, Bool.not_false, ↓reduceIte, l_eqL, l_neL, l_neB, is_i, is_b, is_n, is_s, is_t, k_ii, k_ib, k_bi, k_bb, k_ni, k_si, k_li, k_ll, k_tt, newT_0, newT_1, newT_2, newT_3, newT_4, newT_5, ixT_0, ixT_1, ixT_2, ixT_3, ixT_4, l_notN, l_isN, isNon_i, isNon_n, isNon_t, isNon_r, String.reduceEq, reduceCtorEq, in_l2, in_l3, Bool.or_false, Bool.false_or, Bool.or_true, Bool.true_or, Bool.and_true, Bool.true_and, Bool.and_false, Bool.false_and]
      unfold prW
      rw [show ((i : Int) + 1 + (k : Int)) = ((i + 1 + k : Nat) : Int) by omega]
theorem bound_all (rs : List Rw) (hz : rs.length ≤ 40) (r : Nat) {ph : PH} (hr : ph[r]? = some (.lst (rs.map Rw.W))) :
    ∃ ph', f_bound [.ref r] ph = .ok (.ref ph.length) ph' ∧ Ex (ph ++ [.lst (allP rs rs.length)]) ph' := by
  unfold f_bound b_bound
  try simp only [bnd_pur, bnd_exx, bnd_nop, bnd_assoc, bnd_ite, eVar_0, eVar_s, eC_ap, gN_ap, eOp_ap, eUn_ap, eT_ap, eTru_ap, tAndM_ap, tOrM_ap, tNotM_ap, eIf_ap, sSeq_ap, sIf_ap, sRet_ap, sNext_ap, sExpr_ap, sAsg_ap, eCall_ap, eCallB_ap, aNil_ap, aCons_ap, eTup_ap, eLst_ap, eIs_ap, eAnd_ap, eOr_ap, eNot_ap, eChain_ap, eMeth_ap, fEnd_rt, fEnd_nx, fM_1, fM_2, fM_3, fM_4, l_add, l_sub, l_neg, l_lt, l_le, l_gt, l_ge, l_int, l_intb, l_abs, l_max, l_min, l_tb, l_truB, l_truI, l_truT, l_eqI, l_neI, lift_ret, pur_ap, exx_ap, ite_ap, Nat.reduceSub, List.reduceReplicate, List.set_cons_zero, List.set_cons_succ, if_true, if_false, decide_true, decide_false, Bool.false_eq_true, Bool.not_true, Bool.not_false, ↓reduceIte, l_eqL, l_neL, l_neB, is_i, is_b, is_n, is_s, is_t, k_ii, k_ib, k_bi, k_bb, k_ni, k_si, k_li, k_ll, k_tt, newT_0, newT_1, newT_2, newT_3, newT_4, newT_5, ixT_0, ixT_1, ixT_2, ixT_3, ixT_4, l_notN, l_isN, isNon_i, isNon_n, isNon_t, isNon_r, String.reduceEq, reduceCtorEq, in_l2, in_l3, Bool.or_false, Bool.false_or, Bool.or_true, Bool.true_or, Bool.and_true, Bool.true_and, Bool.and_false, Bool.false_and]
  rw [bnd_new _ _ _ (small (by simp))]
  unfold sFor
  have hr1 : (ph ++ [PO.lst []])[r]? = some (.lst (rs.map Rw.W)) := (Ex.one _ _).get hr
  have hlt : r < ph.length := (List.getElem?_eq_some_iff.mp hr).1
  rw [bnd_assoc]
  rw [bnd_ok (iEnum_ref (m := aCons (eVar 0) aNil) (σ := [some (W.ref r), some (W.ref ph.length), none, none]) (ph := ph ++ [PO.lst []]) (i := r) (by try simp only [bnd_pur, bnd_exx, bnd_nop, bnd_assoc, bnd_ite, eVar_0, eVar_s, eC_ap, gN_ap, eOp_ap, eUn_ap, eT_ap, eTru_ap, tAndM_ap, tOrM_ap, tNotM_ap, eIf_ap, sSeq_ap, sIf_ap, sRet_ap, sNext_ap, sExpr_ap, sAsg_ap, eCall_ap, eCallB_ap, aNil_ap, aCons_ap, eTup_ap, eLst_ap, eIs_ap, eAnd_ap, eOr_ap, eNot_ap, eChain_ap, eMeth_ap, fEnd_rt, fEnd_nx, fM_1, fM_2, fM_3, fM_4, l_add, l_sub, l_neg, l_lt, l_le, l_gt, l_ge, l_int, l_intb, l_abs, l_max, l_min, l_tb, l_truB, l_truI, l_truT, l_eqI, l_neI, lift_ret, pur_ap, exx_ap, ite_ap, Nat.reduceSub, List.reduceReplicate, List.set_cons_zero, List.set_cons_succ, if_true, if_false, decide_true, decide_false, Bool.false_eq_true, Bool.not_true, Bool.not_false, ↓reduceIte, l_eqL, l_neL, l_neB, is_i, is_b, is_n, is_s, is_t, k_ii, k_ib, k_bi, k_bb, k_ni, k_si, k_li, k_ll, k_tt, newT_0, newT_1, newT_2, newT_3, newT_4, newT_5, ixT_0, ixT_1, ixT_2, ixT_3, ixT_4, l_notN, l_isN, isNon_i, isNon_n, isNon_t, isNon_r, String.reduceEq, reduceCtorEq, in_l2, in_l3, Bool.or_false, Bool.false_or, Bool.or_true, Bool.true_or, Bool.and_true, Bool.true_and, Bool.and_false, Bool.false_and]) hr1)]
  obtain ⟨σ', ph', e, hI⟩ := forG_inv (chk := fun p => decide (p[r]? = some (PO.lst (rs.map Rw.W)))) (g := gLen 2 [gN 2, gN 3])
    (b := sExpr (eMeth isL extendW (eVar 1) (aCons (eComp (iR2 (aCons (eOp addW (eVar 2) (eC (.int (1)))) (aCons (eCallB lenW (aCons (eVar 0) aNil)) aNil))) [none, some 2, some 3, some 0] (gN 0) (eTru (eCall f_are_bound (aCons (eVar 2) (aCons (eOp ixW (eVar 3) (eVar 0)) aNil)))) (eTup (aCons (eVar 1) (aCons (eVar 0) aNil)))) aNil)))
    (fun k σ H => (∃ y z, σ = [some (W.ref r), some (W.ref ph.length), y, z]) ∧ Ex (ph ++ [.lst (allP rs k)]) H) (enumL (rs.map Rw.W)) [some (W.ref r), some (W.ref ph.length), none, none] (ph ++ [PO.lst []])
    (fun j σ H hI => decide_eq_true (hI.2.get ((Ex.one _ _).get hr)))
    (fun j w σ H hj hI => by
      obtain ⟨⟨y, z, rfl⟩, hE⟩ := hI
      obtain ⟨x, hx, rfl⟩ := enL_get hj
      have hjl : j < rs.length := by
        have := (List.getElem?_eq_some_iff.mp hx).1
        simpa using this
      have hx' : x = (at_ rs j).W := by
        have := at_get hjl
        rw [atI_nat _ _ (by simpa using hjl), hx] at this
        exact Option.some.inj this
      subst hx'
      have hrH := hE.get ((Ex.one _ _).get hr)
      refine ⟨[some (W.ref r), some (W.ref ph.length), some (.int (j : Int)), some (at_ rs j).W], H, rfl, ?_⟩
      obtain ⟨H1, e1, x1⟩ := boundc rs hz r j hjl hrH (W.ref ph.length)
      have hL : H[ph.length]? = some (.lst (allP rs j)) := hE.get (get_new _ _)
      have x2 := (Ex.one _ _).trans x1
      refine ⟨.nx [some (W.ref r), some (W.ref ph.length), some (.int (j : Int)), some (at_ rs j).W], H1.set ph.length (.lst (allP rs (j + 1))), ?_, _, .inl rfl, ⟨_, _, rfl⟩, ?_⟩
      · try simp only [bnd_pur, bnd_exx, bnd_nop, bnd_assoc, bnd_ite, eVar_0, eVar_s, eC_ap, gN_ap, eOp_ap, eUn_ap, eT_ap, eTru_ap, tAndM_ap, tOrM_ap, tNotM_ap, eIf_ap, sSeq_ap, sIf_ap, sRet_ap, sNext_ap, sExpr_ap, sAsg_ap, eCall_ap, eCallB_ap, aNil_ap, aCons_ap, eTup_ap, eLst_ap, eIs_ap, eAnd_ap, eOr_ap, eNot_ap, eChain_ap, eMeth_ap, fEnd_rt, fEnd_nx, fM_1, fM_2, fM_3, fM_4, l_add, l_sub, l_neg, l_lt, l_le, l_gt, l_ge, l_int, l_intb, l_abs, l_max, l_min, l_tb, l_truB, l_truI, l_truT, l_eqI, l_neI, lift_ret, pur_ap, exx_ap, ite_ap, Nat.reduceSub, List.reduceReplicate, List.set_cons_zero, List.set_cons_succ, if_true, if_false, decide_true, decide_false, Bool.false_eq_true, Bool.not_true, Bool.not_false, ↓reduceIte, l_eqL, l_neL, l_neB, is_i, is_b, is_n, is_s, is_t, k_ii, k_ib, k_bi, k_bb, k_ni, k_si, k_li, k_ll, k_tt, newT_0, newT_1, newT_2, newT_3, newT_4, newT_5, ixT_0, ixT_1, ixT_2, ixT_3, ixT_4, l_notN, l_isN, isNon_i, isNon_n, isNon_t, isNon_r, String.reduceEq, reduceCtorEq, in_l2, in_l3, Bool.or_false, Bool.false_or, Bool.or_true, Bool.true_or, Bool.and_true, Bool.true_and, Bool.and_false, Bool.false_and]
        rw [bnd_ok (chk_ref hL), bnd_ok e1]
        rw [bnd_ok (extend_ref (x2.get hL) (x1.get (get_new _ _)) ?_), allP_succ]
        · rfl
        · have h1 := allP_len rs j
          have h2 := rowP_len rs j
          have h3 : j * rs.length ≤ 40 * 40 := Nat.mul_le_mul (by omega) hz
          exact small (by omega)
      · obtain ⟨m, rfl⟩ := hE.trans x2
        rw [set_mid]
        exact ⟨m, rfl⟩)
    ⟨⟨none, none, rfl⟩, Ex.refl _⟩
  obtain ⟨⟨y, z, rfl⟩, hE⟩ := hI
  have hlen : (enumL (rs.map Rw.W)).length = rs.length := by unfold enumL; simp
  rw [hlen] at hE
  rw [bnd_ok e]
  refine ⟨ph', ?_, hE⟩
  try simp only [bnd_pur, bnd_exx, bnd_nop, bnd_assoc, bnd_ite, eVar_0, eVar_s, eC_ap, gN_ap, eOp_ap, eUn_ap, eT_ap, eTru_ap, tAndM_ap, tOrM_ap, tNotM_ap, eIf_ap, sSeq_ap, sIf_ap, sRet_ap, sNext_ap, sExpr_ap, sAsg_ap, eCall_ap, eCallB_ap, aNil_ap, aCons_ap, eTup_ap, eLst_ap, eIs_ap, eAnd_ap, eOr_ap, eNot_ap, eChain_ap, eMeth_ap, fEnd_rt, fEnd_nx, fM_1, fM_2, fM_3, fM_4, l_add, l_sub, l_neg, l_lt, l_le, l_gt, l_ge, l_int, l_intb, l_abs, l_max, l_min, l_tb, l_truB, l_truI, l_truT, l_eqI, l_neI, lift_ret, pur_ap, exx_ap, ite_ap, Nat.reduceSub, List.reduceReplicate, List.set_cons_zero, List.set_cons_succ, if_true, if_false, decide_true, decide_false, Bool.false_eq_true, Bool.not_true, Bool.not_false, ↓reduceIte, l_eqL, l_neL, l_neB, is_i, is_b, is_n, is_s, is_t, k_ii, k_ib, k_bi, k_bb, k_ni, k_si, k_li, k_ll, k_tt, newT_0, newT_1, newT_2, newT_3, newT_4, newT_5, ixT_0, ixT_1, ixT_2, ixT_3, ixT_4, l_notN, l_isN, isNon_i, isNon_n, isNon_t, isNon_r, String.reduceEq, reduceCtorEq, in_l2, in_l3, Bool.or_false, Bool.false_or, Bool.or_true, Bool.true_or, Bool.and_true, Bool.true_and, Bool.and_false, Bool.false_and]
end IL.K22

namespace IL.K22
open PySem L2
theorem due_all (rs : List Rw) (hz : rs.length ≤ 40) (r : Nat) {ph : PH} (hr : ph[r]? = some (.lst (rs.map Rw.W))) :
    ∃ ph', f_law_due [.ref r] ph = .ok (.ref ph.length) ph' ∧ Ex (ph ++ [.lst (allP rs rs.length)]) ph' := by
  unfold f_law_due b_law_due
  try simp only [bnd_pur, bnd_exx, bnd_nop, bnd_assoc, bnd_ite, eVar_0, eVar_s, eC_ap, gN_ap, eOp_ap, eUn_ap, eT_ap, eTru_ap, tAndM_ap, tOrM_ap, tNotM_ap, eIf_ap, sSeq_ap, sIf_ap, sRet_ap, sNext_ap, sExpr_ap, sAsg_ap, eCall_ap, eCallB_ap, aNil_ap, aCons_ap, eTup_ap, eLst_ap, eIs_ap, eAnd_ap, eOr_ap, eNot_ap, eChain_ap, eMeth_ap, fEnd_rt, fEnd_nx, fM_1, fM_2, fM_3, fM_4, l_add, l_sub, l_neg, l_lt, l_le, l_gt, l_ge, l_int, l_intb, l_abs, l_max, l_min, l_tb, l_truB, l_truI, l_truT, l_eqI, l_neI, lift_ret, pur_ap, exx_ap, ite_ap, Nat.reduceSub, List.reduceReplicate, List.set_cons_zero, List.set_cons_succ, if_true, if_false, decide_true, decide_false, Bool.false_eq_true, Bool.not_true, Bool.not_false, ↓reduceIte, l_eqL, l_neL, l_neB, is_i, is_b, is_n, is_s, is_t, k_ii, k_ib, k_bi, k_bb, k_ni, k_si, k_li, k_ll, k_tt, newT_0, newT_1, newT_2, newT_3, newT_4, newT_5, ixT_0, ixT_1, ixT_2, ixT_3, ixT_4, l_notN, l_isN, isNon_i, isNon_n, isNon_t, isNon_r, String.reduceEq, reduceCtorEq, in_l2, in_l3, Bool.or_false, Bool.false_or, Bool.or_true, Bool.true_or, Bool.and_true, Bool.true_and, Bool.and_false, Bool.false_and]
  rw [bnd_new _ _ _ (small (by simp))]
  unfold sFor
  have hr1 : (ph ++ [PO.lst []])[r]? = some (.lst (rs.map Rw.W)) := (Ex.one _ _).get hr
  have hlt : r < ph.length := (List.getElem?_eq_some_iff.mp hr).1
  have len : ∀ (σ : PSt) (H : PH), H[r]? = some (.lst (rs.map Rw.W)) → σ[0]? = some (some (W.ref r)) → eCallB lenW (aCons (eVar 0) aNil) σ H = .ok (.int (rs.length : Int)) H := fun σ H h1 h2 => by
    rw [eCallB_ap, aCons_ap, eVar_eq h2]
    try simp only [bnd_pur, bnd_exx, bnd_nop, bnd_assoc, bnd_ite, eVar_0, eVar_s, eC_ap, gN_ap, eOp_ap, eUn_ap, eT_ap, eTru_ap, tAndM_ap, tOrM_ap, tNotM_ap, eIf_ap, sSeq_ap, sIf_ap, sRet_ap, sNext_ap, sExpr_ap, sAsg_ap, eCall_ap, eCallB_ap, aNil_ap, aCons_ap, eTup_ap, eLst_ap, eIs_ap, eAnd_ap, eOr_ap, eNot_ap, eChain_ap, eMeth_ap, fEnd_rt, fEnd_nx, fM_1, fM_2, fM_3, fM_4, l_add, l_sub, l_neg, l_lt, l_le, l_gt, l_ge, l_int, l_intb, l_abs, l_max, l_min, l_tb, l_truB, l_truI, l_truT, l_eqI, l_neI, lift_ret, pur_ap, exx_ap, ite_ap, Nat.reduceSub, List.reduceReplicate, List.set_cons_zero, List.set_cons_succ, if_true, if_false, decide_true, decide_false, Bool.false_eq_true, Bool.not_true, Bool.not_false, ↓reduceIte, l_eqL, l_neL, l_neB, is_i, is_b, is_n, is_s, is_t, k_ii, k_ib, k_bi, k_bb, k_ni, k_si, k_li, k_ll, k_tt, newT_0, newT_1, newT_2, newT_3, newT_4, newT_5, ixT_0, ixT_1, ixT_2, ixT_3, ixT_4, l_notN, l_isN, isNon_i, isNon_n, isNon_t, isNon_r, String.reduceEq, reduceCtorEq, in_l2, in_l3, Bool.or_false, Bool.false_or, Bool.or_true, Bool.true_or, Bool.and_true, Bool.true_and, Bool.and_false, Bool.false_and]
    rw [len_ref h1, List.length_map]
  rw [bnd_assoc]
  rw [bnd_ok (iR1_ap (m := aCons (eCallB lenW (aCons (eVar 0) aNil)) aNil) (σ := [some (W.ref r), some (W.ref ph.length), none, none]) (ph := ph ++ [PO.lst []]) (ph' := ph ++ [PO.lst []]) (j := (rs.length : Int)) (by
    rw [aCons_ap, bnd_ok (len _ _ hr1 rfl)]
    try simp only [bnd_pur, bnd_exx, bnd_nop, bnd_assoc, bnd_ite, eVar_0, eVar_s, eC_ap, gN_ap, eOp_ap, eUn_ap, eT_ap, eTru_ap, tAndM_ap, tOrM_ap, tNotM_ap, eIf_ap, sSeq_ap, sIf_ap, sRet_ap, sNext_ap, sExpr_ap, sAsg_ap, eCall_ap, eCallB_ap, aNil_ap, aCons_ap, eTup_ap, eLst_ap, eIs_ap, eAnd_ap, eOr_ap, eNot_ap, eChain_ap, eMeth_ap, fEnd_rt, fEnd_nx, fM_1, fM_2, fM_3, fM_4, l_add, l_sub, l_neg, l_lt, l_le, l_gt, l_ge, l_int, l_intb, l_abs, l_max, l_min, l_tb, l_truB, l_truI, l_truT, l_eqI, l_neI, lift_ret, pur_ap, exx_ap, ite_ap, Nat.reduceSub, List.reduceReplicate, List.set_cons_zero, List.set_cons_succ, if_true, if_false, decide_true, decide_false, Bool.false_eq_true, Bool.not_true, Bool.not_false, ↓reduceIte, l_eqL, l_neL, l_neB, is_i, is_b, is_n, is_s, is_t, k_ii, k_ib, k_bi, k_bb, k_ni, k_si, k_li, k_ll, k_tt, newT_0, newT_1, newT_2, newT_3, newT_4, newT_5, ixT_0, ixT_1, ixT_2, ixT_3, ixT_4, l_notN, l_isN, isNon_i, isNon_n, isNon_t, isNon_r, String.reduceEq, reduceCtorEq, in_l2, in_l3, Bool.or_false, Bool.false_or, Bool.or_true, Bool.true_or, Bool.and_true, Bool.true_and, Bool.and_false, Bool.false_and]) (by omega) (by omega))]
  obtain ⟨σ', ph', e, hI⟩ := forG_inv (chk := fun _ => true) (g := gN 2)
    (b := fun σ => bnd (iR2 (aCons (eOp addW (eVar 2) (eC (.int (1)))) (aCons (eCallB lenW (aCons (eVar 0) aNil)) aNil)) σ) fun r => forG r.2 (gN 3) (sIf (eTru (eCall f_law_tied (aCons (eOp ixW (eVar 0) (eVar 2)) (aCons (eOp ixW (eVar 0) (eVar 3)) aNil)))) (sExpr (eMeth isL appendW (eVar 1) (aCons (eTup (aCons (eVar 2) (aCons (eVar 3) aNil))) aNil))) sNext) r.1 σ)
    (fun k σ H => (∃ y z, σ = [some (W.ref r), some (W.ref ph.length), y, z]) ∧ Ex (ph ++ [.lst (allP rs k)]) H) (rngW 0 ((rs.length : Int)).toNat) [some (W.ref r), some (W.ref ph.length), none, none] (ph ++ [PO.lst []])
    (fun j σ H hI => rfl)
    (fun j w σ H hj hI => by
      obtain ⟨⟨y, z, rfl⟩, hE⟩ := hI
      obtain ⟨hjl, rfl⟩ := rngW_get hj
      have hjl : j < rs.length := by simpa using hjl
      have hrH := hE.get ((Ex.one _ _).get hr)
      rw [Int.zero_add]
      refine ⟨[some (W.ref r), some (W.ref ph.length), some (.int (j : Int)), z], H, rfl, ?_⟩
      -- the inner loop
      have hin : iR2 (aCons (eOp addW (eVar 2) (eC (.int (1)))) (aCons (eCallB lenW (aCons (eVar 0) aNil)) aNil)) [some (W.ref r), some (W.ref ph.length), some (.int (j : Int)), z] H = .ok (rngW ((j : Int) + 1) (rs.length - (j + 1)), fun _ => true) H := by
        rw [iR2_ap (i := (j : Int) + 1) (j := (rs.length : Int)) (ph' := H) ?_ (by omega) (by omega) (by omega) (by omega)]
        · rw [show (((rs.length : Int) - ((j : Int) + 1)).toNat) = rs.length - (j + 1) by omega]
        · try simp only [bnd_pur, bnd_exx, bnd_nop, bnd_assoc, bnd_ite, eVar_0, eVar_s, eC_ap, gN_ap, eOp_ap, eUn_ap, eT_ap, eTru_ap, tAndM_ap, tOrM_ap, tNotM_ap, eIf_ap, sSeq_ap, sIf_ap, sRet_ap, sNext_ap, sExpr_ap, sAsg_ap, eCall_ap, eCallB_ap, aNil_ap, aCons_ap, eTup_ap, eLst_ap, eIs_ap, eAnd_ap, eOr_ap, eNot_ap, eChain_ap, eMeth_ap, fEnd_rt, fEnd_nx, fM_1, fM_2, fM_3, fM_4, l_add, l_sub, l_neg, l_lt, l_le, l_gt, l_ge, l_int, l_intb, l_abs, l_max, l_min, l_tb, l_truB, l_truI, l_truT, l_eqI, l_neI, lift_ret, pur_ap, exx_ap, ite_ap, Nat.reduceSub, List.reduceReplicate, List.set_cons_zero, List.set_cons_succ, if_true, if_false, decide_true, decide_false, Bool.false_eq_true, Bool.not_true, Bool.not_false, ↓reduceIte, l_eqL, l_neL, l_neB, is_i, is_b, is_n, is_s, is_t, k_ii, k_ib, k_bi, k_bb, k_ni, k_si, k_li, k_ll, k_tt, newT_0, newT_1, newT_2, newT_3, newT_4, newT_5, ixT_0, ixT_1, ixT_2, ixT_3, ixT_4, l_notN, l_isN, isNon_i, isNon_n, isNon_t, isNon_r, String.reduceEq, reduceCtorEq, in_l2, in_l3, Bool.or_false, Bool.false_or, Bool.or_true, Bool.true_or, Bool.and_true, Bool.true_and, Bool.and_false, Bool.false_and]
          rw [bnd_ok (len_ref hrH)]
          try simp only [bnd_pur, bnd_exx, bnd_nop, bnd_assoc, bnd_ite, eVar_0, eVar_s, eC_ap, gN_ap, eOp_ap, eUn_ap, eT_ap, eTru_ap, tAndM_ap, tOrM_ap, tNotM_ap, eIf_ap, sSeq_ap, sIf_ap, sRet_ap, sNext_ap, sExpr_ap, sAsg_ap, eCall_ap, eCallB_ap, aNil_ap, aCons_ap, eTup_ap, eLst_ap, eIs_ap, eAnd_ap, eOr_ap, eNot_ap, eChain_ap, eMeth_ap, fEnd_rt, fEnd_nx, fM_1, fM_2, fM_3, fM_4, l_add, l_sub, l_neg, l_lt, l_le, l_gt, l_ge, l_int, l_intb, l_abs, l_max, l_min, l_tb, l_truB, l_truI, l_truT, l_eqI, l_neI, lift_ret, pur_ap, exx_ap, ite_ap, Nat.reduceSub, List.reduceReplicate, List.set_cons_zero, List.set_cons_succ, if_true, if_false, decide_true, decide_false, Bool.false_eq_true, Bool.not_true, Bool.not_false, ↓reduceIte, l_eqL, l_neL, l_neB, is_i, is_b, is_n, is_s, is_t, k_ii, k_ib, k_bi, k_bb, k_ni, k_si, k_li, k_ll, k_tt, newT_0, newT_1, newT_2, newT_3, newT_4, newT_5, ixT_0, ixT_1, ixT_2, ixT_3, ixT_4, l_notN, l_isN, isNon_i, isNon_n, isNon_t, isNon_r, String.reduceEq, reduceCtorEq, in_l2, in_l3, Bool.or_false, Bool.false_or, Bool.or_true, Bool.true_or, Bool.and_true, Bool.true_and, Bool.and_false, Bool.false_and, List.length_map]
      obtain ⟨σ2, H2, e2, hI2⟩ := forG_inv (chk := fun _ => true) (g := gN 3)
        (b := sIf (eTru (eCall f_law_tied (aCons (eOp ixW (eVar 0) (eVar 2)) (aCons (eOp ixW (eVar 0) (eVar 3)) aNil)))) (sExpr (eMeth isL appendW (eVar 1) (aCons (eTup (aCons (eVar 2) (aCons (eVar 3) aNil))) aNil))) sNext)
        (fun k σ H => (∃ z, σ = [some (W.ref r), some (W.ref ph.length), some (.int (j : Int)), z]) ∧ Ex (ph ++ [.lst (allP rs j ++ (List.range k).filterMap (one rs j))]) H) (rngW ((j : Int) + 1) (rs.length - (j + 1))) [some (W.ref r), some (W.ref ph.length), some (.int (j : Int)), z] H
        (fun _ _ _ _ => rfl)
        (fun k w σ H hk hI => by
          obtain ⟨⟨z, rfl⟩, hE⟩ := hI
          obtain ⟨hkl, rfl⟩ := rngW_get hk
          have hrH := hE.get ((Ex.one _ _).get hr)
          have ek : ((j : Int) + 1 + (k : Int)) = ((j + 1 + k : Nat) : Int) := by omega
          rw [ek]
          refine ⟨[some (W.ref r), some (W.ref ph.length), some (.int (j : Int)), some (.int ((j + 1 + k : Nat) : Int))], H, rfl, ?_⟩
          obtain ⟨H1, e1, x1⟩ := tied_s (at_ rs j) (at_ rs (j + 1 + k)) H
          have rr : (List.range (k + 1)).filterMap (one rs j) = (List.range k).filterMap (one rs j) ++ (one rs j k).toList := by
            rw [List.range_succ, List.filterMap_append]
            cases h : one rs j k <;> simp [h]
          rw [rr]
          try simp only [bnd_pur, bnd_exx, bnd_nop, bnd_assoc, bnd_ite, eVar_0, eVar_s, eC_ap, gN_ap, eOp_ap, eUn_ap, eT_ap, eTru_ap, tAndM_ap, tOrM_ap, tNotM_ap, eIf_ap, sSeq_ap, sIf_ap, sRet_ap, sNext_ap, sExpr_ap, sAsg_ap, eCall_ap, eCallB_ap, aNil_ap, aCons_ap, eTup_ap, eLst_ap, eIs_ap, eAnd_ap, eOr_ap, eNot_ap, eChain_ap, eMeth_ap, fEnd_rt, fEnd_nx, fM_1, fM_2, fM_3, fM_4, l_add, l_sub, l_neg, l_lt, l_le, l_gt, l_ge, l_int, l_intb, l_abs, l_max, l_min, l_tb, l_truB, l_truI, l_truT, l_eqI, l_neI, lift_ret, pur_ap, exx_ap, ite_ap, Nat.reduceSub, List.reduceReplicate, List.set_cons_zero, List.set_cons_succ, if_true, if_false, decide_true, decide_false, Bool.false_eq_true, Bool.not_true, Bool.not_false, ↓reduceIte, l_eqL, l_neL, l_neB, is_i, is_b, is_n, is_s, is_t, k_ii, k_ib, k_bi, k_bb, k_ni, k_si, k_li, k_ll, k_tt, newT_0, newT_1, newT_2, newT_3, newT_4, newT_5, ixT_0, ixT_1, ixT_2, ixT_3, ixT_4, l_notN, l_isN, isNon_i, isNon_n, isNon_t, isNon_r, String.reduceEq, reduceCtorEq, in_l2, in_l3, Bool.or_false, Bool.false_or, Bool.or_true, Bool.true_or, Bool.and_true, Bool.true_and, Bool.and_false, Bool.false_and]
          rw [bnd_ok (ix_ref hrH (at_get hjl)), bnd_ok (ix_ref hrH (at_get (by omega))), bnd_ok e1]
          try simp only [bnd_pur, bnd_exx, bnd_nop, bnd_assoc, bnd_ite, eVar_0, eVar_s, eC_ap, gN_ap, eOp_ap, eUn_ap, eT_ap, eTru_ap, tAndM_ap, tOrM_ap, tNotM_ap, eIf_ap, sSeq_ap, sIf_ap, sRet_ap, sNext_ap, sExpr_ap, sAsg_ap, eCall_ap, eCallB_ap, aNil_ap, aCons_ap, eTup_ap, eLst_ap, eIs_ap, eAnd_ap, eOr_ap, eNot_ap, eChain_ap, eMeth_ap, fEnd_rt, fEnd_nx, fM_1, fM_2, fM_3, fM_4, l_add, l_sub, l_neg, l_lt, l_le, l_gt, l_ge, l_int, l_intb, l_abs, l_max, l_min, l_tb, l_truB, l_truI, l_truT, l_eqI, l_neI, lift_ret, pur_ap, exx_ap, ite_ap, Nat.reduceSub, List.reduceReplicate, List.set_cons_zero, List.set_cons_succ, if_true, if_false, decide_true, decide_false, Bool.false_eq_true, Bool.not_true, Bool.not_false, ↓reduceIte, l_eqL, l_neL, l_neB, is_i, is_b, is_n, is_s, is_t, k_ii, k_ib, k_bi, k_bb, k_ni, k_si, k_li, k_ll, k_tt, newT_0, newT_1, newT_2, newT_3, newT_4, newT_5, ixT_0, ixT_1, ixT_2, ixT_3, ixT_4, l_notN, l_isN, isNon_i, isNon_n, isNon_t, isNon_r, String.reduceEq, reduceCtorEq, in_l2, in_l3, Bool.or_false, Bool.false_or, Bool.or_true, Bool.true_or, Bool.and_true, Bool.true_and, Bool.and_false, Bool.false_and]
          unfold one at *
          have hL := x1.get (hE.get (get_new _ _))
          cases hb : bd (at_ rs j) (at_ rs (j + 1 + k)) with
          | false =>
            refine ⟨_, H1, rfl, _, .inl rfl, ⟨_, rfl⟩, ?_⟩
            simp only [Bool.false_eq_true, if_false, Option.toList_none, List.append_nil]
            exact hE.trans x1
          | true =>
            simp only [if_true, Option.toList_some]
            rw [bnd_ok (chk_ref hL)]
            try simp only [bnd_pur, bnd_exx, bnd_nop, bnd_assoc, bnd_ite, eVar_0, eVar_s, eC_ap, gN_ap, eOp_ap, eUn_ap, eT_ap, eTru_ap, tAndM_ap, tOrM_ap, tNotM_ap, eIf_ap, sSeq_ap, sIf_ap, sRet_ap, sNext_ap, sExpr_ap, sAsg_ap, eCall_ap, eCallB_ap, aNil_ap, aCons_ap, eTup_ap, eLst_ap, eIs_ap, eAnd_ap, eOr_ap, eNot_ap, eChain_ap, eMeth_ap, fEnd_rt, fEnd_nx, fM_1, fM_2, fM_3, fM_4, l_add, l_sub, l_neg, l_lt, l_le, l_gt, l_ge, l_int, l_intb, l_abs, l_max, l_min, l_tb, l_truB, l_truI, l_truT, l_eqI, l_neI, lift_ret, pur_ap, exx_ap, ite_ap, Nat.reduceSub, List.reduceReplicate, List.set_cons_zero, List.set_cons_succ, if_true, if_false, decide_true, decide_false, Bool.false_eq_true, Bool.not_true, Bool.not_false, ↓reduceIte, l_eqL, l_neL, l_neB, is_i, is_b, is_n, is_s, is_t, k_ii, k_ib, k_bi, k_bb, k_ni, k_si, k_li, k_ll, k_tt, newT_0, newT_1, newT_2, newT_3, newT_4, newT_5, ixT_0, ixT_1, ixT_2, ixT_3, ixT_4, l_notN, l_isN, isNon_i, isNon_n, isNon_t, isNon_r, String.reduceEq, reduceCtorEq, in_l2, in_l3, Bool.or_false, Bool.false_or, Bool.or_true, Bool.true_or, Bool.and_true, Bool.true_and, Bool.and_false, Bool.false_and]
            rw [bnd_ok (append_ref hL ?_ _)]
            · refine ⟨_, _, rfl, _, .inl rfl, ⟨_, rfl⟩, ?_⟩
              obtain ⟨m, rfl⟩ := hE.trans x1
              rw [set_mid]
              exact ⟨m, by simp [prW]⟩
            · have h1 := allP_len rs j
              have h2 : (List.filterMap (fun k => if bd (at_ rs j) (at_ rs (j + 1 + k)) = true then some (prW j (j + 1 + k)) else none) (List.range k)).length ≤ k := Nat.le_trans (List.length_filterMap_le _ _) (by simp)
              have h3 : j * rs.length ≤ 40 * 40 := Nat.mul_le_mul (by omega) hz
              rw [List.length_append]
              exact Nat.lt_of_lt_of_le (show _ < 100000 by omega) (small (by omega)))
        ⟨⟨z, rfl⟩, by simpa using hE⟩
      obtain ⟨⟨z2, rfl⟩, hE2⟩ := hI2
      rw [rngW_len] at hE2
      refine ⟨.nx [some (W.ref r), some (W.ref ph.length), some (.int (j : Int)), z2], H2, ?_, _, .inl rfl, ⟨_, _, rfl⟩, ?_⟩
      · rw [bnd_ok hin]; exact e2
      · rw [allP_succ]; exact hE2)
    ⟨⟨none, none, rfl⟩, Ex.refl _⟩
  obtain ⟨⟨y, z, rfl⟩, hE⟩ := hI
  rw [rngW_len, Int.toNat_natCast] at hE
  rw [bnd_ok e]
  refine ⟨ph', ?_, hE⟩
  try simp only [bnd_pur, bnd_exx, bnd_nop, bnd_assoc, bnd_ite, eVar_0, eVar_s, eC_ap, gN_ap, eOp_ap, eUn_ap, eT_ap, eTru_ap, tAndM_ap, tOrM_ap, tNotM_ap, eIf_ap, sSeq_ap, sIf_ap, sRet_ap, sNext_ap, sExpr_ap, sAsg_ap, eCall_ap, eCallB_ap, aNil_ap, aCons_ap, eTup_ap, eLst_ap, eIs_ap, eAnd_ap, eOr_ap, eNot_ap, eChain_ap, eMeth_ap, fEnd_rt, fEnd_nx, fM_1, fM_2, fM_3, fM_4, l_add, l_sub, l_neg, l_lt, l_le, l_gt, l_ge, l_int, l_intb, l_abs, l_max, l_min, l_tb, l_truB, l_truI, l_truT, l_eqI, l_neI, lift_ret, pur_ap, exx_ap, ite_ap, Nat.reduceSub, List.reduceReplicate, List.set_cons_zero, List.set_cons_succ, if_true, if_false, decide_true, decide_false, Bool.false_eq_true, Bool.not_true, Bool.not_false, ↓reduceIte, l_eqL, l_neL, l_neB, is_i, is_b, is_n, is_s, is_t, k_ii, k_ib, k_bi, k_bb, k_ni, k_si, k_li, k_ll, k_tt, newT_0, newT_1, newT_2, newT_3, newT_4, newT_5, ixT_0, ixT_1, ixT_2, ixT_3, ixT_4, l_notN, l_isN, isNon_i, isNon_n, isNon_t, isNon_r, String.reduceEq, reduceCtorEq, in_l2, in_l3, Bool.or_false, Bool.false_or, Bool.or_true, Bool.true_or, Bool.and_true, Bool.true_and, Bool.and_false, Bool.false_and]
end IL.K22

namespace IL.K22
open PySem L2
/-! what reads as data is equal to itself -/
theorem eqv_all_self : ∀ ds : List PyData, (∀ d ∈ ds, PyData.eqv d d = true) → PyData.eqvAll ds ds = true
  | [], _ => by unfold PyData.eqvAll; rfl
  | d :: ds, h => by
    simp only [PyData.eqvAll, h d (by simp), eqv_all_self ds (fun e he => h e (by simp [he])), Bool.and_self]
theorem mapO_mem {α β : Type} {f : α → Option β} : ∀ {l : List α} {m : List β}, mapO f l = some m → ∀ b ∈ m, ∃ a ∈ l, f a = some b
  | [], m, h, b, hb => by cases h; cases hb
  | a :: l, m, h, b, hb => by
    unfold mapO at h
    split at h
    · rename_i b' m' e1 e2
      cases h
      rcases List.mem_cons.mp hb with rfl | hb
      · exact ⟨a, by simp, e1⟩
      · obtain ⟨c, hc, e⟩ := mapO_mem e2 b hb
        exact ⟨c, by simp [hc], e⟩
    · cases h
theorem dat_self {ph : PH} : ∀ (n : Nat) (w : W) (d : PyData), dat ph n w = some d → PyData.eqv d d = true := by
  intro n
  induction n with
  | zero =>
    intro w d h
    cases w <;> simp only [dat] at h <;> first | (cases h; simp [PyData.eqv]; done) | skip
    · split at h
      · cases h; simp [PyData.eqv]
      · cases h
    all_goals cases h
  | succ n ih =>
    have key : ∀ (ws : List W) (ds : List PyData), mapO (dat ph n) ws = some ds → PyData.eqvAll ds ds = true := fun ws ds h =>
      eqv_all_self ds fun d hd => let ⟨w, _, e⟩ := mapO_mem h d hd; ih w d e
    intro w d h
    cases w with
    | non => cases h; simp [PyData.eqv]
    | bl b => cases h; simp [PyData.eqv]
    | int i => cases h; simp [PyData.eqv]
    | str x =>
      simp only [dat] at h
      split at h
      · cases h; simp [PyData.eqv]
      · cases h
    | tup ws =>
      simp only [dat] at h
      cases q : mapO (dat ph n) ws with
      | none => rw [q] at h; cases h
      | some ds => rw [q] at h; cases h; simp only [PyData.eqv, key ws ds q]
    | fl ws =>
      simp only [dat] at h
      cases q : mapO (dat ph n) ws with
      | none => rw [q] at h; cases h
      | some ds => rw [q] at h; cases h; simp only [PyData.eqv, key ws ds q]
    | ref i =>
      simp only [dat] at h
      split at h
      · rename_i ws hw
        cases q : mapO (dat ph n) ws with
        | none => rw [q] at h; cases h
        | some ds => rw [q] at h; cases h; simp only [PyData.eqv, key ws ds q]
      · cases h
    | exc c ns ws => simp only [dat] at h; cases h
theorem eq_same {ph : PH} {i j : Nat} {ws : List W} {ds : List PyData} (hi : ph[i]? = some (.lst ws)) (hj : ph[j]? = some (.lst ws)) (hd : mapO (dat ph 39) ws = some ds) : eqD ph (.ref i) (.ref j) = some true := by
  unfold eqD
  have e1 : dat ph 40 (.ref i) = some (.list ds) := by simp only [dat, hi, hd, Option.map_some]
  have e2 : dat ph 40 (.ref j) = some (.list ds) := by simp only [dat, hj, hd, Option.map_some]
  rw [e1, e2]
  simp only [dat_self 40 _ _ e1]
theorem l_eqD {ph : PH} {x y : W} {b : Bool} (h : eqD ph x y = some b) : lift (eqW x y) ph = .ok (.bl b) ph := by
  unfold lift eqW; simp only [h, Option.map_some]
theorem l_neD {ph : PH} {x y : W} {b : Bool} (h : eqD ph x y = some b) : lift (neW x y) ph = .ok (.bl (!b)) ph := by
  unfold lift neW; simp only [h, Option.map_some]
/-! the pairs -/
def pr (p : Nat × Nat) : W := prW p.1 p.2
theorem rowP_pr (rs : List Rw) (i : Nat) : ∃ qs : List (Nat × Nat), rowP rs i = qs.map pr := by
  unfold rowP
  generalize List.range (rs.length - (i + 1)) = l
  induction l with
  | nil => exact ⟨[], rfl⟩
  | cons k l ih =>
    obtain ⟨qs, e⟩ := ih
    cases h : one rs i k with
    | none => exact ⟨qs, by rw [List.filterMap_cons_none h, e]⟩
    | some w =>
      refine ⟨(i, i + 1 + k) :: qs, ?_⟩
      rw [List.filterMap_cons_some h, e]
      unfold one at h
      split at h
      · cases h; rfl
      · cases h
theorem allP_pr (rs : List Rw) : ∀ k, ∃ qs : List (Nat × Nat), allP rs k = qs.map pr
  | 0 => ⟨[], rfl⟩
  | k + 1 => by
    obtain ⟨a, e1⟩ := allP_pr rs k
    obtain ⟨b, e2⟩ := rowP_pr rs k
    exact ⟨a ++ b, by rw [allP_succ, e1, e2, List.map_append]⟩
theorem dat_pr (ph : PH) (n : Nat) (p : Nat × Nat) : dat ph (n + 1) (pr p) = some (.tuple [.int (p.1 : Int), .int (p.2 : Int)]) := by
  unfold pr prW
  simp only [dat, mapO, Option.map_some]
theorem dat_row (ph : PH) (n : Nat) (r : Rw) : ∃ d, dat ph (n + 1) r.W = some d := by
  cases r with
  | dd d w hw a b =>
    unfold Rw.W
    simp only [dat, mapO, so, hw, if_true, Option.map_some]
    exact ⟨_, rfl⟩
  | _ =>
    unfold Rw.W
    simp only [dat, mapO, so, if_true, Option.map_some]
    exact ⟨_, rfl⟩
theorem mapO_ex {α β : Type} {f : α → Option β} : ∀ l : List α, (∀ a ∈ l, ∃ b, f a = some b) → ∃ m, mapO f l = some m
  | [], _ => ⟨[], rfl⟩
  | a :: l, h => by
    obtain ⟨b, e⟩ := h a (by simp)
    obtain ⟨m, e'⟩ := mapO_ex l fun c hc => h c (by simp [hc])
    exact ⟨b :: m, by unfold mapO; rw [e, e']⟩
/-- the law's look at what was told -/
theorem right_s {ph : PH} {i j : Nat} (qs : List (Nat × Nat)) (hi : ph[i]? = some (.lst (qs.map pr))) (hj : ph[j]? = some (.lst (qs.map pr))) : f_law_right [.ref i, .ref j] ph = .ok (.bl true) ph := by
  unfold f_law_right b_law_right sFor
  try simp only [bnd_pur, bnd_exx, bnd_nop, bnd_assoc, bnd_ite, eVar_0, eVar_s, eC_ap, gN_ap, eOp_ap, eUn_ap, eT_ap, eTru_ap, tAndM_ap, tOrM_ap, tNotM_ap, eIf_ap, sSeq_ap, sIf_ap, sRet_ap, sNext_ap, sExpr_ap, sAsg_ap, eCall_ap, eCallB_ap, aNil_ap, aCons_ap, eTup_ap, eLst_ap, eIs_ap, eAnd_ap, eOr_ap, eNot_ap, eChain_ap, eMeth_ap, fEnd_rt, fEnd_nx, fM_1, fM_2, fM_3, fM_4, l_add, l_sub, l_neg, l_lt, l_le, l_gt, l_ge, l_int, l_intb, l_abs, l_max, l_min, l_tb, l_truB, l_truI, l_truT, l_eqI, l_neI, lift_ret, pur_ap, exx_ap, ite_ap, Nat.reduceSub, List.reduceReplicate, List.set_cons_zero, List.set_cons_succ, if_true, if_false, decide_true, decide_false, Bool.false_eq_true, Bool.not_true, Bool.not_false, ↓reduceIte, l_eqL, l_neL, l_neB, is_i, is_b, is_n, is_s, is_t, k_ii, k_ib, k_bi, k_bb, k_ni, k_si, k_li, k_ll, k_tt, newT_0, newT_1, newT_2, newT_3, newT_4, newT_5, ixT_0, ixT_1, ixT_2, ixT_3, ixT_4, l_notN, l_isN, isNon_i, isNon_n, isNon_t, isNon_r, String.reduceEq, reduceCtorEq, in_l2, in_l3, Bool.or_false, Bool.false_or, Bool.or_true, Bool.true_or, Bool.and_true, Bool.true_and, Bool.and_false, Bool.false_and]
  rw [bnd_ok (is_ref hi)]
  try simp only [bnd_pur, bnd_exx, bnd_nop, bnd_assoc, bnd_ite, eVar_0, eVar_s, eC_ap, gN_ap, eOp_ap, eUn_ap, eT_ap, eTru_ap, tAndM_ap, tOrM_ap, tNotM_ap, eIf_ap, sSeq_ap, sIf_ap, sRet_ap, sNext_ap, sExpr_ap, sAsg_ap, eCall_ap, eCallB_ap, aNil_ap, aCons_ap, eTup_ap, eLst_ap, eIs_ap, eAnd_ap, eOr_ap, eNot_ap, eChain_ap, eMeth_ap, fEnd_rt, fEnd_nx, fM_1, fM_2, fM_3, fM_4, l_add, l_sub, l_neg, l_lt, l_le, l_gt, l_ge, l_int, l_intb, l_abs, l_max, l_min, l_tb, l_truB, l_truI, l_truT, l_eqI, l_neI, lift_ret, pur_ap, exx_ap, ite_ap, Nat.reduceSub, List.reduceReplicate, List.set_cons_zero, List.set_cons_succ, if_true, if_false, decide_true, decide_false, Bool.false_eq_true, Bool.not_true, Bool.not_false, ↓reduceIte, l_eqL, l_neL, l_neB, is_i, is_b, is_n, is_s, is_t, k_ii, k_ib, k_bi, k_bb, k_ni, k_si, k_li, k_ll, k_tt, newT_0, newT_1, newT_2, newT_3, newT_4, newT_5, ixT_0, ixT_1, ixT_2, ixT_3, ixT_4, l_notN, l_isN, isNon_i, isNon_n, isNon_t, isNon_r, String.reduceEq, reduceCtorEq, in_l2, in_l3, Bool.or_false, Bool.false_or, Bool.or_true, Bool.true_or, Bool.and_true, Bool.true_and, Bool.and_false, Bool.false_and]
  rw [bnd_ok (l_neD (eq_same hi hj (mapO_map _ pr (fun p => .tuple [.int (p.1 : Int), .int (p.2 : Int)]) (fun p => dat_pr _ _ p) qs)))]
  try simp only [bnd_pur, bnd_exx, bnd_nop, bnd_assoc, bnd_ite, eVar_0, eVar_s, eC_ap, gN_ap, eOp_ap, eUn_ap, eT_ap, eTru_ap, tAndM_ap, tOrM_ap, tNotM_ap, eIf_ap, sSeq_ap, sIf_ap, sRet_ap, sNext_ap, sExpr_ap, sAsg_ap, eCall_ap, eCallB_ap, aNil_ap, aCons_ap, eTup_ap, eLst_ap, eIs_ap, eAnd_ap, eOr_ap, eNot_ap, eChain_ap, eMeth_ap, fEnd_rt, fEnd_nx, fM_1, fM_2, fM_3, fM_4, l_add, l_sub, l_neg, l_lt, l_le, l_gt, l_ge, l_int, l_intb, l_abs, l_max, l_min, l_tb, l_truB, l_truI, l_truT, l_eqI, l_neI, lift_ret, pur_ap, exx_ap, ite_ap, Nat.reduceSub, List.reduceReplicate, List.set_cons_zero, List.set_cons_succ, if_true, if_false, decide_true, decide_false, Bool.false_eq_true, Bool.not_true, Bool.not_false, ↓reduceIte, l_eqL, l_neL, l_neB, is_i, is_b, is_n, is_s, is_t, k_ii, k_ib, k_bi, k_bb, k_ni, k_si, k_li, k_ll, k_tt, newT_0, newT_1, newT_2, newT_3, newT_4, newT_5, ixT_0, ixT_1, ixT_2, ixT_3, ixT_4, l_notN, l_isN, isNon_i, isNon_n, isNon_t, isNon_r, String.reduceEq, reduceCtorEq, in_l2, in_l3, Bool.or_false, Bool.false_or, Bool.or_true, Bool.true_or, Bool.and_true, Bool.true_and, Bool.and_false, Bool.false_and]
  rw [bnd_ok (iBoth_ref (m := eVar 0) (σ := [some (W.ref i), some (W.ref j), none, none]) rfl hi)]
  obtain ⟨σ', ph', e, hI⟩ := forG_inv (chk := fun p => decide (p[i]? = some (PO.lst (qs.map pr)))) (g := gN 2)
    (b := sSeq (sIf (tNotM (eTru (eIs "tuple" (eVar 2)))) (sRet (eC (.bl false))) sNext) (fun σ => bnd (iBoth (eVar 2) σ) fun r => forG r.2 (gN 3) (sIf (tOrM (tNotM (eTru (eIs "int" (eVar 3)))) (eTru (eIs "bool" (eVar 3)))) (sRet (eC (.bl false))) sNext) r.1 σ))
    (fun k σ H => (∃ y z, σ = [some (W.ref i), some (W.ref j), y, z]) ∧ H = ph) (qs.map pr) [some (W.ref i), some (W.ref j), none, none] ph
    (fun k σ H hI => by rw [hI.2]; exact decide_eq_true hi)
    (fun k w σ H hk hI => by
      obtain ⟨⟨y, z, rfl⟩, rfl⟩ := hI
      obtain ⟨p, _, rfl⟩ := List.mem_map.mp (List.mem_of_getElem? hk)
      refine ⟨[some (W.ref i), some (W.ref j), some (pr p), z], H, rfl, .nx [some (W.ref i), some (W.ref j), some (pr p), some (.int (p.2 : Int))], H, ?_, _, .inl rfl, ⟨_, _, rfl⟩, rfl⟩
      unfold pr prW
      try simp only [bnd_pur, bnd_exx, bnd_nop, bnd_assoc, bnd_ite, eVar_0, eVar_s, eC_ap, gN_ap, eOp_ap, eUn_ap, eT_ap, eTru_ap, tAndM_ap, tOrM_ap, tNotM_ap, eIf_ap, sSeq_ap, sIf_ap, sRet_ap, sNext_ap, sExpr_ap, sAsg_ap, eCall_ap, eCallB_ap, aNil_ap, aCons_ap, eTup_ap, eLst_ap, eIs_ap, eAnd_ap, eOr_ap, eNot_ap, eChain_ap, eMeth_ap, fEnd_rt, fEnd_nx, fM_1, fM_2, fM_3, fM_4, l_add, l_sub, l_neg, l_lt, l_le, l_gt, l_ge, l_int, l_intb, l_abs, l_max, l_min, l_tb, l_truB, l_truI, l_truT, l_eqI, l_neI, lift_ret, pur_ap, exx_ap, ite_ap, Nat.reduceSub, List.reduceReplicate, List.set_cons_zero, List.set_cons_succ, if_true, if_false, decide_true, decide_false, Bool.false_eq_true, Bool.not_true, Bool.not_false, ↓reduceIte, l_eqL, l_neL, l_neB, is_i, is_b, is_n, is_s, is_t, k_ii, k_ib, k_bi, k_bb, k_ni, k_si, k_li, k_ll, k_tt, newT_0, newT_1, newT_2, newT_3, newT_4, newT_5, ixT_0, ixT_1, ixT_2, ixT_3, ixT_4, l_notN, l_isN, isNon_i, isNon_n, isNon_t, isNon_r, String.reduceEq, reduceCtorEq, in_l2, in_l3, Bool.or_false, Bool.false_or, Bool.or_true, Bool.true_or, Bool.and_true, Bool.true_and, Bool.and_false, Bool.false_and]
      rw [bnd_ok (iBoth_tup (m := eVar 2) (ws := [.int (p.1 : Int), .int (p.2 : Int)]) rfl)]
      unfold forG
      try simp only [bnd_pur, bnd_exx, bnd_nop, bnd_assoc, bnd_ite, eVar_0, eVar_s, eC_ap, gN_ap, eOp_ap, eUn_ap, eT_ap, eTru_ap, tAndM_ap, tOrM_ap, tNotM_ap, eIf_ap, sSeq_ap, sIf_ap, sRet_ap, sNext_ap, sExpr_ap, sAsg_ap, eCall_ap, eCallB_ap, aNil_ap, aCons_ap, eTup_ap, eLst_ap, eIs_ap, eAnd_ap, eOr_ap, eNot_ap, eChain_ap, eMeth_ap, fEnd_rt, fEnd_nx, fM_1, fM_2, fM_3, fM_4, l_add, l_sub, l_neg, l_lt, l_le, l_gt, l_ge, l_int, l_intb, l_abs, l_max, l_min, l_tb, l_truB, l_truI, l_truT, l_eqI, l_neI, lift_ret, pur_ap, exx_ap, ite_ap, Nat.reduceSub, List.reduceReplicate, List.set_cons_zero, List.set_cons_succ, if_true, if_false, decide_true, decide_false, Bool.false_eq_true, Bool.not_true, Bool.not_false, ↓reduceIte, l_eqL, l_neL, l_neB, is_i, is_b, is_n, is_s, is_t, k_ii, k_ib, k_bi, k_bb, k_ni, k_si, k_li, k_ll, k_tt, newT_0, newT_1, newT_2, newT_3, newT_4, newT_5, ixT_0, ixT_1, ixT_2, ixT_3, ixT_4, l_notN, l_isN, isNon_i, isNon_n, isNon_t, isNon_r, String.reduceEq, reduceCtorEq, in_l2, in_l3, Bool.or_false, Bool.false_or, Bool.or_true, Bool.true_or, Bool.and_true, Bool.true_and, Bool.and_false, Bool.false_and]
      unfold forG
      try simp only [bnd_pur, bnd_exx, bnd_nop, bnd_assoc, bnd_ite, eVar_0, eVar_s, eC_ap, gN_ap, eOp_ap, eUn_ap, eT_ap, eTru_ap, tAndM_ap, tOrM_ap, tNotM_ap, eIf_ap, sSeq_ap, sIf_ap, sRet_ap, sNext_ap, sExpr_ap, sAsg_ap, eCall_ap, eCallB_ap, aNil_ap, aCons_ap, eTup_ap, eLst_ap, eIs_ap, eAnd_ap, eOr_ap, eNot_ap, eChain_ap, eMeth_ap, fEnd_rt, fEnd_nx, fM_1, fM_2, fM_3, fM_4, l_add, l_sub, l_neg, l_lt, l_le, l_gt, l_ge, l_int, l_intb, l_abs, l_max, l_min, l_tb, l_truB, l_truI, l_truT, l_eqI, l_neI, lift_ret, pur_ap, exx_ap, ite_ap, Nat.reduceSub, List.reduceReplicate, List.set_cons_zero, List.set_cons_succ, if_true, if_false, decide_true, decide_false, Bool.false_eq_true, Bool.not_true, Bool.not_false, ↓reduceIte, l_eqL, l_neL, l_neB, is_i, is_b, is_n, is_s, is_t, k_ii, k_ib, k_bi, k_bb, k_ni, k_si, k_li, k_ll, k_tt, newT_0, newT_1, newT_2, newT_3, newT_4, newT_5, ixT_0, ixT_1, ixT_2, ixT_3, ixT_4, l_notN, l_isN, isNon_i, isNon_n, isNon_t, isNon_r, String.reduceEq, reduceCtorEq, in_l2, in_l3, Bool.or_false, Bool.false_or, Bool.or_true, Bool.true_or, Bool.and_true, Bool.true_and, Bool.and_false, Bool.false_and]
      unfold forG
      try simp only [bnd_pur, bnd_exx, bnd_nop, bnd_assoc, bnd_ite, eVar_0, eVar_s, eC_ap, gN_ap, eOp_ap, eUn_ap, eT_ap, eTru_ap, tAndM_ap, tOrM_ap, tNotM_ap, eIf_ap, sSeq_ap, sIf_ap, sRet_ap, sNext_ap, sExpr_ap, sAsg_ap, eCall_ap, eCallB_ap, aNil_ap, aCons_ap, eTup_ap, eLst_ap, eIs_ap, eAnd_ap, eOr_ap, eNot_ap, eChain_ap, eMeth_ap, fEnd_rt, fEnd_nx, fM_1, fM_2, fM_3, fM_4, l_add, l_sub, l_neg, l_lt, l_le, l_gt, l_ge, l_int, l_intb, l_abs, l_max, l_min, l_tb, l_truB, l_truI, l_truT, l_eqI, l_neI, lift_ret, pur_ap, exx_ap, ite_ap, Nat.reduceSub, List.reduceReplicate, List.set_cons_zero, List.set_cons_succ, if_true, if_false, decide_true, decide_false, Bool.false_eq_true, Bool.not_true, Bool.not_false, ↓reduceIte, l_eqL, l_neL, l_neB, is_i, is_b, is_n, is_s, is_t, k_ii, k_ib, k_bi, k_bb, k_ni, k_si, k_li, k_ll, k_tt, newT_0, newT_1, newT_2, newT_3, newT_4, newT_5, ixT_0, ixT_1, ixT_2, ixT_3, ixT_4, l_notN, l_isN, isNon_i, isNon_n, isNon_t, isNon_r, String.reduceEq, reduceCtorEq, in_l2, in_l3, Bool.or_false, Bool.false_or, Bool.or_true, Bool.true_or, Bool.and_true, Bool.true_and, Bool.and_false, Bool.false_and])
    ⟨⟨none, none, rfl⟩, rfl⟩
  obtain ⟨⟨y, z, rfl⟩, rfl⟩ := hI
  rw [bnd_ok e]
  try simp only [bnd_pur, bnd_exx, bnd_nop, bnd_assoc, bnd_ite, eVar_0, eVar_s, eC_ap, gN_ap, eOp_ap, eUn_ap, eT_ap, eTru_ap, tAndM_ap, tOrM_ap, tNotM_ap, eIf_ap, sSeq_ap, sIf_ap, sRet_ap, sNext_ap, sExpr_ap, sAsg_ap, eCall_ap, eCallB_ap, aNil_ap, aCons_ap, eTup_ap, eLst_ap, eIs_ap, eAnd_ap, eOr_ap, eNot_ap, eChain_ap, eMeth_ap, fEnd_rt, fEnd_nx, fM_1, fM_2, fM_3, fM_4, l_add, l_sub, l_neg, l_lt, l_le, l_gt, l_ge, l_int, l_intb, l_abs, l_max, l_min, l_tb, l_truB, l_truI, l_truT, l_eqI, l_neI, lift_ret, pur_ap, exx_ap, ite_ap, Nat.reduceSub, List.reduceReplicate, List.set_cons_zero, List.set_cons_succ, if_true, if_false, decide_true, decide_false, Bool.false_eq_true, Bool.not_true, Bool.not_false, ↓reduceIte, l_eqL, l_neL, l_neB, is_i, is_b, is_n, is_s, is_t, k_ii, k_ib, k_bi, k_bb, k_ni, k_si, k_li, k_ll, k_tt, newT_0, newT_1, newT_2, newT_3, newT_4, newT_5, ixT_0, ixT_1, ixT_2, ixT_3, ixT_4, l_notN, l_isN, isNon_i, isNon_n, isNon_t, isNon_r, String.reduceEq, reduceCtorEq, in_l2, in_l3, Bool.or_false, Bool.false_or, Bool.or_true, Bool.true_or, Bool.and_true, Bool.true_and, Bool.and_false, Bool.false_and]
end IL.K22

namespace IL.K22
open PySem L2
noncomputable def b_law_10 : SM := (sRet (eAnd (eCall f_law_right (aCons (eCall f_bound (aCons (eVar 5) aNil)) (aCons (eVar 6) aNil))) (eAnd (eOp eqW (eVar 7) (eLst aNil)) (eOp eqW (eVar 5) (eVar 4)))))
noncomputable def b_law_9 : SM := sSeq (sExpr (eMeth isL clearW (eVar 7) aNil)) b_law_10
noncomputable def b_law_8 : SM := sSeq (sIf (tNotM (eTru (eCall f_law_right (aCons (eVar 7) (aCons (eVar 6) aNil))))) (sRet (eC (.bl false))) sNext) b_law_9
noncomputable def b_law_7 : SM := sSeq (sAsg (eCall f_bound (aCons (eVar 5) aNil)) (gN 7)) b_law_8
noncomputable def b_law_6 : SM := sSeq (sAsg (eCall f_law_due (aCons (eVar 4) aNil)) (gN 6)) b_law_7
noncomputable def b_law_5 : SM := sSeq (sAsg (eCallB listW (aCons (eVar 4) aNil)) (gN 5)) b_law_6
noncomputable def b_law_4 : SM := sSeq (sAsg (eComp (iR1 (aCons (eVar 1) aNil)) [none, some 2, some 3, some 0] (gN 0) cTrue (eCall f_law_row_by (aCons (eOp addW (eCall f_law_cell_at (aCons (eVar 3) (aCons (eOp addW (eC (.int (2))) (eOp modW (eVar 0) (eC (.int (40))))) aNil))) (eOp mulW (eC (.int (7))) (eVar 0))) (aCons (eVar 1) (aCons (eVar 2) aNil))))) (gN 4)) b_law_5
noncomputable def b_law_3 : SM := sSeq (sAsg (eOp addW (eC (.int (1))) (eOp modW (eOp divW (eCall f_law_cell_at (aCons (eVar 0) (aCons (eC (.int (1))) aNil))) (eC (.int (8)))) (eC (.int (12))))) (gN 3)) b_law_4
noncomputable def b_law_2 : SM := sSeq (sAsg (eOp addW (eC (.int (2))) (eOp modW (eCall f_law_cell_at (aCons (eVar 0) (aCons (eC (.int (1))) aNil))) (eC (.int (8))))) (gN 2)) b_law_3
noncomputable def b_law_1 : SM := sSeq (sIf (eT (eOp eqW (eOp modW (eOp divW (eCall f_law_cell_at (aCons (eVar 0) (aCons (eC (.int (0))) aNil))) (eC (.int (13)))) (eC (.int (9)))) (eC (.int (1))))) (sAsg (eOp addW (eC (.int (13))) (eOp modW (eOp divW (eCall f_law_cell_at (aCons (eVar 0) (aCons (eC (.int (0))) aNil))) (eC (.int (117)))) (eC (.int (18))))) (gN 1)) sNext) b_law_2
noncomputable def b_law_0 : SM := sSeq (sAsg (eOp modW (eCall f_law_cell_at (aCons (eVar 0) (aCons (eC (.int (0))) aNil))) (eC (.int (13)))) (gN 1)) b_law_1
theorem b_law_eq : b_law = b_law_0 := rfl

theorem rows_of : ∀ ws : List W, (∀ (j : Nat) w, ws[j]? = some w → ∃ r : Rw, w = r.W) → ∃ rs : List Rw, ws = rs.map Rw.W
  | [], _ => ⟨[], rfl⟩
  | w :: ws, h => by
    obtain ⟨r, rfl⟩ := h 0 w rfl
    obtain ⟨rs, rfl⟩ := rows_of ws fun j u hu => h (j + 1) u (by simpa using hu)
    exact ⟨r :: rs, rfl⟩
theorem rows_s (ns : List Int) (n : Nat) (bx sl : Int) (hb : bx ≠ 0) (hs : sl ≠ 0) (hn : n ≤ 40) (ph : PH) (a b c d : Option W) : ∃ (rs : List Rw) (ph' : PH), rs.length = n ∧ eComp (iR1 (aCons (eVar 1) aNil)) [none, some 2, some 3, some 0] (gN 0) cTrue (eCall f_law_row_by (aCons (eOp addW (eCall f_law_cell_at (aCons (eVar 3) (aCons (eOp addW (eC (.int (2))) (eOp modW (eVar 0) (eC (.int (40))))) aNil))) (eOp mulW (eC (.int (7))) (eVar 0))) (aCons (eVar 1) (aCons (eVar 2) aNil)))) [some (.fl (ns.map W.int)), some (.int (n : Int)), some (.int bx), some (.int sl), a, b, c, d] ph = .ok (.ref ph.length) ph' ∧ Ex (ph ++ [.lst (rs.map Rw.W)]) ph' := by
  have him : iR1 (aCons (eVar 1) aNil) [some (.fl (ns.map W.int)), some (.int (n : Int)), some (.int bx), some (.int sl), a, b, c, d] ph = .ok ((List.range n).map fun k : Nat => W.int (0 + ((k : Nat) : Int)), fun _ => true) ph := by
    rw [iR1_ap (j := (n : Int)) (ph' := ph) (by try simp only [bnd_pur, bnd_exx, bnd_nop, bnd_assoc, bnd_ite, eVar_0, eVar_s, eC_ap, gN_ap, eOp_ap, eUn_ap, eT_ap, eTru_ap, tAndM_ap, tOrM_ap, tNotM_ap, eIf_ap, sSeq_ap, sIf_ap, sRet_ap, sNext_ap, sExpr_ap, sAsg_ap, eCall_ap, eCallB_ap, aNil_ap, aCons_ap, eTup_ap, eLst_ap, eIs_ap, eAnd_ap, eOr_ap, eNot_ap, eChain_ap, eMeth_ap, fEnd_rt, fEnd_nx, fM_1, fM_2, fM_3, fM_4, l_add, l_sub, l_neg, l_lt, l_le, l_gt, l_ge, l_int, l_intb, l_abs, l_max, l_min, l_tb, l_truB, l_truI, l_truT, l_eqI, l_neI, lift_ret, pur_ap, exx_ap, ite_ap, Nat.reduceSub, List.reduceReplicate, List.set_cons_zero, List.set_cons_succ, if_true, if_false, decide_true, decide_false, Bool.false_eq_true, Bool.not_true, Bool.not_false, ↓reduceIte, l_eqL, l_neL, l_neB, is_i, is_b, is_n, is_s, is_t, k_ii, k_ib, k_bi, k_bb, k_ni, k_si, k_li, k_ll, k_tt, newT_0, newT_1, newT_2, newT_3, newT_4, newT_5, ixT_0, ixT_1, ixT_2, ixT_3, ixT_4, l_notN, l_isN, isNon_i, isNon_n, isNon_t, isNon_r, String.reduceEq, reduceCtorEq, in_l2, in_l3, Bool.or_false, Bool.false_or, Bool.or_true, Bool.true_or, Bool.and_true, Bool.true_and, Bool.and_false, Bool.false_and]) (by omega) (by omega), Int.toNat_natCast]; rfl
  obtain ⟨ws, ph', e, x, hl, hR⟩ := comp_rel (cap := [none, some 2, some 3, some 0]) (g := gN 0) (c := cTrue) (e := eCall f_law_row_by (aCons (eOp addW (eCall f_law_cell_at (aCons (eVar 3) (aCons (eOp addW (eC (.int (2))) (eOp modW (eVar 0) (eC (.int (40))))) aNil))) (eOp mulW (eC (.int (7))) (eVar 0))) (aCons (eVar 1) (aCons (eVar 2) aNil)))) _ _ him (fun _ _ => rfl) (small (by simp; omega)) (fun _ w => ∃ r : Rw, w = r.W) (fun σ => ∃ y, σ = [y, some (.int bx), some (.int sl), some (.fl (ns.map W.int))]) ⟨none, rfl⟩ (fun j k hk σ H hS hE => by
    obtain ⟨y, rfl⟩ := hS
    refine ⟨_, rfl, ⟨_, rfl⟩, H, rfl, Ex.refl _, ?_⟩
    show ∃ w H2, eCall f_law_row_by (aCons (eOp addW (eCall f_law_cell_at (aCons (eVar 3) (aCons (eOp addW (eC (.int (2))) (eOp modW (eVar 0) (eC (.int (40))))) aNil))) (eOp mulW (eC (.int (7))) (eVar 0))) (aCons (eVar 1) (aCons (eVar 2) aNil))) [some (.int (0 + (k : Int))), some (.int bx), some (.int sl), some (.fl (ns.map W.int))] H = .ok w H2 ∧ Ex H H2 ∧ ∃ r : Rw, w = r.W
    have hm : mulC 7 (0 + (k : Int)) = true := by unfold mulC; simp
    try simp only [bnd_pur, bnd_exx, bnd_nop, bnd_assoc, bnd_ite, eVar_0, eVar_s, eC_ap, gN_ap, eOp_ap, eUn_ap, eT_ap, eTru_ap, tAndM_ap, tOrM_ap, tNotM_ap, eIf_ap, sSeq_ap, sIf_ap, sRet_ap, sNext_ap, sExpr_ap, sAsg_ap, eCall_ap, eCallB_ap, aNil_ap, aCons_ap, eTup_ap, eLst_ap, eIs_ap, eAnd_ap, eOr_ap, eNot_ap, eChain_ap, eMeth_ap, fEnd_rt, fEnd_nx, fM_1, fM_2, fM_3, fM_4, l_add, l_sub, l_neg, l_lt, l_le, l_gt, l_ge, l_int, l_intb, l_abs, l_max, l_min, l_tb, l_truB, l_truI, l_truT, l_eqI, l_neI, lift_ret, pur_ap, exx_ap, ite_ap, Nat.reduceSub, List.reduceReplicate, List.set_cons_zero, List.set_cons_succ, if_true, if_false, decide_true, decide_false, Bool.false_eq_true, Bool.not_true, Bool.not_false, ↓reduceIte, l_eqL, l_neL, l_neB, is_i, is_b, is_n, is_s, is_t, k_ii, k_ib, k_bi, k_bb, k_ni, k_si, k_li, k_ll, k_tt, newT_0, newT_1, newT_2, newT_3, newT_4, newT_5, ixT_0, ixT_1, ixT_2, ixT_3, ixT_4, l_notN, l_isN, isNon_i, isNon_n, isNon_t, isNon_r, String.reduceEq, reduceCtorEq, in_l2, in_l3, Bool.or_false, Bool.false_or, Bool.or_true, Bool.true_or, Bool.and_true, Bool.true_and, Bool.and_false, Bool.false_and, l_mod (show (40 : Int) ≠ 0 by decide), l_mul hm]
    have q := fmod_range (0 + (k : Int)) 40 (by decide)
    obtain ⟨t, ht⟩ : ∃ t : Nat, 2 + (0 + (k : Int)).fmod 40 = (t : Int) := ⟨(2 + (0 + (k : Int)).fmod 40).toNat, by omega⟩
    rw [ht, bnd_ok (cell_at ns t H)]
    try simp only [bnd_pur, bnd_exx, bnd_nop, bnd_assoc, bnd_ite, eVar_0, eVar_s, eC_ap, gN_ap, eOp_ap, eUn_ap, eT_ap, eTru_ap, tAndM_ap, tOrM_ap, tNotM_ap, eIf_ap, sSeq_ap, sIf_ap, sRet_ap, sNext_ap, sExpr_ap, sAsg_ap, eCall_ap, eCallB_ap, aNil_ap, aCons_ap, eTup_ap, eLst_ap, eIs_ap, eAnd_ap, eOr_ap, eNot_ap, eChain_ap, eMeth_ap, fEnd_rt, fEnd_nx, fM_1, fM_2, fM_3, fM_4, l_add, l_sub, l_neg, l_lt, l_le, l_gt, l_ge, l_int, l_intb, l_abs, l_max, l_min, l_tb, l_truB, l_truI, l_truT, l_eqI, l_neI, lift_ret, pur_ap, exx_ap, ite_ap, Nat.reduceSub, List.reduceReplicate, List.set_cons_zero, List.set_cons_succ, if_true, if_false, decide_true, decide_false, Bool.false_eq_true, Bool.not_true, Bool.not_false, ↓reduceIte, l_eqL, l_neL, l_neB, is_i, is_b, is_n, is_s, is_t, k_ii, k_ib, k_bi, k_bb, k_ni, k_si, k_li, k_ll, k_tt, newT_0, newT_1, newT_2, newT_3, newT_4, newT_5, ixT_0, ixT_1, ixT_2, ixT_3, ixT_4, l_notN, l_isN, isNon_i, isNon_n, isNon_t, isNon_r, String.reduceEq, reduceCtorEq, in_l2, in_l3, Bool.or_false, Bool.false_or, Bool.or_true, Bool.true_or, Bool.and_true, Bool.true_and, Bool.and_false, Bool.false_and]
    obtain ⟨r, H2, e, x⟩ := row_by (ns.getD t 0 + 7 * (0 + (k : Int))) bx sl hb hs H
    exact ⟨_, H2, e, x, r, rfl⟩)
  obtain ⟨rs, rfl⟩ := rows_of ws hR
  exact ⟨rs, ph', by simpa using hl, e, x⟩
def Fine (o : Out Fl) : Prop := ∃ ph', o = .ok (.rt (.bl true)) ph'
theorem t5 (rs : List Rw) (hz : rs.length ≤ 40) {ph : PH} {r : Nat} (hr : ph[r]? = some (.lst (rs.map Rw.W))) (s : W) (a b c : W) (x y z : Option W) : Fine (b_law_5 [some s, some a, some b, some c, some (.ref r), x, y, z] ph) := by
  have hds : ∀ ph : PH, ∃ ds, mapO (dat ph 39) (rs.map Rw.W) = some ds := fun ph => mapO_ex _ fun w hw => by
    obtain ⟨q, _, rfl⟩ := List.mem_map.mp hw
    exact dat_row ph 38 q
  obtain ⟨qs, hqs⟩ := allP_pr rs rs.length
  have hrl : r < ph.length := (List.getElem?_eq_some_iff.mp hr).1
  unfold b_law_5 b_law_6 b_law_7 b_law_8 b_law_9 b_law_10
  try simp only [bnd_pur, bnd_exx, bnd_nop, bnd_assoc, bnd_ite, eVar_0, eVar_s, eC_ap, gN_ap, eOp_ap, eUn_ap, eT_ap, eTru_ap, tAndM_ap, tOrM_ap, tNotM_ap, eIf_ap, sSeq_ap, sIf_ap, sRet_ap, sNext_ap, sExpr_ap, sAsg_ap, eCall_ap, eCallB_ap, aNil_ap, aCons_ap, eTup_ap, eLst_ap, eIs_ap, eAnd_ap, eOr_ap, eNot_ap, eChain_ap, eMeth_ap, fEnd_rt, fEnd_nx, fM_1, fM_2, fM_3, fM_4, l_add, l_sub, l_neg, l_lt, l_le, l_gt, l_ge, l_int, l_intb, l_abs, l_max, l_min, l_tb, l_truB, l_truI, l_truT, l_eqI, l_neI, lift_ret, pur_ap, exx_ap, ite_ap, Nat.reduceSub, List.reduceReplicate, List.set_cons_zero, List.set_cons_succ, if_true, if_false, decide_true, decide_false, Bool.false_eq_true, Bool.not_true, Bool.not_false, ↓reduceIte, l_eqL, l_neL, l_neB, is_i, is_b, is_n, is_s, is_t, k_ii, k_ib, k_bi, k_bb, k_ni, k_si, k_li, k_ll, k_tt, newT_0, newT_1, newT_2, newT_3, newT_4, newT_5, ixT_0, ixT_1, ixT_2, ixT_3, ixT_4, l_notN, l_isN, isNon_i, isNon_n, isNon_t, isNon_r, String.reduceEq, reduceCtorEq, in_l2, in_l3, Bool.or_false, Bool.false_or, Bool.or_true, Bool.true_or, Bool.and_true, Bool.true_and, Bool.and_false, Bool.false_and]
  rw [bnd_ok (list_ref hr)]
  try simp only [bnd_pur, bnd_exx, bnd_nop, bnd_assoc, bnd_ite, eVar_0, eVar_s, eC_ap, gN_ap, eOp_ap, eUn_ap, eT_ap, eTru_ap, tAndM_ap, tOrM_ap, tNotM_ap, eIf_ap, sSeq_ap, sIf_ap, sRet_ap, sNext_ap, sExpr_ap, sAsg_ap, eCall_ap, eCallB_ap, aNil_ap, aCons_ap, eTup_ap, eLst_ap, eIs_ap, eAnd_ap, eOr_ap, eNot_ap, eChain_ap, eMeth_ap, fEnd_rt, fEnd_nx, fM_1, fM_2, fM_3, fM_4, l_add, l_sub, l_neg, l_lt, l_le, l_gt, l_ge, l_int, l_intb, l_abs, l_max, l_min, l_tb, l_truB, l_truI, l_truT, l_eqI, l_neI, lift_ret, pur_ap, exx_ap, ite_ap, Nat.reduceSub, List.reduceReplicate, List.set_cons_zero, List.set_cons_succ, if_true, if_false, decide_true, decide_false, Bool.false_eq_true, Bool.not_true, Bool.not_false, ↓reduceIte, l_eqL, l_neL, l_neB, is_i, is_b, is_n, is_s, is_t, k_ii, k_ib, k_bi, k_bb, k_ni, k_si, k_li, k_ll, k_tt, newT_0, newT_1, newT_2, newT_3, newT_4, newT_5, ixT_0, ixT_1, ixT_2, ixT_3, ixT_4, l_notN, l_isN, isNon_i, isNon_n, isNon_t, isNon_r, String.reduceEq, reduceCtorEq, in_l2, in_l3, Bool.or_false, Bool.false_or, Bool.or_true, Bool.true_or, Bool.and_true, Bool.true_and, Bool.and_false, Bool.false_and]
  -- what is due
  have hr1 : (ph ++ [PO.lst (rs.map Rw.W)])[r]? = some (.lst (rs.map Rw.W)) := (Ex.one _ _).get hr
  have hh1 : (ph ++ [PO.lst (rs.map Rw.W)])[ph.length]? = some (.lst (rs.map Rw.W)) := get_new _ _
  have l1 : (ph ++ [PO.lst (rs.map Rw.W)]).length = ph.length + 1 := by simp
  generalize hp1 : ph ++ [PO.lst (rs.map Rw.W)] = ph1 at hr1 hh1 l1
  obtain ⟨ph2, e2, x2⟩ := due_all rs hz r hr1
  rw [bnd_ok e2]
  try simp only [bnd_pur, bnd_exx, bnd_nop, bnd_assoc, bnd_ite, eVar_0, eVar_s, eC_ap, gN_ap, eOp_ap, eUn_ap, eT_ap, eTru_ap, tAndM_ap, tOrM_ap, tNotM_ap, eIf_ap, sSeq_ap, sIf_ap, sRet_ap, sNext_ap, sExpr_ap, sAsg_ap, eCall_ap, eCallB_ap, aNil_ap, aCons_ap, eTup_ap, eLst_ap, eIs_ap, eAnd_ap, eOr_ap, eNot_ap, eChain_ap, eMeth_ap, fEnd_rt, fEnd_nx, fM_1, fM_2, fM_3, fM_4, l_add, l_sub, l_neg, l_lt, l_le, l_gt, l_ge, l_int, l_intb, l_abs, l_max, l_min, l_tb, l_truB, l_truI, l_truT, l_eqI, l_neI, lift_ret, pur_ap, exx_ap, ite_ap, Nat.reduceSub, List.reduceReplicate, List.set_cons_zero, List.set_cons_succ, if_true, if_false, decide_true, decide_false, Bool.false_eq_true, Bool.not_true, Bool.not_false, ↓reduceIte, l_eqL, l_neL, l_neB, is_i, is_b, is_n, is_s, is_t, k_ii, k_ib, k_bi, k_bb, k_ni, k_si, k_li, k_ll, k_tt, newT_0, newT_1, newT_2, newT_3, newT_4, newT_5, ixT_0, ixT_1, ixT_2, ixT_3, ixT_4, l_notN, l_isN, isNon_i, isNon_n, isNon_t, isNon_r, String.reduceEq, reduceCtorEq, in_l2, in_l3, Bool.or_false, Bool.false_or, Bool.or_true, Bool.true_or, Bool.and_true, Bool.true_and, Bool.and_false, Bool.false_and]
  have x12 := (Ex.one _ _).trans x2
  obtain ⟨ph3, e3, x3⟩ := bound_all rs hz ph.length (x12.get hh1)
  rw [bnd_ok e3]
  try simp only [bnd_pur, bnd_exx, bnd_nop, bnd_assoc, bnd_ite, eVar_0, eVar_s, eC_ap, gN_ap, eOp_ap, eUn_ap, eT_ap, eTru_ap, tAndM_ap, tOrM_ap, tNotM_ap, eIf_ap, sSeq_ap, sIf_ap, sRet_ap, sNext_ap, sExpr_ap, sAsg_ap, eCall_ap, eCallB_ap, aNil_ap, aCons_ap, eTup_ap, eLst_ap, eIs_ap, eAnd_ap, eOr_ap, eNot_ap, eChain_ap, eMeth_ap, fEnd_rt, fEnd_nx, fM_1, fM_2, fM_3, fM_4, l_add, l_sub, l_neg, l_lt, l_le, l_gt, l_ge, l_int, l_intb, l_abs, l_max, l_min, l_tb, l_truB, l_truI, l_truT, l_eqI, l_neI, lift_ret, pur_ap, exx_ap, ite_ap, Nat.reduceSub, List.reduceReplicate, List.set_cons_zero, List.set_cons_succ, if_true, if_false, decide_true, decide_false, Bool.false_eq_true, Bool.not_true, Bool.not_false, ↓reduceIte, l_eqL, l_neL, l_neB, is_i, is_b, is_n, is_s, is_t, k_ii, k_ib, k_bi, k_bb, k_ni, k_si, k_li, k_ll, k_tt, newT_0, newT_1, newT_2, newT_3, newT_4, newT_5, ixT_0, ixT_1, ixT_2, ixT_3, ixT_4, l_notN, l_isN, isNon_i, isNon_n, isNon_t, isNon_r, String.reduceEq, reduceCtorEq, in_l2, in_l3, Bool.or_false, Bool.false_or, Bool.or_true, Bool.true_or, Bool.and_true, Bool.true_and, Bool.and_false, Bool.false_and]
  have x23 := (Ex.one _ _).trans x3
  have l2 : ph1.length < ph2.length := by have := x2.len; simp at this; omega
  have hd3 : ph3[ph1.length]? = some (.lst (qs.map pr)) := x23.get (x2.get (by rw [← hqs]; exact get_new _ _))
  have hf3 : ph3[ph2.length]? = some (.lst (qs.map pr)) := x3.get (by rw [← hqs]; exact get_new _ _)
  have hr3 := x23.get (x12.get hr1)
  have hh3 := x23.get (x12.get hh1)
  rw [bnd_ok (right_s qs hf3 hd3)]
  try simp only [bnd_pur, bnd_exx, bnd_nop, bnd_assoc, bnd_ite, eVar_0, eVar_s, eC_ap, gN_ap, eOp_ap, eUn_ap, eT_ap, eTru_ap, tAndM_ap, tOrM_ap, tNotM_ap, eIf_ap, sSeq_ap, sIf_ap, sRet_ap, sNext_ap, sExpr_ap, sAsg_ap, eCall_ap, eCallB_ap, aNil_ap, aCons_ap, eTup_ap, eLst_ap, eIs_ap, eAnd_ap, eOr_ap, eNot_ap, eChain_ap, eMeth_ap, fEnd_rt, fEnd_nx, fM_1, fM_2, fM_3, fM_4, l_add, l_sub, l_neg, l_lt, l_le, l_gt, l_ge, l_int, l_intb, l_abs, l_max, l_min, l_tb, l_truB, l_truI, l_truT, l_eqI, l_neI, lift_ret, pur_ap, exx_ap, ite_ap, Nat.reduceSub, List.reduceReplicate, List.set_cons_zero, List.set_cons_succ, if_true, if_false, decide_true, decide_false, Bool.false_eq_true, Bool.not_true, Bool.not_false, ↓reduceIte, l_eqL, l_neL, l_neB, is_i, is_b, is_n, is_s, is_t, k_ii, k_ib, k_bi, k_bb, k_ni, k_si, k_li, k_ll, k_tt, newT_0, newT_1, newT_2, newT_3, newT_4, newT_5, ixT_0, ixT_1, ixT_2, ixT_3, ixT_4, l_notN, l_isN, isNon_i, isNon_n, isNon_t, isNon_r, String.reduceEq, reduceCtorEq, in_l2, in_l3, Bool.or_false, Bool.false_or, Bool.or_true, Bool.true_or, Bool.and_true, Bool.true_and, Bool.and_false, Bool.false_and]
  rw [bnd_ok (chk_ref hf3)]
  rw [bnd_ok (clear_ref hf3)]
  try simp only [bnd_pur, bnd_exx, bnd_nop, bnd_assoc, bnd_ite, eVar_0, eVar_s, eC_ap, gN_ap, eOp_ap, eUn_ap, eT_ap, eTru_ap, tAndM_ap, tOrM_ap, tNotM_ap, eIf_ap, sSeq_ap, sIf_ap, sRet_ap, sNext_ap, sExpr_ap, sAsg_ap, eCall_ap, eCallB_ap, aNil_ap, aCons_ap, eTup_ap, eLst_ap, eIs_ap, eAnd_ap, eOr_ap, eNot_ap, eChain_ap, eMeth_ap, fEnd_rt, fEnd_nx, fM_1, fM_2, fM_3, fM_4, l_add, l_sub, l_neg, l_lt, l_le, l_gt, l_ge, l_int, l_intb, l_abs, l_max, l_min, l_tb, l_truB, l_truI, l_truT, l_eqI, l_neI, lift_ret, pur_ap, exx_ap, ite_ap, Nat.reduceSub, List.reduceReplicate, List.set_cons_zero, List.set_cons_succ, if_true, if_false, decide_true, decide_false, Bool.false_eq_true, Bool.not_true, Bool.not_false, ↓reduceIte, l_eqL, l_neL, l_neB, is_i, is_b, is_n, is_s, is_t, k_ii, k_ib, k_bi, k_bb, k_ni, k_si, k_li, k_ll, k_tt, newT_0, newT_1, newT_2, newT_3, newT_4, newT_5, ixT_0, ixT_1, ixT_2, ixT_3, ixT_4, l_notN, l_isN, isNon_i, isNon_n, isNon_t, isNon_r, String.reduceEq, reduceCtorEq, in_l2, in_l3, Bool.or_false, Bool.false_or, Bool.or_true, Bool.true_or, Bool.and_true, Bool.true_and, Bool.and_false, Bool.false_and]
  have hr4 : (ph3.set ph2.length (PO.lst []))[r]? = some (.lst (rs.map Rw.W)) := by rw [List.getElem?_set_ne (by omega)]; exact hr3
  have hh4 : (ph3.set ph2.length (PO.lst []))[ph.length]? = some (.lst (rs.map Rw.W)) := by rw [List.getElem?_set_ne (by omega)]; exact hh3
  have hd4 : (ph3.set ph2.length (PO.lst []))[ph1.length]? = some (.lst (qs.map pr)) := by rw [List.getElem?_set_ne (by omega)]; exact hd3
  have hf4 : (ph3.set ph2.length (PO.lst []))[ph2.length]? = some (.lst []) := by
    rw [List.getElem?_set_self (List.getElem?_eq_some_iff.mp hf3).1]
  generalize ph3.set ph2.length (PO.lst []) = ph4 at hr4 hh4 hd4 hf4
  obtain ⟨ph5, e5, x5⟩ := bound_all rs hz ph.length hh4
  rw [bnd_ok e5]
  try simp only [bnd_pur, bnd_exx, bnd_nop, bnd_assoc, bnd_ite, eVar_0, eVar_s, eC_ap, gN_ap, eOp_ap, eUn_ap, eT_ap, eTru_ap, tAndM_ap, tOrM_ap, tNotM_ap, eIf_ap, sSeq_ap, sIf_ap, sRet_ap, sNext_ap, sExpr_ap, sAsg_ap, eCall_ap, eCallB_ap, aNil_ap, aCons_ap, eTup_ap, eLst_ap, eIs_ap, eAnd_ap, eOr_ap, eNot_ap, eChain_ap, eMeth_ap, fEnd_rt, fEnd_nx, fM_1, fM_2, fM_3, fM_4, l_add, l_sub, l_neg, l_lt, l_le, l_gt, l_ge, l_int, l_intb, l_abs, l_max, l_min, l_tb, l_truB, l_truI, l_truT, l_eqI, l_neI, lift_ret, pur_ap, exx_ap, ite_ap, Nat.reduceSub, List.reduceReplicate, List.set_cons_zero, List.set_cons_succ, if_true, if_false, decide_true, decide_false, Bool.false_eq_true, Bool.not_true, Bool.not_false, ↓reduceIte, l_eqL, l_neL, l_neB, is_i, is_b, is_n, is_s, is_t, k_ii, k_ib, k_bi, k_bb, k_ni, k_si, k_li, k_ll, k_tt, newT_0, newT_1, newT_2, newT_3, newT_4, newT_5, ixT_0, ixT_1, ixT_2, ixT_3, ixT_4, l_notN, l_isN, isNon_i, isNon_n, isNon_t, isNon_r, String.reduceEq, reduceCtorEq, in_l2, in_l3, Bool.or_false, Bool.false_or, Bool.or_true, Bool.true_or, Bool.and_true, Bool.true_and, Bool.and_false, Bool.false_and]
  have x45 := (Ex.one _ _).trans x5
  rw [bnd_ok (right_s qs (x5.get (by rw [← hqs]; exact get_new _ _)) (x45.get hd4))]
  try simp only [bnd_pur, bnd_exx, bnd_nop, bnd_assoc, bnd_ite, eVar_0, eVar_s, eC_ap, gN_ap, eOp_ap, eUn_ap, eT_ap, eTru_ap, tAndM_ap, tOrM_ap, tNotM_ap, eIf_ap, sSeq_ap, sIf_ap, sRet_ap, sNext_ap, sExpr_ap, sAsg_ap, eCall_ap, eCallB_ap, aNil_ap, aCons_ap, eTup_ap, eLst_ap, eIs_ap, eAnd_ap, eOr_ap, eNot_ap, eChain_ap, eMeth_ap, fEnd_rt, fEnd_nx, fM_1, fM_2, fM_3, fM_4, l_add, l_sub, l_neg, l_lt, l_le, l_gt, l_ge, l_int, l_intb, l_abs, l_max, l_min, l_tb, l_truB, l_truI, l_truT, l_eqI, l_neI, lift_ret, pur_ap, exx_ap, ite_ap, Nat.reduceSub, List.reduceReplicate, List.set_cons_zero, List.set_cons_succ, if_true, if_false, decide_true, decide_false, Bool.false_eq_true, Bool.not_true, Bool.not_false, ↓reduceIte, l_eqL, l_neL, l_neB, is_i, is_b, is_n, is_s, is_t, k_ii, k_ib, k_bi, k_bb, k_ni, k_si, k_li, k_ll, k_tt, newT_0, newT_1, newT_2, newT_3, newT_4, newT_5, ixT_0, ixT_1, ixT_2, ixT_3, ixT_4, l_notN, l_isN, isNon_i, isNon_n, isNon_t, isNon_r, String.reduceEq, reduceCtorEq, in_l2, in_l3, Bool.or_false, Bool.false_or, Bool.or_true, Bool.true_or, Bool.and_true, Bool.true_and, Bool.and_false, Bool.false_and]
  rw [bnd_new _ _ _ (small (by simp))]
  rw [bnd_ok (l_eqD (eq_same (ws := []) (ds := []) ((Ex.one _ _).get (x45.get hf4)) (get_new _ _) rfl))]
  try simp only [bnd_pur, bnd_exx, bnd_nop, bnd_assoc, bnd_ite, eVar_0, eVar_s, eC_ap, gN_ap, eOp_ap, eUn_ap, eT_ap, eTru_ap, tAndM_ap, tOrM_ap, tNotM_ap, eIf_ap, sSeq_ap, sIf_ap, sRet_ap, sNext_ap, sExpr_ap, sAsg_ap, eCall_ap, eCallB_ap, aNil_ap, aCons_ap, eTup_ap, eLst_ap, eIs_ap, eAnd_ap, eOr_ap, eNot_ap, eChain_ap, eMeth_ap, fEnd_rt, fEnd_nx, fM_1, fM_2, fM_3, fM_4, l_add, l_sub, l_neg, l_lt, l_le, l_gt, l_ge, l_int, l_intb, l_abs, l_max, l_min, l_tb, l_truB, l_truI, l_truT, l_eqI, l_neI, lift_ret, pur_ap, exx_ap, ite_ap, Nat.reduceSub, List.reduceReplicate, List.set_cons_zero, List.set_cons_succ, if_true, if_false, decide_true, decide_false, Bool.false_eq_true, Bool.not_true, Bool.not_false, ↓reduceIte, l_eqL, l_neL, l_neB, is_i, is_b, is_n, is_s, is_t, k_ii, k_ib, k_bi, k_bb, k_ni, k_si, k_li, k_ll, k_tt, newT_0, newT_1, newT_2, newT_3, newT_4, newT_5, ixT_0, ixT_1, ixT_2, ixT_3, ixT_4, l_notN, l_isN, isNon_i, isNon_n, isNon_t, isNon_r, String.reduceEq, reduceCtorEq, in_l2, in_l3, Bool.or_false, Bool.false_or, Bool.or_true, Bool.true_or, Bool.and_true, Bool.true_and, Bool.and_false, Bool.false_and]
  obtain ⟨ds, hd⟩ := hds (ph5 ++ [PO.lst []])
  rw [bnd_ok (l_eqD (eq_same ((Ex.one _ _).get (x45.get hh4)) ((Ex.one _ _).get (x45.get hr4)) hd))]
  exact ⟨_, rfl⟩
theorem t2 (ns : List Int) (n : Nat) (hn : n ≤ 40) (ph : PH) (a b c d e f : Option W) : Fine (b_law_2 [some (.fl (ns.map W.int)), some (.int (n : Int)), a, b, c, d, e, f] ph) := by
  unfold b_law_2 b_law_3 b_law_4
  try simp only [bnd_pur, bnd_exx, bnd_nop, bnd_assoc, bnd_ite, eVar_0, eVar_s, eC_ap, gN_ap, eOp_ap, eUn_ap, eT_ap, eTru_ap, tAndM_ap, tOrM_ap, tNotM_ap, eIf_ap, sSeq_ap, sIf_ap, sRet_ap, sNext_ap, sExpr_ap, sAsg_ap, eCall_ap, eCallB_ap, aNil_ap, aCons_ap, eTup_ap, eLst_ap, eIs_ap, eAnd_ap, eOr_ap, eNot_ap, eChain_ap, eMeth_ap, fEnd_rt, fEnd_nx, fM_1, fM_2, fM_3, fM_4, l_add, l_sub, l_neg, l_lt, l_le, l_gt, l_ge, l_int, l_intb, l_abs, l_max, l_min, l_tb, l_truB, l_truI, l_truT, l_eqI, l_neI, lift_ret, pur_ap, exx_ap, ite_ap, Nat.reduceSub, List.reduceReplicate, List.set_cons_zero, List.set_cons_succ, if_true, if_false, decide_true, decide_false, Bool.false_eq_true, Bool.not_true, Bool.not_false, ↓reduceIte, l_eqL, l_neL, l_neB, is_i, is_b, is_n, is_s, is_t, k_ii, k_ib, k_bi, k_bb, k_ni, k_si, k_li, k_ll, k_tt, newT_0, newT_1, newT_2, newT_3, newT_4, newT_5, ixT_0, ixT_1, ixT_2, ixT_3, ixT_4, l_notN, l_isN, isNon_i, isNon_n, isNon_t, isNon_r, String.reduceEq, reduceCtorEq, in_l2, in_l3, Bool.or_false, Bool.false_or, Bool.or_true, Bool.true_or, Bool.and_true, Bool.true_and, Bool.and_false, Bool.false_and]
  rw [bnd_ok (cell_1 ns ph)]
  try simp only [bnd_pur, bnd_exx, bnd_nop, bnd_assoc, bnd_ite, eVar_0, eVar_s, eC_ap, gN_ap, eOp_ap, eUn_ap, eT_ap, eTru_ap, tAndM_ap, tOrM_ap, tNotM_ap, eIf_ap, sSeq_ap, sIf_ap, sRet_ap, sNext_ap, sExpr_ap, sAsg_ap, eCall_ap, eCallB_ap, aNil_ap, aCons_ap, eTup_ap, eLst_ap, eIs_ap, eAnd_ap, eOr_ap, eNot_ap, eChain_ap, eMeth_ap, fEnd_rt, fEnd_nx, fM_1, fM_2, fM_3, fM_4, l_add, l_sub, l_neg, l_lt, l_le, l_gt, l_ge, l_int, l_intb, l_abs, l_max, l_min, l_tb, l_truB, l_truI, l_truT, l_eqI, l_neI, lift_ret, pur_ap, exx_ap, ite_ap, Nat.reduceSub, List.reduceReplicate, List.set_cons_zero, List.set_cons_succ, if_true, if_false, decide_true, decide_false, Bool.false_eq_true, Bool.not_true, Bool.not_false, ↓reduceIte, l_eqL, l_neL, l_neB, is_i, is_b, is_n, is_s, is_t, k_ii, k_ib, k_bi, k_bb, k_ni, k_si, k_li, k_ll, k_tt, newT_0, newT_1, newT_2, newT_3, newT_4, newT_5, ixT_0, ixT_1, ixT_2, ixT_3, ixT_4, l_notN, l_isN, isNon_i, isNon_n, isNon_t, isNon_r, String.reduceEq, reduceCtorEq, in_l2, in_l3, Bool.or_false, Bool.false_or, Bool.or_true, Bool.true_or, Bool.and_true, Bool.true_and, Bool.and_false, Bool.false_and, l_mod (show (8 : Int) ≠ 0 by decide)]
  rw [bnd_ok (cell_1 ns ph)]
  try simp only [bnd_pur, bnd_exx, bnd_nop, bnd_assoc, bnd_ite, eVar_0, eVar_s, eC_ap, gN_ap, eOp_ap, eUn_ap, eT_ap, eTru_ap, tAndM_ap, tOrM_ap, tNotM_ap, eIf_ap, sSeq_ap, sIf_ap, sRet_ap, sNext_ap, sExpr_ap, sAsg_ap, eCall_ap, eCallB_ap, aNil_ap, aCons_ap, eTup_ap, eLst_ap, eIs_ap, eAnd_ap, eOr_ap, eNot_ap, eChain_ap, eMeth_ap, fEnd_rt, fEnd_nx, fM_1, fM_2, fM_3, fM_4, l_add, l_sub, l_neg, l_lt, l_le, l_gt, l_ge, l_int, l_intb, l_abs, l_max, l_min, l_tb, l_truB, l_truI, l_truT, l_eqI, l_neI, lift_ret, pur_ap, exx_ap, ite_ap, Nat.reduceSub, List.reduceReplicate, List.set_cons_zero, List.set_cons_succ, if_true, if_false, decide_true, decide_false, Bool.false_eq_true, Bool.not_true, Bool.not_false, ↓reduceIte, l_eqL, l_neL, l_neB, is_i, is_b, is_n, is_s, is_t, k_ii, k_ib, k_bi, k_bb, k_ni, k_si, k_li, k_ll, k_tt, newT_0, newT_1, newT_2, newT_3, newT_4, newT_5, ixT_0, ixT_1, ixT_2, ixT_3, ixT_4, l_notN, l_isN, isNon_i, isNon_n, isNon_t, isNon_r, String.reduceEq, reduceCtorEq, in_l2, in_l3, Bool.or_false, Bool.false_or, Bool.or_true, Bool.true_or, Bool.and_true, Bool.true_and, Bool.and_false, Bool.false_and, l_mod (show (12 : Int) ≠ 0 by decide), l_div (show (8 : Int) ≠ 0 by decide) (by decide)]
  have q1 := fmod_range (ns.getD 1 0) 8 (by decide)
  have q2 := fmod_range ((ns.getD 1 0).fdiv 8) 12 (by decide)
  obtain ⟨rs, ph', hl, e, x⟩ := rows_s ns n (2 + (ns.getD 1 0).fmod 8) (1 + ((ns.getD 1 0).fdiv 8).fmod 12) (by omega) (by omega) hn ph c d e f
  rw [bnd_ok e]
  try simp only [bnd_pur, bnd_exx, bnd_nop, bnd_assoc, bnd_ite, eVar_0, eVar_s, eC_ap, gN_ap, eOp_ap, eUn_ap, eT_ap, eTru_ap, tAndM_ap, tOrM_ap, tNotM_ap, eIf_ap, sSeq_ap, sIf_ap, sRet_ap, sNext_ap, sExpr_ap, sAsg_ap, eCall_ap, eCallB_ap, aNil_ap, aCons_ap, eTup_ap, eLst_ap, eIs_ap, eAnd_ap, eOr_ap, eNot_ap, eChain_ap, eMeth_ap, fEnd_rt, fEnd_nx, fM_1, fM_2, fM_3, fM_4, l_add, l_sub, l_neg, l_lt, l_le, l_gt, l_ge, l_int, l_intb, l_abs, l_max, l_min, l_tb, l_truB, l_truI, l_truT, l_eqI, l_neI, lift_ret, pur_ap, exx_ap, ite_ap, Nat.reduceSub, List.reduceReplicate, List.set_cons_zero, List.set_cons_succ, if_true, if_false, decide_true, decide_false, Bool.false_eq_true, Bool.not_true, Bool.not_false, ↓reduceIte, l_eqL, l_neL, l_neB, is_i, is_b, is_n, is_s, is_t, k_ii, k_ib, k_bi, k_bb, k_ni, k_si, k_li, k_ll, k_tt, newT_0, newT_1, newT_2, newT_3, newT_4, newT_5, ixT_0, ixT_1, ixT_2, ixT_3, ixT_4, l_notN, l_isN, isNon_i, isNon_n, isNon_t, isNon_r, String.reduceEq, reduceCtorEq, in_l2, in_l3, Bool.or_false, Bool.false_or, Bool.or_true, Bool.true_or, Bool.and_true, Bool.true_and, Bool.and_false, Bool.false_and]
  exact t5 rs (by omega) (x.get (get_new _ _)) _ _ _ _ _ _ _
theorem good (ns : List Int) (_ : ns.length ≤ 63) : ∃ ph', f_law [.fl (ns.map W.int)] [] = .ok (.bl true) ph' := by
  unfold f_law
  rw [b_law_eq]
  unfold b_law_0 b_law_1
  try simp only [bnd_pur, bnd_exx, bnd_nop, bnd_assoc, bnd_ite, eVar_0, eVar_s, eC_ap, gN_ap, eOp_ap, eUn_ap, eT_ap, eTru_ap, tAndM_ap, tOrM_ap, tNotM_ap, eIf_ap, sSeq_ap, sIf_ap, sRet_ap, sNext_ap, sExpr_ap, sAsg_ap, eCall_ap, eCallB_ap, aNil_ap, aCons_ap, eTup_ap, eLst_ap, eIs_ap, eAnd_ap, eOr_ap, eNot_ap, eChain_ap, eMeth_ap, fEnd_rt, fEnd_nx, fM_1, fM_2, fM_3, fM_4, l_add, l_sub, l_neg, l_lt, l_le, l_gt, l_ge, l_int, l_intb, l_abs, l_max, l_min, l_tb, l_truB, l_truI, l_truT, l_eqI, l_neI, lift_ret, pur_ap, exx_ap, ite_ap, Nat.reduceSub, List.reduceReplicate, List.set_cons_zero, List.set_cons_succ, if_true, if_false, decide_true, decide_false, Bool.false_eq_true, Bool.not_true, Bool.not_false, ↓reduceIte, l_eqL, l_neL, l_neB, is_i, is_b, is_n, is_s, is_t, k_ii, k_ib, k_bi, k_bb, k_ni, k_si, k_li, k_ll, k_tt, newT_0, newT_1, newT_2, newT_3, newT_4, newT_5, ixT_0, ixT_1, ixT_2, ixT_3, ixT_4, l_notN, l_isN, isNon_i, isNon_n, isNon_t, isNon_r, String.reduceEq, reduceCtorEq, in_l2, in_l3, Bool.or_false, Bool.false_or, Bool.or_true, Bool.true_or, Bool.and_true, Bool.true_and, Bool.and_false, Bool.false_and]
  rw [bnd_ok (cell_0 ns _)]
  try simp only [bnd_pur, bnd_exx, bnd_nop, bnd_assoc, bnd_ite, eVar_0, eVar_s, eC_ap, gN_ap, eOp_ap, eUn_ap, eT_ap, eTru_ap, tAndM_ap, tOrM_ap, tNotM_ap, eIf_ap, sSeq_ap, sIf_ap, sRet_ap, sNext_ap, sExpr_ap, sAsg_ap, eCall_ap, eCallB_ap, aNil_ap, aCons_ap, eTup_ap, eLst_ap, eIs_ap, eAnd_ap, eOr_ap, eNot_ap, eChain_ap, eMeth_ap, fEnd_rt, fEnd_nx, fM_1, fM_2, fM_3, fM_4, l_add, l_sub, l_neg, l_lt, l_le, l_gt, l_ge, l_int, l_intb, l_abs, l_max, l_min, l_tb, l_truB, l_truI, l_truT, l_eqI, l_neI, lift_ret, pur_ap, exx_ap, ite_ap, Nat.reduceSub, List.reduceReplicate, List.set_cons_zero, List.set_cons_succ, if_true, if_false, decide_true, decide_false, Bool.false_eq_true, Bool.not_true, Bool.not_false, ↓reduceIte, l_eqL, l_neL, l_neB, is_i, is_b, is_n, is_s, is_t, k_ii, k_ib, k_bi, k_bb, k_ni, k_si, k_li, k_ll, k_tt, newT_0, newT_1, newT_2, newT_3, newT_4, newT_5, ixT_0, ixT_1, ixT_2, ixT_3, ixT_4, l_notN, l_isN, isNon_i, isNon_n, isNon_t, isNon_r, String.reduceEq, reduceCtorEq, in_l2, in_l3, Bool.or_false, Bool.false_or, Bool.or_true, Bool.true_or, Bool.and_true, Bool.true_and, Bool.and_false, Bool.false_and, l_mod (show (13 : Int) ≠ 0 by decide)]
  rw [bnd_ok (cell_0 ns _)]
  try simp only [bnd_pur, bnd_exx, bnd_nop, bnd_assoc, bnd_ite, eVar_0, eVar_s, eC_ap, gN_ap, eOp_ap, eUn_ap, eT_ap, eTru_ap, tAndM_ap, tOrM_ap, tNotM_ap, eIf_ap, sSeq_ap, sIf_ap, sRet_ap, sNext_ap, sExpr_ap, sAsg_ap, eCall_ap, eCallB_ap, aNil_ap, aCons_ap, eTup_ap, eLst_ap, eIs_ap, eAnd_ap, eOr_ap, eNot_ap, eChain_ap, eMeth_ap, fEnd_rt, fEnd_nx, fM_1, fM_2, fM_3, fM_4, l_add, l_sub, l_neg, l_lt, l_le, l_gt, l_ge, l_int, l_intb, l_abs, l_max, l_min, l_tb, l_truB, l_truI, l_truT, l_eqI, l_neI, lift_ret, pur_ap, exx_ap, ite_ap, Nat.reduceSub, List.reduceReplicate, List.set_cons_zero, List.set_cons_succ, if_true, if_false, decide_true, decide_false, Bool.false_eq_true, Bool.not_true, Bool.not_false, ↓reduceIte, l_eqL, l_neL, l_neB, is_i, is_b, is_n, is_s, is_t, k_ii, k_ib, k_bi, k_bb, k_ni, k_si, k_li, k_ll, k_tt, newT_0, newT_1, newT_2, newT_3, newT_4, newT_5, ixT_0, ixT_1, ixT_2, ixT_3, ixT_4, l_notN, l_isN, isNon_i, isNon_n, isNon_t, isNon_r, String.reduceEq, reduceCtorEq, in_l2, in_l3, Bool.or_false, Bool.false_or, Bool.or_true, Bool.true_or, Bool.and_true, Bool.true_and, Bool.and_false, Bool.false_and, l_mod (show (9 : Int) ≠ 0 by decide), l_div (show (13 : Int) ≠ 0 by decide) (by decide)]
  have q1 := fmod_range (ns.getD 0 0) 13 (by decide)
  by_cases h : ((ns.getD 0 0).fdiv 13).fmod 9 = 1
  · simp only [decide_eq_true h, if_true]
    rw [bnd_ok (cell_0 ns _)]
    try simp only [bnd_pur, bnd_exx, bnd_nop, bnd_assoc, bnd_ite, eVar_0, eVar_s, eC_ap, gN_ap, eOp_ap, eUn_ap, eT_ap, eTru_ap, tAndM_ap, tOrM_ap, tNotM_ap, eIf_ap, sSeq_ap, sIf_ap, sRet_ap, sNext_ap, sExpr_ap, sAsg_ap, eCall_ap, eCallB_ap, aNil_ap, aCons_ap, eTup_ap, eLst_ap, eIs_ap, eAnd_ap, eOr_ap, eNot_ap, eChain_ap, eMeth_ap, fEnd_rt, fEnd_nx, fM_1, fM_2, fM_3, fM_4, l_add, l_sub, l_neg, l_lt, l_le, l_gt, l_ge, l_int, l_intb, l_abs, l_max, l_min, l_tb, l_truB, l_truI, l_truT, l_eqI, l_neI, lift_ret, pur_ap, exx_ap, ite_ap, Nat.reduceSub, List.reduceReplicate, List.set_cons_zero, List.set_cons_succ, if_true, if_false, decide_true, decide_false, Bool.false_eq_true, Bool.not_true, Bool.not_false, ↓reduceIte, l_eqL, l_neL, l_neB, is_i, is_b, is_n, is_s, is_t, k_ii, k_ib, k_bi, k_bb, k_ni, k_si, k_li, k_ll, k_tt, newT_0, newT_1, newT_2, newT_3, newT_4, newT_5, ixT_0, ixT_1, ixT_2, ixT_3, ixT_4, l_notN, l_isN, isNon_i, isNon_n, isNon_t, isNon_r, String.reduceEq, reduceCtorEq, in_l2, in_l3, Bool.or_false, Bool.false_or, Bool.or_true, Bool.true_or, Bool.and_true, Bool.true_and, Bool.and_false, Bool.false_and, l_mod (show (18 : Int) ≠ 0 by decide), l_div (show (117 : Int) ≠ 0 by decide) (by decide)]
    have q2 := fmod_range ((ns.getD 0 0).fdiv 117) 18 (by decide)
    obtain ⟨n, hn⟩ : ∃ n : Nat, 13 + ((ns.getD 0 0).fdiv 117).fmod 18 = (n : Int) := ⟨(13 + ((ns.getD 0 0).fdiv 117).fmod 18).toNat, by omega⟩
    rw [hn]
    obtain ⟨ph', e⟩ := t2 ns n (by omega) [] none none none none none none
    rw [bnd_ok e]
    exact ⟨_, rfl⟩
  · simp only [decide_eq_false h, Bool.false_eq_true, if_false]
    obtain ⟨n, hn⟩ : ∃ n : Nat, (ns.getD 0 0).fmod 13 = (n : Int) := ⟨((ns.getD 0 0).fmod 13).toNat, by omega⟩
    rw [hn]
    obtain ⟨ph', e⟩ := t2 ns n (by omega) [] none none none none none none
    rw [bnd_ok e]
    exact ⟨_, rfl⟩
end IL.K22

open PySem PySem.W PyProof.Rows
set_option maxHeartbeats 0 in
theorem PySem.Challenge.cw_boxwright_k22_bound_pairs_holds : PySem.Challenge.rw_boxwright_k22_bound_pairs.Holds := by
  w_on
  o_law
  k_head
  (case hw => w_witness2)
  k_fill
  refine IL.K22.walk_law (l := PySem.Challenge.rw_boxwright_k22_bound_pairs) (fun ns hn => IL.K22.good ns hn) rfl rfl (fun w h Y => PySem.W.kIn_of Y) ?F
  case F =>
    intro w mg fa h KX G hmg
    refine' IL.K22.all_mk KX G hmg ?a_law_cell_at ?l_law_cell_at ?c_law_cell_at ?k_law_cell_at ?a_law_number_by ?l_law_number_by ?c_law_number_by ?k_law_number_by ?a_law_row_by ?l_law_row_by ?c_law_row_by ?k_law_row_by ?a_law_is_part ?l_law_is_part ?c_law_is_part ?k_law_is_part ?a_law_writes ?l_law_writes ?c_law_writes ?k_law_writes ?a_law_reads ?l_law_reads ?c_law_reads ?k_law_reads ?a_law_tied ?l_law_tied ?c_law_tied ?k_law_tied ?a_law_due ?l_law_due ?c_law_due ?k_law_due ?a_is_outward ?l_is_outward ?c_is_outward ?k_is_outward ?a_things_read ?l_things_read ?c_things_read ?k_things_read ?a_things_written ?l_things_written ?c_things_written ?k_things_written ?a_share ?l_share ?c_share ?k_share ?a_are_bound ?l_are_bound ?c_are_bound ?k_are_bound ?a_bound ?l_bound ?c_bound ?k_bound ?a_law_right ?l_law_right ?c_law_right ?k_law_right ?a_law ?l_law ?c_law ?k_law ?z_any ?z_bool ?z_enumerate ?z_int ?z_isinstance ?z_len ?z_list ?z_range ?z_tuple
    (case a_law_cell_at => k_is)
    (case l_law_cell_at => k_is)
    (case c_law_cell_at => k_is)
    (case k_law_cell_at => k_is)
    (case a_law_number_by => k_is)
    (case l_law_number_by => k_is)
    (case c_law_number_by => k_is)
    (case k_law_number_by => k_is)
    (case a_law_row_by => k_is)
    (case l_law_row_by => k_is)
    (case c_law_row_by => k_is)
    (case k_law_row_by => k_is)
    (case a_law_is_part => k_is)
    (case l_law_is_part => k_is)
    (case c_law_is_part => k_is)
    (case k_law_is_part => k_is)
    (case a_law_writes => k_is)
    (case l_law_writes => k_is)
    (case c_law_writes => k_is)
    (case k_law_writes => k_is)
    (case a_law_reads => k_is)
    (case l_law_reads => k_is)
    (case c_law_reads => k_is)
    (case k_law_reads => k_is)
    (case a_law_tied => k_is)
    (case l_law_tied => k_is)
    (case c_law_tied => k_is)
    (case k_law_tied => k_is)
    (case a_law_due => k_is)
    (case l_law_due => k_is)
    (case c_law_due => k_is)
    (case k_law_due => k_is)
    (case a_is_outward => k_is)
    (case l_is_outward => k_is)
    (case c_is_outward => k_is)
    (case k_is_outward => k_is)
    (case a_things_read => k_is)
    (case l_things_read => k_is)
    (case c_things_read => k_is)
    (case k_things_read => k_is)
    (case a_things_written => k_is)
    (case l_things_written => k_is)
    (case c_things_written => k_is)
    (case k_things_written => k_is)
    (case a_share => k_is)
    (case l_share => k_is)
    (case c_share => k_is)
    (case k_share => k_is)
    (case a_are_bound => k_is)
    (case l_are_bound => k_is)
    (case c_are_bound => k_is)
    (case k_are_bound => k_is)
    (case a_bound => k_is)
    (case l_bound => k_is)
    (case c_bound => k_is)
    (case k_bound => k_is)
    (case a_law_right => k_is)
    (case l_law_right => k_is)
    (case c_law_right => k_is)
    (case k_law_right => k_is)
    (case a_law => k_is)
    (case l_law => k_is)
    (case c_law => k_is)
    (case k_law => k_is)
    (case z_any => k_is)
    (case z_bool => k_is)
    (case z_enumerate => k_is)
    (case z_int => k_is)
    (case z_isinstance => k_is)
    (case z_len => k_is)
    (case z_list => k_is)
    (case z_range => k_is)
    (case z_tuple => k_is)
