import PyProof.Rows.All
import Wide.All
import OpenK.AllK
import Wide.FinOn
import Lean
import PyProof.EqAt
import PyProof.EqKinds
import PyProof.TupleCall
import PyProof.P3Eq
import PyProof.NeData
import PySem.Challenge.RW_boxwright_k27_blocks_laid
set_option Elab.async false
set_option linter.all false
set_option maxRecDepth 100000
set_option maxHeartbeats 8000000
namespace L2
open PySem PySem.Spec PyProof.Rows
abbrev Key := Sum Int Str
def keyIs : Key → Value → Bool
  | .inl k, v => Value.isInt k v
  | .inr x, v => Value.isStrOf x v
def keyH (w : World) : Key → Int
  | .inl k => hashInt k
  | .inr x => hashStr w x
theorem keyIs_shape : ∀ {k : Key} {v : Value}, keyIs k v = true → (∃ i t, k = Sum.inl i ∧ v = Value.int i t) ∨ (∃ x t, k = Sum.inr x ∧ v = Value.str x t)
  | .inl i, v, h => by
    obtain ⟨t, e⟩ := Value.isInt_shape (k := i) (v := v) h
    exact .inl ⟨i, t, rfl, e⟩
  | .inr x, v, h => by
    obtain ⟨t, e⟩ := Value.isStrOf_shape (x := x) (v := v) h
    exact .inr ⟨x, t, rfl, e⟩
theorem keyIs_int (i : Int) (t : Tok) : keyIs (.inl i) (.int i t) = true := by simp [keyIs, Value.isInt]
theorem keyIs_str (x : Str) (t : Tok) : keyIs (.inr x) (.str x t) = true := by simp [keyIs, Value.isStrOf]
theorem key_ll (a b : Int) : decide ((Sum.inl a : Key) = Sum.inl b) = (a == b) := by
  by_cases e : a = b
  · subst e; simp
  · have h : ¬ (Sum.inl a : Key) = Sum.inl b := fun q => e (Sum.inl.inj q)
    rw [decide_eq_false h]
    exact (beq_eq_false_iff_ne.mpr e).symm
theorem key_rr (a b : Str) : decide ((Sum.inr a : Key) = Sum.inr b) = decide (a = b) := by
  by_cases e : a = b
  · subst e; simp
  · have h : ¬ (Sum.inr a : Key) = Sum.inr b := fun q => e (Sum.inr.inj q)
    rw [decide_eq_false h, decide_eq_false e]
theorem key_lr (a : Int) (b : Str) : decide ((Sum.inl a : Key) = Sum.inr b) = false := decide_eq_false (fun q => nomatch q)
theorem key_rl (a : Str) (b : Int) : decide ((Sum.inr a : Key) = Sum.inl b) = false := decide_eq_false (fun q => nomatch q)
def mixKind (prog : Program) (w : World) : PySem.KeyKind prog w Key where
  is := keyIs
  hash := keyH w
  inj := fun v a b ha hb => by
    rcases keyIs_shape ha with ⟨i, t, rfl, rfl⟩ | ⟨x, t, rfl, rfl⟩
    · rcases keyIs_shape hb with ⟨j, u, rfl, e⟩ | ⟨y, u, rfl, e⟩
      · injection e with e1 _; rw [e1]
      · exact nomatch e
    · rcases keyIs_shape hb with ⟨j, u, rfl, e⟩ | ⟨y, u, rfl, e⟩
      · exact nomatch e
      · injection e with e1 _; rw [e1]
  byValue := fun k v h => by
    rcases keyIs_shape h with ⟨i, t, rfl, rfl⟩ | ⟨x, t, rfl, rfl⟩ <;> rfl
  pyHash := fun hv h => by
    rcases keyIs_shape hv with ⟨i, t, rfl, rfl⟩ | ⟨x, t, rfl, rfl⟩
    · exact wpAny_pyHash_int h
    · exact wpAny_pyHash_str h
  eqBool := fun hu hv h => by
    rcases keyIs_shape hu with ⟨i, t, rfl, rfl⟩ | ⟨x, t, rfl, rfl⟩
    · rcases keyIs_shape hv with ⟨j, u, rfl, rfl⟩ | ⟨y, u, rfl, rfl⟩
      · rw [key_ll] at h; exact wpAny_eqBool_int h
      · rw [key_lr] at h; exact SeqAt.EqAt.int_str i t y u _ _ _ _ h
    · rcases keyIs_shape hv with ⟨j, u, rfl, rfl⟩ | ⟨y, u, rfl, rfl⟩
      · rw [key_rl] at h; exact SeqAt.EqAt.str_int x t j u _ _ _ _ h
      · rw [key_rr] at h; exact wpAny_eqBool_str h
  «strs» := fun k x t v h => by
    rcases keyIs_shape h with ⟨i, u, rfl, e⟩ | ⟨y, u, rfl, e⟩
    · exact nomatch e
    · injection e with e1 _
      subst e1
      cases v <;> rfl
theorem mixKind_int (prog : Program) (w : World) (i : Int) (t : Tok) : (mixKind prog w).is (.inl i) (.int i t) = true := keyIs_int i t
theorem mixKind_str (prog : Program) (w : World) (x : Str) (t : Tok) : (mixKind prog w).is (.inr x) (.str x t) = true := keyIs_str x t
end L2
namespace L2
open PySem PySem.Spec PyProof.Rows
inductive V where
  | non | bl (b : Bool) | int (i : Int) | str (x : Str) | byt (b : Array UInt8) | flt (b : UInt64) | ref (a : Addr) | ty (n : String)
  deriving DecidableEq
def RelV : V → Value → Prop
  | .non, u => u = Value.none
  | .bl b, u => u = Value.bool b
  | .int i, u => ∃ t, u = Value.int i t
  | .str x, u => ∃ t, u = Value.str x t
  | .byt b, u => ∃ t, u = Value.bytes b t
  | .flt b, u => ∃ t, u = Value.float b t
  | .ref a, u => u = Value.ref a
  | .ty n, u => u = Value.type n
abbrev Vals : List V → List Value → Prop := Paired RelV
theorem Vals.length {xs : List V} {us : List Value} (r : Vals xs us) : xs.length = us.length := Paired.length r
theorem Vals.get : ∀ {xs : List V} {us : List Value} {i : Nat} {x : V}, Vals xs us → xs[i]? = some x → ∃ u, us[i]? = some u ∧ RelV x u
  | _, _, _, _, .nil, e => by simp at e
  | _, _, 0, _, .cons r _, e => by simp at e; subst e; exact ⟨_, rfl, r⟩
  | _, _, i + 1, x, .cons _ t, e => by
    obtain ⟨u, h1, h2⟩ := Vals.get (i := i) (x := x) t (by simpa using e)
    exact ⟨u, by simpa using h1, h2⟩
theorem Vals.set {x : V} {u : Value} (r : RelV x u) : ∀ {xs : List V} {us : List Value} (i : Nat), Vals xs us → Vals (xs.set i x) (us.set i u)
  | _, _, _, .nil => .nil
  | _, _, 0, .cons _ t => .cons r t
  | _, _, i + 1, .cons q t => .cons q (Vals.set r i t)
theorem Vals.append : ∀ {xs ys : List V} {us ws : List Value}, Vals xs us → Vals ys ws → Vals (xs ++ ys) (us ++ ws)
  | _, _, _, _, .nil, s => s
  | _, _, _, _, .cons r t, s => .cons r (Vals.append t s)
theorem Vals.take : ∀ {xs : List V} {us : List Value} (n : Nat), Vals xs us → Vals (xs.take n) (us.take n)
  | _, _, 0, _ => .nil
  | _, _, _ + 1, .nil => .nil
  | _, _, n + 1, .cons r t => .cons r (Vals.take n t)
theorem Vals.drop : ∀ {xs : List V} {us : List Value} (n : Nat), Vals xs us → Vals (xs.drop n) (us.drop n)
  | _, _, 0, r => r
  | _, _, _ + 1, .nil => .nil
  | _, _, n + 1, .cons _ t => Vals.drop n t
def RelO : Option V → Option Value → Prop
  | some v, some u => RelV v u
  | none, none => True
  | _, _ => False
def KV {κ : Type} : List (κ × V) → List (κ × Value) → Prop := Paired fun (p : κ × V) (q : κ × Value) => p.1 = q.1 ∧ RelV p.2 q.2
def kV : Key → V
  | .inl i => .int i
  | .inr x => .str x
inductive HO where
  /-- a list -/
  | lst (xs : List V)
  /-- a tuple (never changes) -/
  | tup (xs : List V)
  /-- a dict whose keys are ints and texts; one whose keys are tuples of ints and texts (the empty one is both) -/
  | dK (kvs : List (Key × V)) | dT (kvs : List (List Key × V))
  /-- a set of ints: its members, its size -/
  | set (S : Int → Bool) (n : Nat)
  /-- an instance of the class at C, its dict at dx, its attributes -/
  | ins (C dx : Addr) (fs : List (Str × V))
  /-- the dict of the instance at x -/
  | own (x : Addr)
  /-- the dict of an exception -/
  | xd (fs : List (Str × V))
  /-- a bound method, f of x -/
  | met (f x : Addr)
  /-- a range object lo, lo + 1, .. below hi -/
  | rng (lo hi : Int)
  /-- a thing that is known to the object (the script; a dict while a loop walks it): read, never written while it is so -/
  | frz (o : Obj) (u : HO)
  /-- a code object's table -/
  | tbl (ps : Array Value)
  /-- any other thing, by what is true of its one object (a def of one's own: SetO a S n := HO.ext fun h => ..) -/
  | ext (φ : Heap → Prop)
abbrev Hp := Addr → Option HO
def upd (H : Hp) (a : Addr) (o : HO) : Hp := fun b => if b = a then some o else H b
theorem upd_same {H : Hp} {a : Addr} {o : HO} : upd H a o a = some o := by unfold upd; rw [if_pos rfl]
theorem upd_ne {H : Hp} {a b : Addr} {o : HO} (h : b ≠ a) : upd H a o b = H b := by unfold upd; rw [if_neg h]
theorem upd_upd {H : Hp} {a : Addr} {o u : HO} : upd (upd H a o) a u = upd H a u := by
  funext b; unfold upd; split <;> rfl
theorem ne_of {H : Hp} {a b : Addr} {o u : HO} (h : H a = some o) (h' : H b = some u) (d : o ≠ u) : a ≠ b := by
  intro e; subst e; rw [h] at h'; exact d (Option.some.inj h')
theorem ne_of_none {H : Hp} {a b : Addr} {o : HO} (h : H a = some o) (h' : H b = none) : a ≠ b := by
  intro e; subst e; rw [h] at h'; cases h'
section
variable (P : Program) (w : World)
def ObjOk (H : Hp) (h : Heap) (a : Addr) : HO → Prop
  | .lst xs => xs.length ≤ sizeLine ∧ ∃ (its : List Value) (n : Nat), Vals xs its ∧ h.get? a = some { cls := .type "list", data := .seq its.toArray n }
  | .tup xs => xs.length ≤ sizeLine ∧ ∃ its : List Value, Vals xs its ∧ IsTup h a its.toArray
  | .dK kvs => kvs.length ≤ sizeLine ∧ (a == sysModules) = false ∧ ∃ vs, KV kvs vs ∧ h.DictOf (mixKind P w) a vs
  | .dT kvs => kvs.length ≤ sizeLine ∧ (a == sysModules) = false ∧ ∃ xs : List (List Key × Addr × Value),
      Paired (fun (p : List Key × V) (q : List Key × Addr × Value) => p.1 = q.1 ∧ H q.2.1 = some (.tup (p.1.map kV)) ∧ RelV p.2 q.2.2) kvs xs ∧
      ∃ o es ep, h.get? a = some o ∧ o.ExactDict ∧ o.data = .dict es ep ∧ es.toList = xs.map (entryOfKey (tupleKind (mixKind P w))) ∧ (xs.map (·.1)).Nodup
  | .set S n => h.SetOf (intKind P w) a S n
  | .ins C dx fs => H dx = some (.own a) ∧ fs.length ≤ 1000 ∧ dx ≠ a ∧ h.get? a = some (PySem.W.instObj C dx) ∧
      ∃ mA, h.Ns1 dx mA ∧ (∀ f, RelO (fs.lookup f) (mA f)) ∧ PySem.Within mA (fs.map (·.1))
  | .own _ => ∃ o, h.get? a = some o
  | .xd fs => ∃ mA, h.Ns1 a mA ∧ ∀ f, RelO (fs.lookup f) (mA f)
  | .rng lo hi => ∃ t u v, h.get? a = some { cls := .type "range", data := .fields #[.int lo t, .int hi u, .int 1 v] }
  | .frz o u => h.get? a = some o ∧ ObjOk H h a u
  | .tbl ps => h.get? a = some { cls := .none, data := .fields ps }
  | .met f x => h.get? a = some (PySem.W.methodObj (.ref f) (.ref x))
  | .ext φ => φ h ∧ (∃ o, h.get? a = some o) ∧ ∀ h1 h2 : Heap, φ h1 → (∀ o, h1.get? a = some o → h2.get? a = some o) → φ h2
def HOk (H : Hp) (h : Heap) : Prop := ∀ a o, H a = some o → ObjOk P w H h a o
end
section
variable {P : Program} {w : World} {H H' : Hp} {h h' : Heap} {a : Addr} {o : HO}
theorem ObjOk.lt (x : ObjOk P w H h a o) : a < h.objs.size := by
  cases o with
  | lst xs => obtain ⟨_, _, _, _, e⟩ := x; exact Heap.lt_size e
  | tup xs => obtain ⟨_, _, _, p⟩ := x; exact p.lt
  | dK kvs => obtain ⟨_, _, _, _, o, _, _, e, _⟩ := x; exact Heap.lt_size e
  | dT kvs => obtain ⟨_, _, _, _, o, _, _, e, _⟩ := x; exact Heap.lt_size e
  | set S n => obtain ⟨o, _, _, _, e, _⟩ := x; exact Heap.lt_size e
  | ins C dx fs => obtain ⟨_, _, _, e, _⟩ := x; exact Heap.lt_size e
  | own y => obtain ⟨_, e⟩ := x; exact Heap.lt_size e
  | xd fs => obtain ⟨_, ⟨_, _, _, e, _⟩, _⟩ := x; exact Heap.lt_size e
  | rng lo hi => obtain ⟨_, _, _, e⟩ := x; exact Heap.lt_size e
  | frz ob u => obtain ⟨e, _⟩ := x; exact Heap.lt_size e
  | tbl ps => exact Heap.lt_size (show h.get? a = some _ from x)
  | met f y => exact Heap.lt_size (show h.get? a = some _ from x)
  | ext φ => obtain ⟨_, ⟨_, e⟩, _⟩ := x; exact Heap.lt_size e
theorem Paired.mapP {α β : Type} {F G : α → β → Prop} : ∀ {l₁ : List α} {l₂ : List β}, Paired F l₁ l₂ → (∀ a b, F a b → G a b) → Paired G l₁ l₂
  | _, _, .nil, _ => .nil
  | _, _, .cons r t, f => .cons (f _ _ r) (Paired.mapP t f)
theorem ObjOk.stay (x : ObjOk P w H h a o) (k : ∀ b u, (b = a ∨ H b = some (.own a)) → h.get? b = some u → h'.get? b = some u)
    (ho : ∀ b, H b = some (.own a) → H' b = some (.own a)) (ht : ∀ b xs, H b = some (.tup xs) → H' b = some (.tup xs)) : ObjOk P w H' h' a o := by
  induction o with
  | lst xs => obtain ⟨z, its, n, r, e⟩ := x; exact ⟨z, its, n, r, k _ _ (.inl rfl) e⟩
  | tup xs => obtain ⟨z, its, r, ob, e, c⟩ := x; exact ⟨z, its, r, ob, k _ _ (.inl rfl) e, c⟩
  | dK kvs => obtain ⟨z, y, vs, r, ob, es, ep, e, c⟩ := x; exact ⟨z, y, vs, r, ob, es, ep, k _ _ (.inl rfl) e, c⟩
  | dT kvs =>
    obtain ⟨z, y, xs, r, ob, es, ep, e, c⟩ := x
    exact ⟨z, y, xs, Paired.mapP r fun p q z => ⟨z.1, ht _ _ z.2.1, z.2.2⟩, ob, es, ep, k _ _ (.inl rfl) e, c⟩
  | set S n => obtain ⟨ob, es, ep, t, e, c⟩ := x; exact ⟨ob, es, ep, t, k _ _ (.inl rfl) e, c⟩
  | ins C dx fs =>
    obtain ⟨d, z, ne, e, mA, ⟨od, es, ep, e2, c⟩, r⟩ := x
    exact ⟨ho _ d, z, ne, k _ _ (.inl rfl) e, mA, ⟨od, es, ep, k _ _ (.inr d) e2, c⟩, r⟩
  | own y => obtain ⟨ob, e⟩ := x; exact ⟨ob, k _ _ (.inl rfl) e⟩
  | xd fs => obtain ⟨mA, ⟨od, es, ep, e, c⟩, r⟩ := x; exact ⟨mA, ⟨od, es, ep, k _ _ (.inl rfl) e, c⟩, r⟩
  | rng lo hi => obtain ⟨t, u, v, e⟩ := x; exact ⟨t, u, v, k _ _ (.inl rfl) e⟩
  | frz ob u ih => obtain ⟨e, q⟩ := x; exact ⟨k _ _ (.inl rfl) e, ih q⟩
  | tbl ps =>
    have e : h.get? a = some { cls := .none, data := .fields ps } := x
    show h'.get? a = some { cls := .none, data := .fields ps }
    exact k a _ (.inl rfl) e
  | met f y =>
    have e : h.get? a = some (PySem.W.methodObj (.ref f) (.ref y)) := x
    show h'.get? a = some (PySem.W.methodObj (.ref f) (.ref y))
    exact k a _ (.inl rfl) e
  | ext φ => obtain ⟨p, ⟨o, e⟩, st⟩ := x; exact ⟨st _ _ p fun o q => k _ _ (.inl rfl) q, ⟨o, k _ _ (.inl rfl) e⟩, st⟩
theorem HOk.lt (x : HOk P w H h) (e : H a = some o) : a < h.objs.size := (x a o e).lt
theorem HOk.fresh (x : HOk P w H h) (e : h.objs.size ≤ a) : H a = none := by
  cases q : H a with
  | none => rfl
  | some u => exact absurd (Nat.lt_of_lt_of_le (x.lt q) e) (Nat.lt_irrefl _)
theorem HOk.kept (x : HOk P w H h) (k : ∀ b u, h.get? b = some u → h'.get? b = some u) : HOk P w H h' := fun a o e =>
  (x a o e).stay (fun b u _ q => k b u q) (fun _ q => q) fun _ _ q => q
theorem HOk.laid (x : HOk P w H h) (k : ∀ b u, h.get? b = some u → h'.get? b = some u) (hp : h.objs.size ≤ a) (new : ObjOk P w (upd H a o) h' a o) : HOk P w (upd H a o) h' := fun b u e => by
  have hn := x.fresh hp
  by_cases hb : b = a
  · subst hb; rw [upd_same] at e; cases e; exact new
  · rw [upd_ne hb] at e
    exact (x b u e).stay (fun c v _ q => k c v q) (fun c q => by rw [upd_ne (ne_of_none q hn)]; exact q) fun c xs q => by rw [upd_ne (ne_of_none q hn)]; exact q
end
def Rd (H : Hp) (a : Addr) (u : HO) : Prop := H a = some u ∨ ∃ o, H a = some (.frz o u)
theorem Rd.of {H : Hp} {a : Addr} {u : HO} (h : H a = some u) : Rd H a u := .inl h
theorem Rd.ok {P : Program} {w : World} {H : Hp} {h : Heap} {a : Addr} {u : HO} (r : Rd H a u) (x : HOk P w H h) : ObjOk P w H h a u := by
  rcases r with r | ⟨o, r⟩
  · exact x a u r
  · obtain ⟨_, q⟩ := x a _ r
    exact q
def Mut : Option HO → Prop
  | some (.lst _) => True
  | some (.dK _) => True
  | some (.dT _) => True
  | some (.set _ _) => True
  | some (.ins _ _ _) => True
  | some (.ext _) => True
  | _ => False
section
variable {P : Program} {w : World} {H : Hp} {h h' : Heap} {x e : Addr} {o' : HO}
theorem HOk.write (ok : HOk P w H h) (mu : Mut (H x)) (he : e = x ∨ H e = some (.own x)) (k : ∀ b u, b ≠ e → h.get? b = some u → h'.get? b = some u) (heo : ∃ u, h'.get? e = some u)
    (new : ObjOk P w (upd H x o') h' x o') : HOk P w (upd H x o') h' := fun b u q => by
  have nown : ∀ c y, H c = some (.own y) → c ≠ x := fun c y r z => by subst z; rw [r] at mu; exact mu
  have ntup : ∀ c xs, H c = some (.tup xs) → c ≠ x := fun c xs r z => by subst z; rw [r] at mu; exact mu
  by_cases hb : b = x
  · subst hb; rw [upd_same] at q; cases q; exact new
  · rw [upd_ne hb] at q
    by_cases hbe : b = e
    · have q' : H b = some (.own x) := by
        rcases he with z | z
        · exact absurd (hbe.trans z) hb
        · rw [hbe]; exact z
      rw [q] at q'; cases q'
      obtain ⟨v, hv⟩ := heo
      exact ⟨v, by rw [hbe]; exact hv⟩
    · refine (ok b u q).stay (fun c v hc r => k c v ?_ r) (fun c r => by rw [upd_ne (nown c b r)]; exact r) fun c xs r => by rw [upd_ne (ntup c xs r)]; exact r
      rcases hc with rfl | hc
      · exact hbe
      · rintro rfl
        rcases he with z | z
        · exact nown c b hc z
        · rw [hc] at z; cases z; exact hb rfl
end
structure Un (fs ex : List Addr) (H H' : Hp) (h h' : Heap) : Prop where
  keep : ∀ b o, h.get? b = some o → H b = none → b ∉ fs → b ∉ ex → h'.get? b = some o
  slot : ∀ b o, h.get? b = some o → H b = none → b ∈ fs → b ∉ ex → ∃ sl, h'.get? b = some { o with slots := sl }
  free : ∀ b o, h.get? b = some o → H b = none → b ∉ ex → H' b = none
  there : ∀ b o, h.get? b = some o → b ∉ ex → ∃ o', h'.get? b = some o'
  tups : ∀ b xs, H b = some (.tup xs) → H' b = some (.tup xs)
  frzs : ∀ b o u, H b = some (.frz o u) → H' b = some (.frz o u)
  tbls : ∀ b ps, H b = some (.tbl ps) → ∃ more, H' b = some (.tbl (ps ++ more))
section
variable {fs fs' ex ex' : List Addr} {H H1 H2 : Hp} {h h1 h2 h' : Heap} {a x e : Addr} {o : HO}
theorem Un.any (u : Un fs ex H H1 h h1) {b : Addr} {ob : Obj} (q : h.get? b = some ob) (n : H b = none) (hx : b ∉ ex) : ∃ sl, h1.get? b = some { ob with slots := sl } := by
  by_cases hb : b ∈ fs
  · exact u.slot b ob q n hb hx
  · exact ⟨ob.slots, u.keep b ob q n hb hx⟩
theorem Un.trans (a : Un fs ex H H1 h h1) (b : Un fs ex H1 H2 h1 h2) : Un fs ex H H2 h h2 where
  keep := fun c ob q n hc hx => b.keep c ob (a.keep c ob q n hc hx) (a.free c ob q n hx) hc hx
  slot := fun c ob q n hc hx => by
    obtain ⟨sl, e1⟩ := a.slot c ob q n hc hx
    obtain ⟨sl', e2⟩ := b.slot c _ e1 (a.free c ob q n hx) hc hx
    exact ⟨sl', e2⟩
  free := fun c ob q n hx => by
    obtain ⟨o', e1⟩ := a.there c ob q hx
    exact b.free c o' e1 (a.free c ob q n hx) hx
  there := fun c ob q hx => by
    obtain ⟨o', e1⟩ := a.there c ob q hx
    exact b.there c o' e1 hx
  tups := fun c xs q => b.tups c xs (a.tups c xs q)
  frzs := fun c ob xs q => b.frzs c ob xs (a.frzs c ob xs q)
  tbls := fun c ps q => by
    obtain ⟨m1, e1⟩ := a.tbls c ps q
    obtain ⟨m2, e2⟩ := b.tbls c _ e1
    exact ⟨m1 ++ m2, by rw [e2, Array.append_assoc]⟩
theorem Un.kept (k : ∀ b u, h.get? b = some u → h'.get? b = some u) : Un fs ex H H h h' :=
  ⟨fun b ob q _ _ _ => k b ob q, fun b ob q _ _ _ => ⟨ob.slots, k b ob q⟩, fun _ _ _ n _ => n, fun b ob q _ => ⟨ob, k b ob q⟩, fun _ _ q => q, fun _ _ _ q => q, fun _ ps q => ⟨#[], by rw [q]; simp⟩⟩
theorem Un.refl : Un fs ex H H h h := Un.kept fun _ _ q => q
theorem Un.laid (k : ∀ b u, h.get? b = some u → h'.get? b = some u) (hp : h.objs.size ≤ a) (hn : H a = none) : Un fs ex H (upd H a o) h h' where
  keep := fun b u q _ _ _ => k b u q
  slot := fun b u q _ _ _ => ⟨u.slots, k b u q⟩
  free := fun b u q n _ => by rw [upd_ne (Nat.ne_of_lt (Nat.lt_of_lt_of_le (Heap.lt_size q) hp))]; exact n
  there := fun b u q _ => ⟨u, k b u q⟩
  tups := fun b xs q => by rw [upd_ne (ne_of_none q hn)]; exact q
  frzs := fun b u xs q => by rw [upd_ne (ne_of_none q hn)]; exact q
  tbls := fun b ps q => ⟨#[], by rw [upd_ne (ne_of_none q hn), q]; simp⟩
theorem Un.write (mu : Mut (H x)) (he : e = x ∨ H e = some (.own x)) (k : ∀ b u, b ≠ e → h.get? b = some u → h'.get? b = some u) (heo : ∃ u, h'.get? e = some u) : Un fs ex H (upd H x o) h h' := by
  have hx : ∀ b, H b = none → b ≠ x := fun b n z => by subst z; rw [n] at mu; exact mu
  have hb : ∀ b, H b = none → b ≠ e := fun b n z => by
    subst z
    rcases he with r | r
    · exact hx b n r
    · rw [n] at r; cases r
  have hm : ∀ b u, H b = some u → ¬ Mut (some u) → b ≠ x := fun b u q nm z => by subst z; rw [q] at mu; exact nm mu
  refine ⟨fun b u q n _ _ => k b u (hb b n) q, fun b u q n _ _ => ⟨u.slots, k b u (hb b n) q⟩, fun b u q n _ => by rw [upd_ne (hx b n)]; exact n, fun b u q _ => ?_,
    fun b xs q => by rw [upd_ne (hm b _ q fun z => z)]; exact q, fun b u xs q => by rw [upd_ne (hm b _ q fun z => z)]; exact q, fun b ps q => ⟨#[], by rw [upd_ne (hm b _ q fun z => z), q]; simp⟩⟩
  by_cases hbe : b = e
  · subst hbe; exact heo
  · exact ⟨u, k b u hbe q⟩
theorem Un.mono (u : Un fs ex H H1 h h1) (hs : ∀ b ∈ fs, b ∈ fs') (hx : ∀ b ∈ ex, b ∈ ex') : Un fs' ex' H H1 h h1 :=
  ⟨fun b ob q n hb he => u.keep b ob q n (fun z => hb (hs b z)) fun z => he (hx b z), fun _ _ q n _ he => u.any q n fun z => he (hx _ z), fun b ob q n he => u.free b ob q n fun z => he (hx b z), fun b ob q he => u.there b ob q fun z => he (hx b z), u.tups, u.frzs, u.tbls⟩
end
def trk (h : Heap) (H : Hp) : List Addr := (List.range h.objs.size).filter fun a => (H a).isSome
def hidT (h : Heap) (H : Hp) : Heap := PySem.W.hideAll h (trk h H)
theorem hidT_size (h : Heap) (H : Hp) : (hidT h H).objs.size = h.objs.size := PySem.W.hideAll_size _ _
theorem hidT_get {h : Heap} {H : Hp} {b : Addr} {o : Obj} (e : h.get? b = some o) (n : H b = none) : (hidT h H).get? b = some o :=
  PySem.W.hideAll_get _ e fun hm => by
    have q : (H b).isSome = true := (List.mem_filter.mp hm).2
    rw [n] at q; simp at q
theorem of_hidT {h : Heap} {H : Hp} {b : Addr} {o : Obj} (e : (hidT h H).get? b = some o) : h.get? b = some o ∧ H b = none := by
  have e' : h.get? b = some o := PySem.W.of_hideAll (trk h H) e
  refine ⟨e', ?_⟩
  cases q : H b with
  | none => rfl
  | some x =>
    have hm : b ∈ trk h H := List.mem_filter.mpr ⟨List.mem_range.mpr (Heap.lt_size e'), by simp [q]⟩
    have z : (hidT h H).get? b = none := PySem.W.hideAll_none (trk h H) hm
    rw [z] at e; cases e
def allNews (g h : Heap) (L : Addr) : List (Addr × Obj) := (List.range h.objs.size).filterMap fun a => if a = L ∨ (g.get? a).isSome = true then none else (h.get? a).map fun o => (a, o)
def rest (g h : Heap) (L d : Addr) : List (Addr × Obj) := (allNews g h L).filter fun p => decide (p.1 ≠ d)
end L2
namespace L2
open PySem PySem.Spec PyProof.Rows
structure Mod (K : PySem.W.Frag) (mg : Str → Option Value) (base : Heap) : Prop where
  kin : K.In base
  glob : base.Ns mainGlobals mg
  blt : ∃ mb, base.Ns builtinsNs mb ∧ ∀ x : Str, x ≠ "__name__" → mb x = bootBuiltins x
  nolimit : base.NoLimit
structure Cx where
  prog : Program
  w : World
  K : PySem.W.Frag
  mg : Str → Option Value
  base : Heap
  A : Around
  N : List Str
  s₀ : Shared
  H₀ : Hp
  env : Env
  outer : List Env
  stack : List Env
  ex : List Addr
  fn : Str → Bool
  calm : Bool
  pn : List (Addr × Obj)
  xe : Value → Shared → Prop
def frs (l : List Env) : List Addr := l.filterMap (·.frame)
abbrev Cx.fs (X : Cx) : List Addr := frs X.outer
def Vis (sc : Scope) (x : Str) : Prop := sc.names.lookup x = some .local ∨ sc.names.lookup x = some .cell ∨ sc.names.lookup x = some .free
def Loc (sc : Scope) (x : Str) : Prop := sc.names.lookup x = some .local ∨ sc.names.lookup x = some .cell
def Look (env : Env) (h : Heap) (m : Str → Option Value) (x : Str) (u : Value) : Prop :=
  (env.kindOf x = some .local ∧ m x = some u) ∨ ((env.kindOf x = some .cell ∨ env.kindOf x = some .free) ∧ ∃ c, env.cells.lookup x = some c ∧ h.IsCell c (some u))
structure Cx.Ok (X : Cx) : Prop where
  mod : Mod X.K X.mg X.base
  kind : X.env.scope.kind = .function
  glob : X.env.globals = mainGlobals
  blt : X.env.builtins = builtinsNs
  above : X.s₀.heap.objs.size ≤ X.env.locals
  inj : ∀ x y c, X.env.cells.lookup x = some c → X.env.cells.lookup y = some c → x = y
  has : ∀ x, (X.env.kindOf x = some .cell ∨ X.env.kindOf x = some .free) → ∃ c, X.env.cells.lookup x = some c
  cab : ∀ x c, X.fn x = true → X.env.cells.lookup x = some c → X.s₀.heap.objs.size ≤ c
  hd : X.calm = true → X.A.handled = none
  frames : X.A.frames = some X.stack
  stk : X.stack = X.outer ∨ (X.stack = X.env :: X.outer ∧ X.env.frame = some X.env.locals)
  exf : ∀ b ∈ X.ex, b ≠ X.env.locals ∧ ∀ x c, X.env.cells.lookup x = some c → c ≠ b
  bs : ∀ b o, X.base.get? b = some o → X.s₀.heap.get? b = some o ∧ X.H₀ b = none
  bsz : X.base.objs.size ≤ X.s₀.heap.objs.size
  noex : ∀ b o, X.base.get? b = some o → b ∉ X.ex
  exfs : ∀ b ∈ X.ex, b ∉ X.fs
  funs : X.s₀.heap.FunFrames X.base X.outer
  frf : ∀ b ∈ X.fs, X.H₀ b = none
structure Inv (X : Cx) (pins : List (Addr × Obj)) (σ : List (Option V)) (H : Hp) (s : Shared) : Prop where
  ok : X.Ok
  os : s.os = X.s₀.os
  bare : AllBare s.gens
  base : Un X.fs X.ex X.H₀ H X.s₀.heap s.heap
  loc : ∃ m, s.heap.Ns X.env.locals m ∧ ∀ (i : Nat) (x : Str) (v : V), X.N[i]? = some x → σ[i]? = some (some v) → Vis X.env.scope x → ∃ u, RelV v u ∧ Look X.env s.heap m x u
  cell : ∀ x c, X.env.cells.lookup x = some c → ∃ v, s.heap.IsCell c v
  free : H X.env.locals = none
  freeC : ∀ x c, X.env.cells.lookup x = some c → H c = none
  pin : ∀ p ∈ X.pn ++ pins, s.heap.get? p.1 = some p.2 ∧ H p.1 = none ∧ p.1 ≠ X.env.locals ∧ p.1 ∉ X.fs ∧ ∀ v, p.2.data ≠ .cell v
  hok : HOk X.prog X.w H s.heap
  len : σ.length = X.N.length
section
variable {X : Cx} {pins : List (Addr × Obj)} {σ : List (Option V)} {H H' : Hp} {s : Shared} {h' : Heap}
theorem Cx.Ok.nofr (ok : X.Ok) {b : Addr} {o : Obj} (e : X.base.get? b = some o) : b ∉ X.fs := fun hb => by
  have := (ok.funs.mem hb).1
  rw [e] at this; cases this
theorem Inv.bs (I : Inv X pins σ H s) : ∀ b o, X.base.get? b = some o → s.heap.get? b = some o ∧ H b = none := fun b o e =>
  ⟨I.base.keep b o (I.ok.bs b o e).1 (I.ok.bs b o e).2 (I.ok.nofr e) (I.ok.noex b o e), I.base.free b o (I.ok.bs b o e).1 (I.ok.bs b o e).2 (I.ok.noex b o e)⟩
theorem Inv.bk (I : Inv X pins σ H s) : ∀ b o, X.base.get? b = some o → s.heap.get? b = some o := fun b o e => (I.bs b o e).1
theorem Inv.mod (I : Inv X pins σ H s) : Mod X.K X.mg X.base := I.ok.mod
theorem Inv.kIn (I : Inv X pins σ H s) : X.K.In s.heap := I.ok.mod.kin.keeps I.bk
theorem Inv.nolimit (I : Inv X pins σ H s) : s.heap.NoLimit := I.ok.mod.nolimit.keeps I.bk
theorem Inv.fr (I : Inv X pins σ H s) : ∃ m, Fr X.base X.env.locals s.heap m :=
  let ⟨m, hn, _⟩ := I.loc
  ⟨m, hn, I.bk, Nat.le_trans I.ok.bsz I.ok.above⟩
theorem Inv.lt (I : Inv X pins σ H s) : X.env.locals < s.heap.objs.size := let ⟨_, hn, _⟩ := I.loc; hn.lt
theorem Inv.sz (I : Inv X pins σ H s) : X.s₀.heap.objs.size ≤ s.heap.objs.size := Nat.le_trans I.ok.above (Nat.le_of_lt I.lt)
theorem Inv.nofs (I : Inv X pins σ H s) {a : Addr} (h : s.heap.objs.size ≤ a) : a ∉ X.fs := fun hb => by
  obtain ⟨_, o, ho, _⟩ := I.ok.funs.mem hb
  exact absurd (Nat.lt_of_lt_of_le (Heap.lt_size ho) (Nat.le_trans I.sz h)) (Nat.lt_irrefl _)
theorem Inv.cne (I : Inv X pins σ H s) : ∀ x c, X.env.cells.lookup x = some c → c ≠ X.env.locals := fun x c e z => by
  obtain ⟨v, o, ho, hd⟩ := I.cell x c e
  obtain ⟨m, ⟨o', es, ep, ho', hd', _⟩, _⟩ := I.loc
  rw [z, ho'] at ho; cases ho; rw [hd'] at hd; cases hd
theorem Inv.funs (I : Inv X pins σ H s) : s.heap.FunFrames X.base X.outer := by
  have all : ∀ (l : List Env), (∀ b ∈ frs l, b ∈ X.fs) → X.s₀.heap.FunFrames X.base l → s.heap.FunFrames X.base l := by
    intro l
    induction l with
    | nil => intro _ _; trivial
    | cons env r ih =>
      intro hs hl
      obtain ⟨hk, ⟨L, o, hf, hn, ho, hd⟩, hr⟩ := hl
      have hL : L ∈ X.fs := hs L (by unfold frs; rw [List.filterMap_cons, hf]; exact List.mem_cons_self)
      obtain ⟨sl, e⟩ := I.base.slot L o ho (I.ok.frf L hL) hL fun z => I.ok.exfs L z hL
      exact ⟨hk, ⟨L, _, hf, hn, e, hd⟩, ih (fun b hb => hs b (by unfold frs; rw [List.filterMap_cons, hf]; exact List.mem_cons_of_mem _ hb)) hr⟩
  exact all X.outer (fun _ hb => hb) I.ok.funs
theorem Inv.stack (I : Inv X pins σ H s) : s.heap.FunFrames X.base X.stack := by
  rcases I.ok.stk with e | ⟨e, hf⟩
  · rw [e]; exact I.funs
  · rw [e]
    obtain ⟨m, hn, _⟩ := I.loc
    refine .cons (by rw [I.ok.kind]; decide) hf hn ?_ I.funs
    exact Heap.get?_none_of_le (Nat.le_trans I.ok.bsz I.ok.above)
theorem Inv.stkSub (I : Inv X pins σ H s) : ∀ b ∈ frs X.stack, b ∈ X.env.locals :: X.fs := fun b hb => by
  rcases I.ok.stk with e | ⟨e, hf⟩
  · rw [e] at hb; exact List.mem_cons_of_mem _ hb
  · rw [e] at hb
    unfold frs at hb
    rw [List.filterMap_cons, hf] at hb
    exact hb
theorem Inv.stkFree (I : Inv X pins σ H s) : ∀ b ∈ frs X.stack, H b = none := fun b hb => by
  rcases List.mem_cons.mp (I.stkSub b hb) with e | hb
  · rw [e]; exact I.free
  · obtain ⟨_, o, ho, _⟩ := I.ok.funs.mem hb
    exact I.base.free b o ho (I.ok.frf b hb) fun z => I.ok.exfs b z hb
theorem Inv.step {g' : Array GenState} {t' : Nat} {d' : Drawn} {ch : List Addr} (I : Inv X pins σ H s)
    (hch : ∀ b ∈ ch, (b ∈ X.ex ∨ X.s₀.heap.objs.size ≤ b) ∧ b ≠ X.env.locals ∧ (∀ x c, X.env.cells.lookup x = some c → c ≠ b) ∧ ∀ p ∈ X.pn ++ pins, p.1 ≠ b)
    (keep : ∀ b o, b ≠ X.env.locals → b ∉ X.fs → b ∉ ch → s.heap.get? b = some o → H b = none → h'.get? b = some o)
    (slot : ∀ b o, b ≠ X.env.locals → b ∈ X.fs → b ∉ ch → s.heap.get? b = some o → H b = none → ∃ sl, h'.get? b = some { o with slots := sl }) (free : ∀ b o, b ∉ ch → s.heap.get? b = some o → H b = none → H' b = none)
    (there : ∀ b o, b ∉ ch → s.heap.get? b = some o → ∃ o', h'.get? b = some o')
    (tups : ∀ b xs, H b = some (.tup xs) → H' b = some (.tup xs)) (frzs : ∀ b o u, H b = some (.frz o u) → H' b = some (.frz o u)) (tbls : ∀ b ps, H b = some (.tbl ps) → ∃ more, H' b = some (.tbl (ps ++ more)))
    (ns : ∀ m, s.heap.Ns X.env.locals m → h'.Ns X.env.locals m) (hok : HOk X.prog X.w H' h') (hg : AllBare g') :
    Inv X pins σ H' { s with heap := h', gens := g', drawn := d', toks := t' } := by
  have neL : ∀ b o, X.s₀.heap.get? b = some o → b ≠ X.env.locals := fun b o e => Nat.ne_of_lt (Nat.lt_of_lt_of_le (Heap.lt_size e) I.ok.above)
  have neC : ∀ b o, X.s₀.heap.get? b = some o → b ∉ X.ex → b ∉ ch := fun b o e hx hb => by
    rcases (hch b hb).1 with z | z
    · exact hx z
    · exact absurd (Nat.lt_of_lt_of_le (Heap.lt_size e) z) (Nat.lt_irrefl _)
  have cellK : ∀ x c, X.env.cells.lookup x = some c → ∀ v, s.heap.IsCell c v → h'.IsCell c v := fun x c e v ⟨o, ho, hd⟩ => by
    have nch : c ∉ ch := fun z => (hch c z).2.2.1 x c e rfl
    by_cases hc : c ∈ X.fs
    · obtain ⟨sl, q⟩ := slot c o (I.cne x c e) hc nch ho (I.freeC x c e)
      exact ⟨_, q, hd⟩
    · exact ⟨o, keep c o (I.cne x c e) hc nch ho (I.freeC x c e), hd⟩
  refine ⟨I.ok, I.os, hg, ⟨fun b o e n hb hx => ?_, fun b o e n hb hx => ?_, fun b o e n hx => ?_, fun b o e hx => ?_, fun b xs e => tups b xs (I.base.tups b xs e), fun b o xs e => frzs b o xs (I.base.frzs b o xs e), fun b ps e => ?_⟩, ?_, fun x c e => ?_, ?_, fun x c e => ?_, fun p hp => ?_, hok, I.len⟩
  · exact keep b o (neL b o e) hb (neC b o e hx) (I.base.keep b o e n hb hx) (I.base.free b o e n hx)
  · obtain ⟨sl, e1⟩ := I.base.slot b o e n hb hx
    obtain ⟨sl', e2⟩ := slot b _ (neL b o e) hb (neC b o e hx) e1 (I.base.free b o e n hx)
    exact ⟨sl', e2⟩
  · obtain ⟨o', e1⟩ := I.base.there b o e hx
    exact free b o' (neC b o e hx) e1 (I.base.free b o e n hx)
  · obtain ⟨o', e1⟩ := I.base.there b o e hx
    exact there b o' (neC b o e hx) e1
  · obtain ⟨m1, e1⟩ := I.base.tbls b ps e
    obtain ⟨m2, e2⟩ := tbls b _ e1
    exact ⟨m1 ++ m2, by rw [e2, Array.append_assoc]⟩
  · obtain ⟨m, hn, hl⟩ := I.loc
    refine ⟨m, ns m hn, fun i x v e1 e2 e3 => ?_⟩
    obtain ⟨u, r, l⟩ := hl i x v e1 e2 e3
    refine ⟨u, r, ?_⟩
    rcases l with l | ⟨k, c, e, z⟩
    · exact .inl l
    · exact .inr ⟨k, c, e, cellK x c e _ z⟩
  · obtain ⟨v, z⟩ := I.cell x c e
    exact ⟨v, cellK x c e v z⟩
  · obtain ⟨m, ⟨o, _, _, ho, _⟩, _⟩ := I.loc
    exact free _ o (fun z => (hch _ z).2.1 rfl) ho I.free
  · obtain ⟨v, o, ho, hd⟩ := I.cell x c e
    exact free c o (fun z => (hch c z).2.2.1 x c e rfl) ho (I.freeC x c e)
  · obtain ⟨e, n, ne, nf, d⟩ := I.pin p hp
    have nch : p.1 ∉ ch := fun z => (hch p.1 z).2.2.2 p hp rfl
    exact ⟨keep p.1 p.2 ne nf nch e n, free p.1 p.2 nch e n, ne, nf, d⟩
theorem Inv.un {t' : Nat} (I : Inv X pins σ H s) (u : Un X.fs [] H H' s.heap h') (hok : HOk X.prog X.w H' h') : Inv X pins σ H' { s with heap := h', toks := t' } := by
  obtain ⟨m, ⟨o, es, ep, ho, r⟩, _⟩ := id I.loc
  obtain ⟨sl, hL⟩ := u.any ho I.free (by simp)
  exact I.step (g' := s.gens) (d' := s.drawn) (ch := []) (fun _ z => nomatch z) (fun b o _ hb _ e n => u.keep b o e n hb (by simp)) (fun b o _ hb _ e n => u.slot b o e n hb (by simp)) (fun b o _ e n => u.free b o e n (by simp)) (fun b o _ e => u.there b o e (by simp)) u.tups u.frzs u.tbls (fun m' hm => by
    obtain ⟨o', es', ep', ho', r'⟩ := hm
    rw [ho] at ho'; cases ho'
    exact ⟨_, es', ep', hL, r'⟩) hok I.bare
theorem Inv.call {g' : Array GenState} {t' : Nat} {d' : Drawn} {ch : List Addr} (I : Inv X pins σ H s) (u : Un (frs X.stack) ch H H' s.heap h') (hok : HOk X.prog X.w H' h') (hg : AllBare g')
    (hch : ∀ b ∈ ch, (b ∈ X.ex ∨ X.s₀.heap.objs.size ≤ b) ∧ b ≠ X.env.locals ∧ (∀ x c, X.env.cells.lookup x = some c → c ≠ b) ∧ ∀ p ∈ X.pn ++ pins, p.1 ≠ b) :
    Inv X pins σ H' { s with heap := h', gens := g', drawn := d', toks := t' } := by
  obtain ⟨m, ⟨o, es, ep, ho, r⟩, _⟩ := id I.loc
  obtain ⟨sl, hL⟩ := u.any ho I.free fun z => (hch _ z).2.1 rfl
  exact I.step (ch := ch) hch (fun b o hL hb hc e n => u.keep b o e n (fun z => (List.mem_cons.mp (I.stkSub b z)).elim hL hb) hc) (fun b o _ _ hc e n => u.any e n hc) (fun b o hc e n => u.free b o e n hc) (fun b o hc e => u.there b o e hc) u.tups u.frzs u.tbls (fun m' hm => by
    obtain ⟨o', es', ep', ho', r'⟩ := hm
    rw [ho] at ho'; cases ho'
    exact ⟨_, es', ep', hL, r'⟩) hok hg
theorem Inv.turned {t' : Nat} {it : Addr} (I : Inv X pins σ H s) (k : ∀ b o, b ≠ it → s.heap.get? b = some o → h'.get? b = some o) (hn : H it = none) (hL : it ≠ X.env.locals)
    (h1 : it ∈ X.ex ∨ X.s₀.heap.objs.size ≤ it) (h2 : ∀ x c, X.env.cells.lookup x = some c → c ≠ it) (h3 : ∀ p ∈ X.pn ++ pins, p.1 ≠ it) : Inv X pins σ H { s with heap := h', toks := t' } := by
  have nit : ∀ b u, H b = some u → b ≠ it := fun b u e z => by rw [z, hn] at e; cases e
  refine I.step (g' := s.gens) (d' := s.drawn) (ch := [it]) (fun b hb => ?_) (fun b o _ _ hc e _ => k b o (fun z => hc (by simp [z])) e) (fun b o _ _ hc e _ => ⟨o.slots, k b o (fun z => hc (by simp [z])) e⟩) (fun _ _ _ _ n => n)
    (fun b o hc e => ⟨o, k b o (fun z => hc (by simp [z])) e⟩) (fun _ _ e => e) (fun _ _ _ e => e) (fun b ps e => ⟨#[], by rw [e]; simp⟩) (fun m hm => ?_) (fun b u e => ?_) I.bare
  · have e : b = it := by simpa using hb
    subst e
    exact ⟨h1, hL, h2, h3⟩
  · obtain ⟨o, es, ep, ho, r⟩ := hm
    exact ⟨o, es, ep, k _ o (Ne.symm hL) ho, r⟩
  · refine (I.hok b u e).stay (fun c v hc q => k c v ?_ q) (fun _ q => q) fun _ _ q => q
    rcases hc with z | z
    · rw [z]; exact nit b u e
    · exact nit c _ z
theorem Inv.tok (I : Inv X pins σ H s) (t : Nat) : Inv X pins σ H { s with toks := t } := I.un (h' := s.heap) (t' := t) Un.refl I.hok
theorem Inv.kept {t' : Nat} (I : Inv X pins σ H s) (k : ∀ b u, s.heap.get? b = some u → h'.get? b = some u) : Inv X pins σ H { s with heap := h', toks := t' } := I.un (Un.kept k) (I.hok.kept k)
theorem Inv.laid {a : Addr} {o : HO} {t' : Nat} (I : Inv X pins σ H s) (k : ∀ b u, s.heap.get? b = some u → h'.get? b = some u) (hp : s.heap.objs.size ≤ a) (new : ObjOk X.prog X.w (upd H a o) h' a o) :
    Inv X pins σ (upd H a o) { s with heap := h', toks := t' } := I.un (Un.laid k hp (I.hok.fresh hp)) (I.hok.laid k hp new)
theorem Inv.write {x e : Addr} {o : HO} {t' : Nat} (I : Inv X pins σ H s) (mu : Mut (H x)) (he : e = x ∨ H e = some (.own x)) (k : ∀ b u, b ≠ e → s.heap.get? b = some u → h'.get? b = some u) (heo : ∃ u, h'.get? e = some u)
    (new : ObjOk X.prog X.w (upd H x o) h' x o) : Inv X pins σ (upd H x o) { s with heap := h', toks := t' } := I.un (Un.write mu he k heo) (I.hok.write mu he k heo new)
theorem Inv.pins_of {pins' : List (Addr × Obj)} (I : Inv X pins σ H s) (h : ∀ p ∈ pins', s.heap.get? p.1 = some p.2 ∧ H p.1 = none ∧ p.1 ≠ X.env.locals ∧ p.1 ∉ X.fs ∧ ∀ v, p.2.data ≠ .cell v) : Inv X pins' σ H s :=
  ⟨I.ok, I.os, I.bare, I.base, I.loc, I.cell, I.free, I.freeC, fun p hp => (List.mem_append.mp hp).elim (fun z => I.pin p (List.mem_append_left _ z)) (h p), I.hok, I.len⟩
theorem nodup_ix {N : List Str} (hN : N.Nodup) {i j : Nat} {x : Str} (a : N[i]? = some x) (b : N[j]? = some x) : i = j := by
  obtain ⟨h1, e1⟩ := List.getElem?_eq_some_iff.mp a
  obtain ⟨h2, e2⟩ := List.getElem?_eq_some_iff.mp b
  exact (List.getElem_inj hN).mp (e1.trans e2.symm)
theorem store_ok2 {M : Model} {A : Around} {E : Value → Shared → Prop} {i : Nat} {x : Str} {v : V} {u : Value} {Q : Unit → Shared → Prop} (I : Inv X pins σ H s) (hN : X.N.Nodup) (hi : X.N[i]? = some x) (hx : Loc X.env.scope x) (r : RelV v u)
    (h : ∀ s', Inv X pins (σ.set i (some v)) H s' → (∃ a, Heap.SameBut a s.heap s'.heap ∧ (a = X.env.locals ∨ X.env.cells.lookup x = some a)) → Q () s') (hf : X.fn x = true ∨ X.env.scope.names.lookup x = some .local := by first | exact .inl rfl | exact .inr rfl | assumption) : wpAny M A (storeName X.env x u) Q E s := by
  obtain ⟨m, hn, hl⟩ := id I.loc
  have hcls : (X.env.scope.kind == .class || (X.env.scope.kind == .module && X.env.locals != X.env.globals)) = false := by rw [I.ok.kind]; rfl
  have hiσ : i < σ.length := by rw [I.len]; exact (List.getElem?_eq_some_iff.mp hi).1
  have cne := I.cne
  have tracked : ∀ {a : Addr} {h' : Heap}, (∃ o, s.heap.get? a = some o ∧ H a = none) → Heap.SameBut a s.heap h' → HOk X.prog X.w H h' := fun {a h'} ha hs b ob e => by
    obtain ⟨_, _, hfree⟩ := ha
    refine (I.hok b ob e).stay (fun c w' hc q => (hs.2 c ?_).trans q) (fun _ q => q) fun _ _ q => q
    rintro rfl
    rcases hc with rfl | hc
    · rw [hfree] at e; cases e
    · rw [hfree] at hc; cases hc
  rcases hx with hk | hk
  · refine wpAny_storeName_local hk hn (fun h' hn' hs => ?_) hcls
    obtain ⟨oL, _, _, hoL, _⟩ := id hn
    refine h _ ⟨I.ok, I.os, I.bare, ⟨fun b o e n hb hx => ?_, fun b o e n hb hx => ?_, I.base.free, fun b o e hx => ?_, I.base.tups, I.base.frzs, I.base.tbls⟩, ⟨_, hn', fun j y v' e1 e2 e3 => ?_⟩, fun y c e => ?_, I.free, I.freeC, fun p hp => ?_, tracked ⟨oL, hoL, I.free⟩ hs, by simpa using I.len⟩ ⟨_, hs, .inl rfl⟩
    · exact (hs.2 b (Nat.ne_of_lt (Nat.lt_of_lt_of_le (Heap.lt_size e) I.ok.above))).trans (I.base.keep b o e n hb hx)
    · obtain ⟨sl, e1⟩ := I.base.slot b o e n hb hx
      exact ⟨sl, (hs.2 b (Nat.ne_of_lt (Nat.lt_of_lt_of_le (Heap.lt_size e) I.ok.above))).trans e1⟩
    · obtain ⟨o', e1⟩ := I.base.there b o e hx
      exact ⟨o', (hs.2 b (Nat.ne_of_lt (Nat.lt_of_lt_of_le (Heap.lt_size e) I.ok.above))).trans e1⟩
    · by_cases hj : j = i
      · subst hj
        rw [hi] at e1; cases e1
        rw [List.getElem?_set_self hiσ] at e2
        cases e2
        exact ⟨u, r, .inl ⟨hk, by simp⟩⟩
      · rw [List.getElem?_set_ne (Ne.symm hj)] at e2
        obtain ⟨u', r', q⟩ := hl j y v' e1 e2 e3
        refine ⟨u', r', ?_⟩
        rcases q with ⟨k, e⟩ | ⟨k, c, e, z⟩
        · refine .inl ⟨k, ?_⟩
          have : y ≠ x := fun e => hj (nodup_ix hN e1 (e ▸ hi))
          simp [this, e]
        · exact .inr ⟨k, c, e, z.sameBut hs (cne y c e)⟩
    · obtain ⟨w', z⟩ := I.cell y c e
      exact ⟨w', z.sameBut hs (cne y c e)⟩
    · obtain ⟨e, n, ne, nf, d⟩ := I.pin p hp
      exact ⟨(hs.2 p.1 ne).trans e, n, ne, nf, d⟩
  · have hfn : X.fn x = true := by
      rcases hf with z | z
      · exact z
      · rw [z] at hk; cases hk
    obtain ⟨c, hc⟩ := I.ok.has x (.inl hk)
    obtain ⟨w', z⟩ := I.cell x c hc
    refine wpAny_storeName_cell I.ok.kind hk hc z (fun h' hc' hs => ?_)
    obtain ⟨oc, hoc, hocd⟩ := id z
    refine h { s with heap := h' } ⟨I.ok, I.os, I.bare, ⟨fun b o e n hb hx => ?_, fun b o e n hb hx => ?_, I.base.free, fun b o e hx => ?_, I.base.tups, I.base.frzs, I.base.tbls⟩, ⟨m, hn.sameBut hs (Ne.symm (cne x c hc)), fun j y v' e1 e2 e3 => ?_⟩, fun y c' e => ?_, I.free, I.freeC, fun p hp => ?_, tracked ⟨oc, hoc, I.freeC x c hc⟩ hs, by simpa using I.len⟩ ⟨c, hs, .inr hc⟩
    · exact (hs.2 b (Nat.ne_of_lt (Nat.lt_of_lt_of_le (Heap.lt_size e) (I.ok.cab x c hfn hc)))).trans (I.base.keep b o e n hb hx)
    · obtain ⟨sl, e1⟩ := I.base.slot b o e n hb hx
      exact ⟨sl, (hs.2 b (Nat.ne_of_lt (Nat.lt_of_lt_of_le (Heap.lt_size e) (I.ok.cab x c hfn hc)))).trans e1⟩
    · obtain ⟨o', e1⟩ := I.base.there b o e hx
      exact ⟨o', (hs.2 b (Nat.ne_of_lt (Nat.lt_of_lt_of_le (Heap.lt_size e) (I.ok.cab x c hfn hc)))).trans e1⟩
    · by_cases hj : j = i
      · subst hj
        rw [hi] at e1; cases e1
        rw [List.getElem?_set_self hiσ] at e2
        cases e2
        exact ⟨u, r, .inr ⟨.inl hk, c, hc, hc'⟩⟩
      · rw [List.getElem?_set_ne (Ne.symm hj)] at e2
        obtain ⟨u', r', q⟩ := hl j y v' e1 e2 e3
        refine ⟨u', r', ?_⟩
        rcases q with q | ⟨k, c', e, z'⟩
        · exact .inl q
        · refine .inr ⟨k, c', e, z'.sameBut hs ?_⟩
          rintro rfl
          exact hj (nodup_ix hN e1 (I.ok.inj _ _ _ e hc ▸ hi))
    · by_cases hcc : c' = c
      · subst hcc; exact ⟨_, hc'⟩
      · obtain ⟨w2, z2⟩ := I.cell y c' e
        exact ⟨w2, z2.sameBut hs hcc⟩
    · obtain ⟨e, n, ne, nf, d⟩ := I.pin p hp
      refine ⟨(hs.2 p.1 ?_).trans e, n, ne, nf, d⟩
      intro q
      rw [q, hoc] at e
      have q' : oc = p.2 := Option.some.inj e
      exact d w' (by rw [← q']; exact hocd)
theorem store_ok {M : Model} {A : Around} {E : Value → Shared → Prop} {i : Nat} {x : Str} {v : V} {u : Value} {Q : Unit → Shared → Prop} (I : Inv X pins σ H s) (hN : X.N.Nodup) (hi : X.N[i]? = some x) (hx : Loc X.env.scope x) (r : RelV v u)
    (h : ∀ s', Inv X pins (σ.set i (some v)) H s' → Q () s') (hf : X.fn x = true ∨ X.env.scope.names.lookup x = some .local := by first | exact .inl rfl | exact .inr rfl | assumption) : wpAny M A (storeName X.env x u) Q E s :=
  store_ok2 I hN hi hx r (fun s' I' _ => h s' I') hf
theorem Inv.call' {s' : Shared} {ch : List Addr} (I : Inv X pins σ H s) (ho : s'.os = s.os) (u : Un (frs X.stack) ch H H' s.heap s'.heap) (hok : HOk X.prog X.w H' s'.heap) (hg : AllBare s'.gens)
    (hch : ∀ b ∈ ch, (b ∈ X.ex ∨ X.s₀.heap.objs.size ≤ b) ∧ b ≠ X.env.locals ∧ (∀ x c, X.env.cells.lookup x = some c → c ≠ b) ∧ ∀ p ∈ X.pn ++ pins, p.1 ≠ b) : Inv X pins σ H' s' := by
  obtain ⟨h', g', d', t', o'⟩ := s'
  have e : o' = s.os := ho
  subst e
  exact I.call (g' := g') (t' := t') (d' := d') u hok hg hch
end
abbrev XK := Value → Option Addr → Hp → Prop
abbrev St := List (Option V)
abbrev VK := V → Hp → Prop
abbrev TE := St → Hp → VK → Prop
abbrev TT := St → Hp → (Bool → Hp → Prop) → Prop
abbrev TA := St → Hp → (List V → Hp → Prop) → Prop
structure Ends where
  nx : St → Hp → Prop
  rt : VK
  bk : St → Hp → Prop := fun _ _ => False
  ct : St → Hp → Prop := fun _ _ => False
abbrev TS := Ends → St → Hp → Prop
def EP (X : Cx) (pins : List (Addr × Obj)) (σ : St) (Q : VK) (u : Value) (s' : Shared) : Prop := ∃ v H', Inv X pins σ H' s' ∧ RelV v u ∧ Q v H'
def TP (X : Cx) (pins : List (Addr × Obj)) (σ : St) (Q : Bool → Hp → Prop) (b : Bool) (s' : Shared) : Prop := ∃ H', Inv X pins σ H' s' ∧ Q b H'
def AP (X : Cx) (pins : List (Addr × Obj)) (σ : St) (Q : List V → Hp → Prop) (us : List Value) (s' : Shared) : Prop := ∃ vs H', Inv X pins σ H' s' ∧ Vals vs us ∧ Q vs H'
def SP (X : Cx) (pins : List (Addr × Obj)) (D : Ends) (f : Flow) (s' : Shared) : Prop :=
  match f with
  | .next => ∃ σ' H', Inv X pins σ' H' s' ∧ D.nx σ' H'
  | .brk => ∃ σ' H', Inv X pins σ' H' s' ∧ D.bk σ' H'
  | .cont => ∃ σ' H', Inv X pins σ' H' s' ∧ D.ct σ' H'
  | .ret u => ∃ v σ' H', Inv X pins σ' H' s' ∧ RelV v u ∧ D.rt v H'
def PE (X : Cx) (e : Expr) (t : TE) : Prop :=
  ∀ (pins : List (Addr × Obj)) (s : Shared) (σ : St) (H : Hp) (Q : VK), Inv X pins σ H s → t σ H Q → wpAny (model X.prog X.w) X.A (eval e X.env) (EP X pins σ Q) X.xe s
def PT (X : Cx) (e : Expr) (t : TT) : Prop :=
  ∀ (pins : List (Addr × Obj)) (s : Shared) (σ : St) (H : Hp) (Q : Bool → Hp → Prop), Inv X pins σ H s → t σ H Q → wpAny (model X.prog X.w) X.A (isTrue e X.env (eval e X.env)) (TP X pins σ Q) X.xe s
def PW (X : Cx) (e : Expr) (t : TT) : Prop :=
  ∀ (whole : Sem Value) (pins : List (Addr × Obj)) (s : Shared) (σ : St) (H : Hp) (Q : Bool → Hp → Prop), Inv X pins σ H s → t σ H Q → wpAny (model X.prog X.w) X.A (isTrue e X.env whole) (TP X pins σ Q) X.xe s
theorem PW.pt {X : Cx} {e : Expr} {t : TT} (h : PW X e t) : PT X e t := h _
def PA (X : Cx) (es : List Expr) (t : TA) : Prop :=
  ∀ (pos : Pos) (pins : List (Addr × Obj)) (s : Shared) (σ : St) (H : Hp) (Q : List V → Hp → Prop), Inv X pins σ H s → t σ H Q → wpAny (model X.prog X.w) X.A (spliced (backTo pos (starEach es X.env))) (AP X pins σ Q) X.xe s
def PS (X : Cx) (st : Stmt) (t : TS) : Prop :=
  ∀ (pins : List (Addr × Obj)) (s : Shared) (σ : St) (H : Hp) (D : Ends), Inv X pins σ H s → t D σ H → wpAny (model X.prog X.w) X.A (exec st X.env) (SP X pins D) X.xe s
def PSs (X : Cx) (st : List Stmt) (t : TS) : Prop :=
  ∀ (pins : List (Addr × Obj)) (s : Shared) (σ : St) (H : Hp) (D : Ends), Inv X pins σ H s → t D σ H → wpAny (model X.prog X.w) X.A (execs st X.env) (SP X pins D) X.xe s
theorem thn {α : Type} {t : Sem α} {Q Q' : α → Shared → Prop} {M : Model} {A : Around} {E : Value → Shared → Prop} {s : Shared} (h : wpAny M A t Q E s) (hQ : ∀ a s, Q a s → Q' a s) : wpAny M A t Q' E s := wpAny_mono h hQ fun _ _ x => x
end L2
namespace L2
open PySem PySem.Spec PyProof.Rows
section
variable {X : Cx}
def tVar (i : Nat) : TE := fun σ H Q => ∃ v, σ[i]? = some (some v) ∧ Q v H
def tC (v : V) : TE := fun _ H Q => Q v H
theorem pe_var {i : Nat} {x : Str} {pos : Pos} (hN : X.N[i]? = some x) (hv : Vis X.env.scope x) (hd : (x == ("__debug__" : Str)) = false := by decide) (hcd : (x == ("__classdict__" : Str)) = false := by decide) : PE X (.Name x pos) (tVar i) := by
  intro pins s σ H Q I h
  obtain ⟨v, e, h⟩ := h
  obtain ⟨m, hn, hl⟩ := I.loc
  obtain ⟨u, r, l⟩ := hl i x v hN e hv
  have fin : EP X pins σ Q u s := ⟨v, H, I, r, h⟩
  rcases l with ⟨hk, hm⟩ | ⟨hk, c, hc, hcell⟩
  · exact wpAny_Name (wpAny_loadName_local I.ok.kind hk hn hm fin) hd
  · rcases hk with hk | hk
    · exact wpAny_Name (wpAny_loadName_cell I.ok.kind hk hc hcell fin) hd
    · exact wpAny_Name (wpAny_loadName_free I.ok.kind hk hc hcell fin hcd) hd
theorem pe_int {i j pos} : PE X (.Constant (.int i) j pos) (tC (.int i)) := fun _ _ _ H _ I h => wpAny_Constant_int ⟨.int i, H, I.tok _, ⟨_, rfl⟩, h⟩
theorem pe_bl {b j pos} : PE X (.Constant (.bool b) j pos) (tC (.bl b)) := fun _ _ _ H _ I h => Constant_bool ⟨.bl b, H, I, rfl, h⟩
theorem pe_non {j pos} : PE X (.Constant .none j pos) (tC .non) := fun _ _ _ H _ I h => Constant_none ⟨.non, H, I, rfl, h⟩
theorem pe_str {x j pos} : PE X (.Constant (.str x) j pos) (tC (.str x)) := fun _ _ _ H _ I h => Calls.Constant_str ⟨.str x, H, I.tok _, ⟨_, rfl⟩, h⟩
def Gl (X : Cx) (x : Str) : Prop := X.env.kindOf x = some .globalImplicit
theorem ld_glob {E : Value → Shared → Prop} {pins : List (Addr × Obj)} {s : Shared} {σ : St} {H : Hp} {x : Str} {u : Value} {pos : Pos} {Q : Value → Shared → Prop} (I : Inv X pins σ H s) (hg : Gl X x) (hm : X.mg x = some u) (h : Q u s)
    (hd : (x == ("__debug__" : Str)) = false := by decide) : wpAny (model X.prog X.w) X.A (eval (.Name x pos) X.env) Q E s :=
  Calls.Name_function_global I.ok.kind hg (Calls.loadGlobal_global (by rw [I.ok.glob]; exact I.mod.glob.keeps I.bk) hm h) hd
theorem ld_blt {E : Value → Shared → Prop} {pins : List (Addr × Obj)} {s : Shared} {σ : St} {H : Hp} {x : Str} {u : Value} {pos : Pos} {Q : Value → Shared → Prop} (I : Inv X pins σ H s) (hg : Gl X x) (hm : X.mg x = none) (hv : bootBuiltins x = some u) (h : Q u s)
    (hn : x ≠ "__name__" := by decide) (hd : (x == ("__debug__" : Str)) = false := by decide) : wpAny (model X.prog X.w) X.A (eval (.Name x pos) X.env) Q E s := by
  obtain ⟨mb, h1, h2⟩ := I.mod.blt
  exact Calls.Name_function_global I.ok.kind hg (Calls.loadGlobal_builtin (by rw [I.ok.glob]; exact I.mod.glob.keeps I.bk) hm (by rw [I.ok.blt]; exact h1.keeps I.bk) ((h2 x hn).trans hv) h) hd
theorem pe_bltn {x : Str} {v : V} {u : Value} {pos : Pos} (hg : Gl X x) (hm : X.mg x = none) (hv : bootBuiltins x = some u) (r : RelV v u) (hn : x ≠ "__name__" := by decide) (hd : (x == ("__debug__" : Str)) = false := by decide) : PE X (.Name x pos) (tC v) :=
  fun _ _ _ H _ I h => ld_blt I hg hm hv ⟨v, H, I, r, h⟩ hn hd
variable {a b : Expr} {ta tb : TE} {pos : Pos}
variable {tA tB' : TT} {rest : List Expr}
def tAnd (t u : TT) : TT := fun σ H Q => t σ H fun c H1 => if c = true then u σ H1 Q else Q false H1
def tOr (t u : TT) : TT := fun σ H Q => t σ H fun c H1 => if c = true then Q true H1 else u σ H1 Q
def tNot (t : TT) : TT := fun σ H Q => t σ H fun c H1 => Q (!c) H1
theorem pw_and1 (ha : PT X a tA) : PW X (.BoolOp .And [a] pos) tA := by
  intro wh pins s σ H Q I h
  refine isTrue_and (thn (ha pins s σ H Q I h) fun c s1 e => ?_)
  cases c with
  | true => exact isTrue_and_nil e
  | false => exact e
theorem pw_or1 (ha : PT X a tA) : PW X (.BoolOp .Or [a] pos) tA := by
  intro wh pins s σ H Q I h
  refine isTrue_or (thn (ha pins s σ H Q I h) fun c s1 e => ?_)
  cases c with
  | false => exact isTrue_or_nil e
  | true => exact e
theorem pw_and (ha : PT X a tA) (hb : PW X (.BoolOp .And (b :: rest) pos) tB') : PW X (.BoolOp .And (a :: b :: rest) pos) (tAnd tA tB') := by
  intro wh pins s σ H Q I h
  refine isTrue_and (thn (ha pins s σ H _ I h) fun c s1 ⟨H1, I1, q1⟩ => ?_)
  cases c with
  | true => exact hb wh pins s1 σ H1 Q I1 q1
  | false => exact ⟨H1, I1, q1⟩
theorem pw_or (ha : PT X a tA) (hb : PW X (.BoolOp .Or (b :: rest) pos) tB') : PW X (.BoolOp .Or (a :: b :: rest) pos) (tOr tA tB') := by
  intro wh pins s σ H Q I h
  refine isTrue_or (thn (ha pins s σ H _ I h) fun c s1 ⟨H1, I1, q1⟩ => ?_)
  cases c with
  | true => exact ⟨H1, I1, q1⟩
  | false => exact hb wh pins s1 σ H1 Q I1 q1
theorem pt_not (ha : PT X a tA) : PT X (.UnaryOp .Not a pos) (tNot tA) := by
  intro pins s σ H Q I h
  exact isTrue_not (ha pins s σ H (fun c H1 => Q (!c) H1) I h)
def tAndV (ta tb : TE) : TE := fun σ H Q => ta σ H fun x H1 => ∃ c, x = .bl c ∧ if c = true then tb σ H1 Q else Q (.bl false) H1
theorem pe_one {op} {t : TE} (h : PE X a t) : PE X (.BoolOp op [a] pos) t := fun pins s σ H Q I hw => BoolOp_one (h pins s σ H Q I hw)
theorem pe_and (ha : PE X a ta) (hb : PE X (.BoolOp .And (b :: rest) pos) tb) : PE X (.BoolOp .And (a :: b :: rest) pos) (tAndV ta tb) := by
  intro pins s σ H Q I h
  refine BoolOp_and (thn (ha pins s σ H _ I h) fun v s1 ⟨x, H1, I1, r1, q1⟩ => ?_)
  obtain ⟨c, rfl, q1⟩ := q1
  cases r1
  refine wpAny_truthy_bool ?_
  cases c with
  | true => exact hb pins s1 σ H1 Q I1 q1
  | false => exact ⟨.bl false, H1, I1, rfl, q1⟩
end
end L2
namespace L2
open PySem PySem.Spec PyProof.Rows
def SqL (K : PySem.W.Frag) (H : Hp) (a : Addr) (xs : List V) : Prop :=
  Rd H a (.lst xs) ∨
    ∃ (o : Obj) (its : Array Value) (n : Nat), K.lookup a = some o ∧ o.cls = .type "list" ∧ o.dict = none ∧ o.data = .seq its n ∧ its.size ≤ sizeLine ∧ Vals xs its.toList
def SqT (K : PySem.W.Frag) (H : Hp) (a : Addr) (xs : List V) : Prop :=
  Rd H a (.tup xs) ∨
    ∃ (o : Obj) (its : Array Value) (n : Nat), K.lookup a = some o ∧ o.cls = .type "tuple" ∧ o.data = .seq its n ∧ its.size ≤ sizeLine ∧ Vals xs its.toList
def absV : Value → Option V
  | .none => some .non
  | .bool b => some (.bl b)
  | .int i _ => some (.int i)
  | .str x _ => some (.str x)
  | .bytes b _ => some (.byt b)
  | .float b _ => some (.flt b)
  | .ref a => some (.ref a)
  | .type n => some (.ty n)
  | _ => none
theorem RelV.abs {x : V} {u : Value} (r : RelV x u) : absV u = some x := by
  cases x with
  | non => cases r; rfl
  | bl _ => cases r; rfl
  | int _ => obtain ⟨t, rfl⟩ := r; rfl
  | str _ => obtain ⟨t, rfl⟩ := r; rfl
  | byt _ => obtain ⟨t, rfl⟩ := r; rfl
  | flt _ => obtain ⟨t, rfl⟩ := r; rfl
  | ref _ => cases r; rfl
  | ty _ => cases r; rfl
theorem RelV.inj {x y : V} {u : Value} (r : RelV x u) (q : RelV y u) : x = y := Option.some.inj (r.abs.symm.trans q.abs)
theorem Vals.inj : ∀ {xs ys : List V} {us : List Value}, Vals xs us → Vals ys us → xs = ys
  | _, _, _, .nil, .nil => rfl
  | _, _, _, .cons r t, .cons r' t' => by rw [r.inj r', Vals.inj t t']
section
variable {X : Cx} {pins : List (Addr × Obj)} {σ : St} {H : Hp} {s : Shared} {a : Addr} {xs ys : List V}
theorem SqL.of {K : PySem.W.Frag} (h : H a = some (.lst xs)) : SqL K H a xs := .inl (.inl h)
theorem SqT.of {K : PySem.W.Frag} (h : H a = some (.tup xs)) : SqT K H a xs := .inl (.inl h)
theorem Inv.list (I : Inv X pins σ H s) (h : SqL X.K H a xs) : ∃ its : List Value, Vals xs its ∧ PlainL s.heap a its.toArray ∧ xs.length ≤ sizeLine := by
  rcases h with h | ⟨o, its, n, hk, hc, hd, hs, hz, r⟩
  · obtain ⟨z, its, n, r, e⟩ := h.ok I.hok
    exact ⟨its, r, ⟨_, n, e, rfl, rfl, rfl⟩, z⟩
  · refine ⟨its.toList, r, ⟨o, n, I.kIn a o hk, hc, hd, by simpa using hs⟩, ?_⟩
    have e := r.length
    simp only [Array.length_toList] at e
    omega
theorem Inv.tuple (I : Inv X pins σ H s) (h : SqT X.K H a xs) : ∃ its : List Value, Vals xs its ∧ IsTup s.heap a its.toArray ∧ xs.length ≤ sizeLine := by
  rcases h with h | ⟨o, its, n, hk, hc, hs, hz, r⟩
  · obtain ⟨z, its, r, p⟩ := h.ok I.hok
    exact ⟨its, r, p, z⟩
  · refine ⟨its.toList, r, ⟨o, I.kIn a o hk, hc, n, by simpa using hs⟩, ?_⟩
    have e := r.length
    simp only [Array.length_toList] at e
    omega
theorem Inv.list_inj (I : Inv X pins σ H s) (h : SqL X.K H a xs) (h' : SqL X.K H a ys) : xs = ys := by
  obtain ⟨its, r, ⟨o, n, e, _, _, d⟩, _⟩ := I.list h
  obtain ⟨its', r', ⟨o', n', e', _, _, d'⟩, _⟩ := I.list h'
  rw [e] at e'; cases e'
  rw [d] at d'
  injection d' with d1 _
  have : its = its' := by simpa using congrArg Array.toList d1
  subst this
  exact r.inj r'
theorem Inv.tuple_inj (I : Inv X pins σ H s) (h : SqT X.K H a xs) (h' : SqT X.K H a ys) : xs = ys := by
  obtain ⟨its, r, ⟨o, e, _, n, d⟩, _⟩ := I.tuple h
  obtain ⟨its', r', ⟨o', e', _, n', d'⟩, _⟩ := I.tuple h'
  rw [e] at e'; cases e'
  rw [d] at d'
  injection d' with d1 _
  have : its = its' := by simpa using congrArg Array.toList d1
  subst this
  exact r.inj r'
end
abbrev Cx.wish (X : Cx) (E : Value → Shared → Prop) : Cx := { X with xe := E }
abbrev Cx.nox (X : Cx) : Cx := X.wish fun _ _ => False
theorem Cx.Ok.wish {X : Cx} (ok : X.Ok) (E : Value → Shared → Prop) : (X.wish E).Ok :=
  ⟨ok.mod, ok.kind, ok.glob, ok.blt, ok.above, ok.inj, ok.has, ok.cab, ok.hd, ok.frames, ok.stk, ok.exf, ok.bs, ok.bsz, ok.noex, ok.exfs, ok.funs, ok.frf⟩
theorem Cx.Ok.unwish {X : Cx} {E : Value → Shared → Prop} (ok : (X.wish E).Ok) : X.Ok :=
  ⟨ok.mod, ok.kind, ok.glob, ok.blt, ok.above, ok.inj, ok.has, ok.cab, ok.hd, ok.frames, ok.stk, ok.exf, ok.bs, ok.bsz, ok.noex, ok.exfs, ok.funs, ok.frf⟩
section
variable {X : Cx} {pins : List (Addr × Obj)} {σ : St} {H : Hp} {s : Shared} {E : Value → Shared → Prop}
theorem Inv.wish (I : Inv X pins σ H s) (E : Value → Shared → Prop) : Inv (X.wish E) pins σ H s := ⟨I.ok.wish E, I.os, I.bare, I.base, I.loc, I.cell, I.free, I.freeC, I.pin, I.hok, I.len⟩
theorem Inv.unwish (I : Inv (X.wish E) pins σ H s) : Inv X pins σ H s := ⟨I.ok.unwish, I.os, I.bare, I.base, I.loc, I.cell, I.free, I.freeC, I.pin, I.hok, I.len⟩
theorem SP.unwish {D : Ends} {f : Flow} {s' : Shared} (h : SP (X.wish E) pins D f s') : SP X pins D f s' := by
  cases f with
  | next => obtain ⟨σ', H', I, q⟩ := h; exact ⟨σ', H', I.unwish, q⟩
  | brk => obtain ⟨σ', H', I, q⟩ := h; exact ⟨σ', H', I.unwish, q⟩
  | cont => obtain ⟨σ', H', I, q⟩ := h; exact ⟨σ', H', I.unwish, q⟩
  | ret u => obtain ⟨v, σ', H', I, r, q⟩ := h; exact ⟨v, σ', H', I.unwish, r, q⟩
theorem PE.nox {e : Expr} {t : TE} (h : PE X.nox e t) : PE X e t := fun pins s σ H Q I hw =>
  wpAny_mono (h pins s σ H Q (I.wish _) hw) (fun _ _ ⟨v, H', I', r, q⟩ => ⟨v, H', I'.unwish, r, q⟩) fun _ _ z => False.elim z
theorem PT.nox {e : Expr} {t : TT} (h : PT X.nox e t) : PT X e t := fun pins s σ H Q I hw =>
  wpAny_mono (h pins s σ H Q (I.wish _) hw) (fun _ _ ⟨H', I', q⟩ => ⟨H', I'.unwish, q⟩) fun _ _ z => False.elim z
theorem PSs.nox {st : List Stmt} {t : TS} (h : PSs X.nox st t) : PSs X st t := fun pins s σ H D I hw =>
  wpAny_mono (h pins s σ H D (I.wish _) hw) (fun _ _ q => q.unwish) fun _ _ z => False.elim z
end
section
variable {X : Cx} {st : Stmt} {rest : List Stmt} {t u : TS} {e : Expr} {te : TE} {pos : Pos}
def tNext : TS := fun D σ H => D.nx σ H
def tSeq (t u : TS) : TS := fun D σ H => t { D with nx := u D } σ H
theorem pss_nil : PSs X [] tNext := fun _ _ σ H _ I h => wpAny_execs_nil ⟨σ, H, I, h⟩
theorem pss_cons (h1 : PS X st t) (h2 : PSs X rest u) : PSs X (st :: rest) (tSeq t u) := by
  intro pins s σ H D I h
  refine wpAny_execs_cons (thn (h1 pins s σ H { D with nx := u D } I h) fun f s1 q => ?_)
  cases f with
  | next =>
    obtain ⟨σ', H', I', q⟩ := q
    exact h2 pins s1 σ' H' D I' q
  | ret v => exact q
  | brk => exact q
  | cont => exact q
theorem pss_one (h1 : PS X st t) : PSs X [st] t := by
  intro pins s σ H D I h
  refine wpAny_execs_cons (thn (h1 pins s σ H D I h) fun f s1 q => ?_)
  cases f with
  | next => exact wpAny_execs_nil q
  | ret v => exact q
  | brk => exact q
  | cont => exact q
theorem Inv.quiet {pins : List (Addr × Obj)} {σ : St} {H : Hp} {s : Shared} (I : Inv X pins σ H s) : interactive X.env = false := by simp [interactive, I.ok.kind]
def tDrop (te : TE) : TS := fun D σ H => te σ H fun _ H1 => D.nx σ H1
theorem ps_expr (he : PE X e te) (hs : swapsWith e none pos.line X.env = pure false := by rfl) : PS X (.Expr e pos) (tDrop te) := by
  intro pins s σ H D I h
  exact wpAny_Expr_any (thn (he pins s σ H _ I h) fun v s1 ⟨x, H1, I1, r1, q1⟩ => ⟨σ, H1, I1, q1⟩) I.quiet hs
def tRet (te : TE) : TS := fun D σ H => te σ H D.rt
theorem ps_ret (he : PE X e te) : PS X (.Return (some e) pos) (tRet te) := by
  intro pins s σ H D I h
  exact wpAny_Return_some (thn (he pins s σ H _ I h) fun v s1 ⟨x, H1, I1, r1, q1⟩ => ⟨x, σ, H1, I1, r1, q1⟩)
def tIfS (c : TT) (t u : TS) : TS := fun D σ H => c σ H fun b H1 => if b = true then t D σ H1 else u D σ H1
theorem ps_if {c : Expr} {a b : List Stmt} {tc : TT} (hc : PT X c tc) (ha : PSs X a t) (hb : PSs X b u) : PS X (.If c a b pos) (tIfS tc t u) := by
  intro pins s σ H D I h
  refine wpAny_If (thn (hc pins s σ H _ I h) fun d s1 ⟨H1, I1, q1⟩ => ?_)
  cases d with
  | true => exact ha pins s1 σ H1 D I1 q1
  | false => exact hb pins s1 σ H1 D I1 q1
end
abbrev TG := V → St → Hp → (St → Hp → Prop) → Prop
abbrev TGs := List V → St → Hp → (St → Hp → Prop) → Prop
def PG (X : Cx) (target : Expr) (t : TG) : Prop :=
  ∀ (pins : List (Addr × Obj)) (s : Shared) (σ : St) (H : Hp) (v : V) (u : Value) (Q : St → Hp → Prop), Inv X pins σ H s → RelV v u → t v σ H Q →
    wpAny (model X.prog X.w) X.A (assign target X.env u) (fun _ s' => ∃ σ' H', Inv X pins σ' H' s' ∧ Q σ' H') X.xe s
def PGs (X : Cx) (ts : List Expr) (t : TGs) : Prop :=
  ∀ (pins : List (Addr × Obj)) (s : Shared) (σ : St) (H : Hp) (vs : List V) (us : List Value) (Q : St → Hp → Prop), Inv X pins σ H s → Vals vs us → t vs σ H Q →
    wpAny (model X.prog X.w) X.A (assignInOrder ((assignEach ts X.env).map (·.2)) us) (fun _ s' => ∃ σ' H', Inv X pins σ' H' s' ∧ Q σ' H') X.xe s
abbrev TSet := V → V → V → Hp → (Hp → Prop) → Prop
def PSet (X : Cx) (t : TSet) : Prop :=
  ∀ (pins : List (Addr × Obj)) (s : Shared) (σ : St) (H : Hp) (o i v : V) (ov iv u : Value) (Q : Hp → Prop), Inv X pins σ H s → RelV o ov → RelV i iv → RelV v u → t o i v H Q →
    wpAny (model X.prog X.w) X.A (setItem ov iv u) (fun _ s' => ∃ H', Inv X pins σ H' s' ∧ Q H') X.xe s
section
variable {X : Cx} {pos : Pos}
def gName (i : Nat) : TG := fun v σ H Q => Q (σ.set i (some v)) H
theorem pg_name {i : Nat} {x : Str} (hN : X.N.Nodup) (hi : X.N[i]? = some x) (hx : Loc X.env.scope x) (hf : X.fn x = true ∨ X.env.scope.names.lookup x = some .local := by first | exact .inl rfl | exact .inr rfl | assumption) : PG X (.Name x pos) (gName i) := by
  intro pins s σ H v u Q I r h
  exact wpAny_assign_Name (store_ok I hN hi hx r (fun s' I' => ⟨_, H, I', h⟩) hf)
def gNil : TGs := fun vs σ H Q => vs = [] ∧ Q σ H
def gCons (t : TG) (u : TGs) : TGs := fun vs σ H Q => ∃ v r, vs = v :: r ∧ t v σ H fun σ' H' => u r σ' H' Q
theorem pgs_nil : PGs X [] gNil := by
  intro pins s σ H vs us Q I r h
  obtain ⟨e, h⟩ := h
  subst e
  cases r
  exact assignInOrder_nil ⟨σ, H, I, h⟩
theorem pgs_cons {e : Expr} {es : List Expr} {t : TG} {u : TGs} (h1 : PG X e t) (h2 : PGs X es u)
    (hs : (assignEach (e :: es) X.env).map (·.2) = assign e X.env :: (assignEach es X.env).map (·.2) := by rfl) : PGs X (e :: es) (gCons t u) := by
  intro pins s σ H vs us Q I r h
  obtain ⟨v, vr, e1, h⟩ := h
  subst e1
  cases r with
  | cons r rr =>
    rw [hs]
    refine assignInOrder_cons (thn (h1 pins s σ H _ _ _ I r h) fun _ s1 ⟨σ1, H1, I1, q1⟩ => ?_)
    exact h2 pins s1 σ1 H1 _ _ Q I1 rr q1
def gTup (K : PySem.W.Frag) (n : Nat) (t : TGs) : TG := fun v σ H Q => ∃ a xs, v = .ref a ∧ SqT K H a xs ∧ xs.length = n ∧ t xs σ H Q
theorem pg_tup {es : List Expr} {k : Nat} {t : TGs} {n : Nat} (hc : X.calm = true) (h : PGs X es t)
    (hn : (assignEach es X.env).length = n := by rfl) (hst : (assignEach es X.env).findIdx? (·.1) = none := by rfl) : PG X (.Tuple es k pos) (gTup X.K n t) := by
  intro pins s σ H v u Q I r hw
  obtain ⟨a, xs, e1, hq, hl, hw⟩ := hw
  subst e1
  cases r
  obtain ⟨its, rv, ht, hz⟩ := I.tuple hq
  refine assign_Tuple_tuple (I.ok.hd hc) ht (by simp [hn, ← hl, rv.length]) hst fun h' hx => ?_
  have I1 : Inv X pins σ H { s with heap := h' } := I.kept (t' := s.toks) fun b o e => hx b o (Nat.ne_of_lt (Heap.lt_size e)) e
  exact h pins _ σ H xs _ Q I1 (by simpa using rv) hw
def gSub (to ti : TE) (t : TSet) : TG := fun v σ H Q => to σ H fun o H1 => ti σ H1 fun i H2 => t o i v H2 fun H3 => Q σ H3
theorem pg_sub {o i : Expr} {to ti : TE} {t : TSet} (ho : PE X o to) (hi : PE X i ti) (hs : PSet X t)
    (ha : ∀ v, assign (.Subscript o i pos) X.env v = (do
      let ov ← holding [v] (eval o X.env)
      let iv ← holding [v, ov] (eval i X.env)
      standAt pos
      holding [v, ov, iv] (setItem ov iv v)
      release [v, ov, iv] []) := by intro _; rfl) : PG X (.Subscript o i pos) (gSub to ti t) := by
  intro pins s σ H v u Q I r h
  rw [ha]
  refine wpAny_bind (wpAny_holding (thn (ho pins s σ H _ I h) fun ov s1 ⟨x, H1, I1, r1, q1⟩ => ?_))
  refine wpAny_bind (wpAny_holding (thn (hi pins s1 σ H1 _ I1 q1) fun iv s2 ⟨y, H2, I2, r2, q2⟩ => ?_))
  refine wpAny_bind (wpAny_standAt (wpAny_bind (wpAny_holding (thn (hs pins s2 σ H2 x y v ov iv u _ I2 r1 r2 r q2) fun _ s3 ⟨H3, I3, q3⟩ => ?_))))
  exact wpAny_release ⟨σ, H3, I3, q3⟩
def tAsg (te : TE) (g : TG) : TS := fun D σ H => te σ H fun x H1 => g x σ H1 D.nx
theorem ps_asg {tg e : Expr} {te : TE} {g : TG} (he : PE X e te) (hg : PG X tg g) (hs : swapsWithSole [tg] e pos.line X.env = pure false := by rfl) (hw : swappedStores [tg] e X.env = pure none := by rfl)
    (h1 : (assignEach [tg] X.env).map (·.2) = [assign tg X.env] := by rfl) : PS X (.Assign [tg] e pos) (tAsg te g) := by
  intro pins s σ H D I h
  refine wpAny_Assign_stores (thn (he pins s σ H _ I h) fun v s1 ⟨x, H1, I1, r1, q1⟩ => ?_) hs hw
  rw [h1]
  exact thn (hg pins s1 σ H1 x v _ I1 r1 q1) fun _ s2 q => q
theorem ps_set {i : Nat} {x : Str} {e : Expr} {te : TE} {pos' : Pos} (hN : X.N.Nodup) (hi : X.N[i]? = some x) (hx : Loc X.env.scope x) (he : PE X e te) (hs : swapsWith e (some (.Name x pos')) pos.line X.env = pure false := by rfl) (hf : X.fn x = true ∨ X.env.scope.names.lookup x = some .local := by first | exact .inl rfl | exact .inr rfl | assumption) :
    PS X (.Assign [.Name x pos'] e pos) (tAsg te (gName i)) := by
  intro pins s σ H D I h
  refine wpAny_Assign_Name (thn (he pins s σ H _ I h) fun v s1 ⟨y, H1, I1, r1, q1⟩ => ?_) hs
  exact store_ok I1 hN hi hx r1 (fun s2 I2 => ⟨_, H1, I2, q1⟩) hf
end
section
variable {X : Cx} {pos : Pos}
def tWhile (c : TT) (tb : TS) : TS := fun D σ H => ∃ W : Nat → St → Hp → Prop, (∃ m, W m σ H) ∧ ∀ m σ H, W m σ H →
  c σ H fun b H1 => if b = true then ∃ N : St → Hp → Prop, (∀ σ' H', N σ' H' → ∃ m', m' < m ∧ W m' σ' H') ∧ tb { D with nx := N, ct := N, bk := D.nx } σ H1 else D.nx σ H1
theorem ps_while {c : Expr} {body : List Stmt} {tc : TT} {tb : TS} (hp : PassesOwn (model X.prog X.w) X.A X.env X.xe) (hc : PT X c tc) (hb : PSs X body tb) : PS X (.While c body [] pos) (tWhile tc tb) := by
  intro pins s σ H D I h
  obtain ⟨W, ⟨m0, w0⟩, turn⟩ := h
  refine wpAny_While (codeAny_whileLoop (fun n s' => ∃ σ' H', Inv X pins σ' H' s' ∧ W n σ' H') ?_ m0 ⟨σ, H, I, w0⟩)
  rintro n s1 ⟨σ1, H1, I1, w1⟩
  refine wpAny_passesOwn hp (thn (hc pins s1 σ1 H1 _ I1 (turn n σ1 H1 w1)) fun b s2 ⟨H2, I2, q2⟩ => ?_)
  cases b with
  | true =>
    obtain ⟨N, hN, q2⟩ := q2
    rw [if_pos rfl]
    refine wpAny_passesOwn hp (thn (hb pins s2 σ1 H2 _ I2 q2) fun f s3 q3 => ?_)
    cases f with
    | next =>
      obtain ⟨σ3, H3, I3, n3⟩ := q3
      obtain ⟨m', hm, w3⟩ := hN σ3 H3 n3
      exact ⟨m', hm, σ3, H3, I3, w3⟩
    | cont =>
      obtain ⟨σ3, H3, I3, n3⟩ := q3
      obtain ⟨m', hm, w3⟩ := hN σ3 H3 n3
      exact ⟨m', hm, σ3, H3, I3, w3⟩
    | brk => exact q3
    | ret v => exact q3
  | false =>
    rw [if_neg Bool.false_ne_true]
    exact wpAny_execs_nil ⟨σ1, H2, I2, q2⟩
end
structure It where
  go : Nat → Hp → Prop
  yld : Nat → Hp → V → Hp → Prop
  stop : Nat → Hp → Prop
def FpOk (X : Cx) (pins : List (Addr × Obj)) (H : Hp) (b : Addr) : Prop :=
  H b = none ∧ b ≠ X.env.locals ∧ b ∉ X.fs ∧ (b ∈ X.ex ∨ X.s₀.heap.objs.size ≤ b) ∧ (∀ x c, X.env.cells.lookup x = some c → c ≠ b) ∧ ∀ p ∈ X.pn ++ pins, p.1 ≠ b
theorem Inv.fpOk {X : Cx} {pins : List (Addr × Obj)} {σ : St} {H H' : Hp} {s : Shared} {b : Addr} (I : Inv X pins σ H s) (hb : s.heap.objs.size ≤ b) (hn : H' b = none) : FpOk X pins H' b := by
  refine ⟨hn, Nat.ne_of_gt (Nat.lt_of_lt_of_le I.lt hb), I.nofs hb, .inr (Nat.le_trans I.sz hb), fun x c e z => ?_, fun p hp z => ?_⟩
  · obtain ⟨v, q⟩ := I.cell x c e
    exact absurd (Nat.lt_of_lt_of_le q.lt (by rw [z]; exact hb)) (Nat.lt_irrefl _)
  · exact absurd (Nat.lt_of_lt_of_le (Heap.lt_size (I.pin p hp).1) (by rw [z]; exact hb)) (Nat.lt_irrefl _)
structure Turn (P : Program) (w : World) (K : PySem.W.Frag) (tg : Expr) (J : It) (fp : List Addr) (it : Addr) (tn : Nat → Heap → Prop) : Prop where
  mem : it ∈ fp
  obj : ∀ i h, tn i h → ∀ b ∈ fp, ∃ o, h.get? b = some o ∧ ∀ v, o.data ≠ .cell v
  keep : ∀ i h h', tn i h → (∀ b ∈ fp, ∀ o, h.get? b = some o → h'.get? b = some o) → tn i h'
  item : ∀ (X : Cx), X.prog = P → X.w = w → X.K = K → X.calm = true → ∀ (i : Nat) (pins : List (Addr × Obj)) (s : Shared) (σ : St) (H : Hp) (E : Value → Shared → Prop), Inv X pins σ H s → (∀ b ∈ fp, FpOk X pins H b) → tn i s.heap → J.go i H →
    wpAny (model P w) X.A (pyNext (.ref it)) (fun r s1 => ∃ u, r = some u ∧
      wpAny (model P w) X.A (letOwnedTupleGo tg (.ref it) u) (fun _ s2 => ∃ x H', Inv X pins σ H' s2 ∧ RelV x u ∧ J.yld i H x H' ∧ tn (i + 1) s2.heap ∧ ∀ b ∈ fp, H' b = none) E s1) E s
  done : ∀ (X : Cx), X.prog = P → X.w = w → X.K = K → X.calm = true → ∀ (i : Nat) (pins : List (Addr × Obj)) (s : Shared) (σ : St) (H : Hp) (E : Value → Shared → Prop), Inv X pins σ H s → (∀ b ∈ fp, FpOk X pins H b) → tn i s.heap → J.stop i H →
    wpAny (model P w) X.A (pyNext (.ref it)) (fun r s1 => r = none ∧ Inv X pins σ H s1) E s
  self : ∀ (A : Around) (i : Nat) (s : Shared) (Q : Value → Shared → Prop) (E : Value → Shared → Prop), tn i s.heap → Q (.ref it) s → wpAny (model P w) A (pyIter (.ref it)) Q E s
abbrev TI := St → Hp → (It → Hp → Prop) → Prop
def PIE (X : Cx) (pins : List (Addr × Obj)) (σ : St) (tg : Expr) (R : It → Hp → Prop) (itv : Value) (s2 : Shared) : Prop :=
  ∃ (it : Addr) (fp : List Addr) (tn : Nat → Heap → Prop) (J : It) (H' : Hp), itv = .ref it ∧ Inv X pins σ H' s2 ∧ Turn X.prog X.w X.K tg J fp it tn ∧ tn 0 s2.heap ∧ (∀ b ∈ fp, FpOk X pins H' b) ∧ R J H'
def PI (X : Cx) (tg iter : Expr) (wi : TI) : Prop :=
  ∀ (pins : List (Addr × Obj)) (s : Shared) (σ : St) (H : Hp) (R : It → Hp → Prop), Inv X pins σ H s → wi σ H R →
    wpAny (model X.prog X.w) X.A (eval iter X.env) (fun v s1 => wpAny (model X.prog X.w) X.A (pyIter v) (PIE X pins σ tg R) X.xe s1) X.xe s
theorem go_of {M : Model} {A : Around} {E : Value → Shared → Prop} {s : Shared} {tg : Expr} {it : Addr} {u : Value} {o : Obj} {n : String} {vs : Array Value} {Q : Unit → Shared → Prop} (ho : s.heap.get? it = some o) (hc : o.cls = .type n) (hd : o.data = .fields vs)
    (hn : ["enumerate", "zip", "dict_itemiterator", "dict_reverseitemiterator", "odict_iterator", "itertools.zip_longest", "itertools.pairwise"].contains n = false) (hQ : Q () s) : wpAny M A (letOwnedTupleGo tg (.ref it) u) Q E s := by
  unfold letOwnedTupleGo
  cases tg <;> first
    | exact wpAny_pure hQ
    | (cases u <;> first
        | exact wpAny_pure hQ
        | (refine wpAny_bind (wpAny_load ho ?_)
           rw [hc, hd]
           show wpAny M A (if (["enumerate", "zip", "dict_itemiterator", "dict_reverseitemiterator", "odict_iterator", "itertools.zip_longest", "itertools.pairwise"].contains n && vs[0]? == some (rawInt _)) = true then _ else _) Q E s
           rw [if_neg (by intro h; rw [hn, Bool.false_and] at h; cases h)]
           exact wpAny_pure hQ))
def Itl (K : PySem.W.Frag) (a : Addr) : It :=
  ⟨fun i H => ∃ xs x, SqL K H a xs ∧ xs[i]? = some x, fun i H x H' => H' = H ∧ ∀ xs, SqL K H a xs → xs[i]? = some x, fun i H => ∃ xs, SqL K H a xs ∧ xs.length ≤ i⟩
def Itt (K : PySem.W.Frag) (a : Addr) : It :=
  ⟨fun i H => ∃ xs x, SqT K H a xs ∧ xs[i]? = some x, fun i H x H' => H' = H ∧ ∀ xs, SqT K H a xs → xs[i]? = some x, fun i H => ∃ xs, SqT K H a xs ∧ xs.length ≤ i⟩
def Itr (lo : Int) (n : Nat) : It := ⟨fun i _ => i < n, fun i H x H' => H' = H ∧ x = .int (lo + i), fun i _ => n ≤ i⟩
theorem turn_list {P : Program} {w : World} {K : PySem.W.Frag} {tg : Expr} (a it : Addr) : Turn P w K tg (Itl K a) [it] it (fun i h => h.IsListIter it a i) where
  mem := by simp
  obj := fun i h st b hb => by
    have e : b = it := by simpa using hb
    subst e
    obtain ⟨o, e, c, d⟩ := st
    exact ⟨o, e, fun v z => by rw [d] at z; cases z⟩
  keep := fun i h h' st k => st.at fun o e => k it (by simp) o e
  item := by
    intro X hP hw hK hc i pins s σ H E I hf st hg
    subst hP hw hK
    obtain ⟨xs, x, hq, hx⟩ := hg
    obtain ⟨its, rv, p, hz⟩ := I.list hq
    obtain ⟨u, hu, ru⟩ := rv.get hx
    obtain ⟨f0, f1, f2, f3, f4, f5⟩ := hf it (by simp)
    refine wpAny_pyNext_list_item st p.isList (x := u) (by simpa using hu) fun h' st' sb => ?_
    have I1 : Inv X pins σ H { s with heap := h' } := I.turned (t' := s.toks) (fun b o hb e => (sb.2 b hb).trans e) f0 f1 f3 f4 f5
    obtain ⟨o, e, c, d⟩ := id st'
    exact ⟨u, rfl, go_of (s := { s with heap := h' }) e c d (by decide) ⟨x, H, I1, ru, ⟨rfl, fun ys hy => by rw [I.list_inj hy hq]; exact hx⟩, st', fun b hb => (hf b hb).1⟩⟩
  done := by
    intro X hP hw hK hc i pins s σ H E I hf st hg
    subst hP hw hK
    obtain ⟨xs, hq, hx⟩ := hg
    obtain ⟨its, rv, p, hz⟩ := I.list hq
    obtain ⟨f0, f1, f2, f3, f4, f5⟩ := hf it (by simp)
    have hl := rv.length
    exact wpAny_pyNext_list_end (I.ok.hd hc) st p.isList (by simp; omega) fun h' eb => ⟨rfl, I.turned (t' := s.toks) (fun b o hb e => eb b o hb e) f0 f1 f3 f4 f5⟩
  self := fun _ _ _ _ _ st h => wpAny_pyIter_listiter st h
theorem turn_tuple {P : Program} {w : World} {K : PySem.W.Frag} {tg : Expr} (a it : Addr) : Turn P w K tg (Itt K a) [it] it (fun i h => h.IsTupleIter it a i) where
  mem := by simp
  obj := fun i h st b hb => by
    have e : b = it := by simpa using hb
    subst e
    obtain ⟨o, e, c, d⟩ := st
    exact ⟨o, e, fun v z => by rw [d] at z; cases z⟩
  keep := fun i h h' st k => st.at fun o e => k it (by simp) o e
  item := by
    intro X hP hw hK hc i pins s σ H E I hf st hg
    subst hP hw hK
    obtain ⟨xs, x, hq, hx⟩ := hg
    obtain ⟨its, rv, p, hz⟩ := I.tuple hq
    obtain ⟨u, hu, ru⟩ := rv.get hx
    obtain ⟨f0, f1, f2, f3, f4, f5⟩ := hf it (by simp)
    refine wpAny_pyNext_tuple_item st (show s.heap.IsTuple a its.toArray from p) (x := u) (by simpa using hu) fun h' st' sb => ?_
    have I1 : Inv X pins σ H { s with heap := h' } := I.turned (t' := s.toks) (fun b o hb e => (sb.2 b hb).trans e) f0 f1 f3 f4 f5
    obtain ⟨o, e, c, d⟩ := id st'
    exact ⟨u, rfl, go_of (s := { s with heap := h' }) e c d (by decide) ⟨x, H, I1, ru, ⟨rfl, fun ys hy => by rw [I.tuple_inj hy hq]; exact hx⟩, st', fun b hb => (hf b hb).1⟩⟩
  done := by
    intro X hP hw hK hc i pins s σ H E I hf st hg
    subst hP hw hK
    obtain ⟨xs, hq, hx⟩ := hg
    obtain ⟨its, rv, p, hz⟩ := I.tuple hq
    obtain ⟨f0, f1, f2, f3, f4, f5⟩ := hf it (by simp)
    have hl := rv.length
    exact wpAny_pyNext_tuple_end (I.ok.hd hc) st (show s.heap.IsTuple a its.toArray from p) (by simp; omega) fun h' eb => ⟨rfl, I.turned (t' := s.toks) (fun b o hb e => eb b o hb e) f0 f1 f3 f4 f5⟩
  self := fun _ _ _ _ _ st h => wpAny_pyIter_tupleiter st h
theorem turn_range {P : Program} {w : World} {K : PySem.W.Frag} {tg : Expr} (it : Addr) (lo : Int) (n : Nat) : Turn P w K tg (Itr lo n) [it] it (fun i h => IsRangeIter h it (lo + (i : Nat) * 1) ((n : Int) - (i : Nat)) 1) where
  mem := by simp
  obj := fun i h st b hb => by
    have e : b = it := by simpa using hb
    subst e
    exact ⟨_, st, fun v z => by
      have z' : Data.fields _ = Data.cell v := z
      cases z'⟩
  keep := fun i h h' st k => k it (by simp) _ st
  item := by
    intro X hP hw hK hc i pins s σ H E I hf st hg
    subst hP hw hK
    obtain ⟨f0, f1, f2, f3, f4, f5⟩ := hf it (by simp)
    have W := Walks.range (prog := X.prog) (w := X.w) (I.ok.hd hc) it lo 1 n
    refine W.item i s _ _ hg st fun v h' tk hv st' kk => ?_
    obtain ⟨t, rfl⟩ := hv
    have I1 : Inv X pins σ H { s with heap := h', toks := tk } := I.turned (fun b o hb e => kk b o (by simpa using hb) e) f0 f1 f3 f4 f5
    refine ⟨_, rfl, go_of (s := { s with heap := h', toks := tk }) (n := "range_iterator") st' rfl rfl (by decide) ⟨.int (lo + i), H, I1, ⟨t, ?_⟩, ⟨rfl, rfl⟩, st', fun b hb => (hf b hb).1⟩⟩
    rw [Int.mul_one]
  done := by
    intro X hP hw hK hc i pins s σ H E I hf st hg
    subst hP hw hK
    obtain ⟨f0, f1, f2, f3, f4, f5⟩ := hf it (by simp)
    exact wpAny_pyNext_range_end (I.ok.hd hc) st (by have : n ≤ i := hg; omega) fun h' eb => ⟨rfl, I.turned (t' := s.toks) (fun b o hb e => eb b o hb e) f0 f1 f3 f4 f5⟩
  self := fun _ _ _ _ _ st h => wpAny_pyIter_rangeiter st h
end L2
namespace L2
open PySem PySem.Spec PyProof.Rows
section
variable {X : Cx} {tg : Expr}
def iList (K : PySem.W.Frag) (tl : TE) : TI := fun σ H R => tl σ H fun x H1 => ∃ a, x = .ref a ∧ (∃ xs, SqL K H1 a xs) ∧ R (Itl K a) H1
def iTup (K : PySem.W.Frag) (tl : TE) : TI := fun σ H R => tl σ H fun x H1 => ∃ a, x = .ref a ∧ (∃ xs, SqT K H1 a xs) ∧ R (Itt K a) H1
theorem pi_list {l : Expr} {tl : TE} (hl : PE X l tl) : PI X tg l (iList X.K tl) := by
  intro pins s σ H R I h
  refine thn (hl pins s σ H _ I h) fun v s1 ⟨x, H1, I1, r1, q1⟩ => ?_
  obtain ⟨a, e, ⟨xs, hq⟩, q⟩ := q1
  subst e
  cases r1
  obtain ⟨its, rv, p, hz⟩ := I1.list hq
  refine wpAny_pyIter_list p.isList ?_
  refine ⟨s1.heap.objs.size, [s1.heap.objs.size], _, _, H1, rfl, I1.kept (t' := s1.toks) fun b o e => Heap.get?_push_of_some _ e, turn_list a _, ⟨_, Heap.get?_push_size _ rfl, rfl, rfl⟩, fun b hb => ?_, q⟩
  have e : b = s1.heap.objs.size := by simpa using hb
  subst e
  exact I1.fpOk (Nat.le_refl _) (I1.hok.fresh (Nat.le_refl _))
theorem pi_tup {l : Expr} {tl : TE} (hl : PE X l tl) : PI X tg l (iTup X.K tl) := by
  intro pins s σ H R I h
  refine thn (hl pins s σ H _ I h) fun v s1 ⟨x, H1, I1, r1, q1⟩ => ?_
  obtain ⟨a, e, ⟨xs, hq⟩, q⟩ := q1
  subst e
  cases r1
  obtain ⟨its, rv, p, hz⟩ := I1.tuple hq
  refine wpAny_pyIter_tuple (show s1.heap.IsTuple a its.toArray from p) ?_
  refine ⟨s1.heap.objs.size, [s1.heap.objs.size], _, _, H1, rfl, I1.kept (t' := s1.toks) fun b o e => Heap.get?_push_of_some _ e, turn_tuple a _, ⟨_, Heap.get?_push_size _ rfl, rfl, rfl⟩, fun b hb => ?_, q⟩
  have e : b = s1.heap.objs.size := by simpa using hb
  subst e
  exact I1.fpOk (Nat.le_refl _) (I1.hok.fresh (Nat.le_refl _))
theorem range_it {pins : List (Addr × Obj)} {σ : St} {H : Hp} {s : Shared} {R : It → Hp → Prop} {E : Value → Shared → Prop} {lo hi : Int} {t u v : Tok} {tk : Nat} (I : Inv X pins σ H s) (h1 : -(2 ^ 62) ≤ lo) (h2 : lo < 2 ^ 62) (h3 : -(2 ^ 62) ≤ hi) (h4 : hi < 2 ^ 62)
    (q : R (Itr lo (hi - lo).toNat) H) : wpAny (model X.prog X.w) X.A (pyIter (.ref s.heap.objs.size)) (PIE X pins σ tg R) E { s with heap := s.heap.push { cls := .type "range", data := .fields #[.int lo t, .int hi u, .int 1 v] }, toks := tk } := by
  refine wpAny_pyIter_range (IsRange.new ..) (small_one h1 h2 h3 h4) ?_
  have I1 : Inv X pins σ H { s with heap := s.heap.push { cls := .type "range", data := .fields #[.int lo t, .int hi u, .int 1 v] }, toks := tk } := I.kept fun b o e => Heap.get?_push_of_some _ e
  refine ⟨(s.heap.push { cls := .type "range", data := .fields #[.int lo t, .int hi u, .int 1 v] }).objs.size, [(s.heap.push { cls := .type "range", data := .fields #[.int lo t, .int hi u, .int 1 v] }).objs.size], _, _, H, rfl,
    I1.kept (t' := tk) fun b o e => Heap.get?_push_of_some _ e, turn_range _ lo (hi - lo).toNat, ?_, fun b hb => ?_, q⟩
  · have e1 : lo + ((0 : Nat) : Int) * 1 = lo := by simp
    have e2 : (((hi - lo).toNat : Nat) : Int) - ((0 : Nat) : Int) = Builtin.Range.rangeSize lo hi 1 := by rw [rangeSize_one]; split <;> omega
    show IsRangeIter _ _ (lo + ((0 : Nat) : Int) * 1) ((((hi - lo).toNat : Nat) : Int) - ((0 : Nat) : Int)) 1
    rw [e1, e2]
    exact Heap.get?_push_size _ rfl
  · have e : b = (s.heap.push { cls := .type "range", data := .fields #[.int lo t, .int hi u, .int 1 v] }).objs.size := by simpa using hb
    subst e
    exact I1.fpOk (Nat.le_refl _) (I1.hok.fresh (Nat.le_refl _))
def iRng1 (ta : TA) : TI := fun σ H R => ta σ H fun vs H1 => ∃ j : Int, vs = [.int j] ∧ -(2 ^ 62) ≤ j ∧ j < 2 ^ 62 ∧ R (Itr 0 j.toNat) H1
theorem pi_range1 {a : Expr} {ta : TA} {p pos : Pos} (hg : Gl X "range") (hm : X.mg "range" = none) (ha : PA X [a] ta) (hs : starEach [a] X.env = [(false, eval a X.env)] := by rfl) : PI X tg (.Call (.Name "range" p) [a] [] pos) (iRng1 ta) := by
  intro pins s σ H R I h
  refine Call_ (ld_blt I hg hm boot_range (PyProof.Rows.callWith_type1 (thn (ha pos pins s σ H _ I h) fun us s1 ⟨vs, H1, I1, r1, q1⟩ => ?_) hs rfl))
  obtain ⟨j, e, q1, q2, q⟩ := q1
  subst e
  cases r1 with
  | cons r rr =>
    cases rr
    obtain ⟨t, rfl⟩ := r
    exact call_range_1 (range_it I1 (by omega) (by omega) q1 q2 (by simpa using q))
def tFor (wi : TI) (g : TG) (tb : TS) : TS := fun D σ H => wi σ H fun J H1 => ∃ W : Nat → Nat → St → Hp → Prop, (∃ m, W 0 m σ H1) ∧ ∀ i m σ H, W i m σ H →
  (J.stop i H ∧ D.nx σ H) ∨ (J.go i H ∧ ∃ N : St → Hp → Prop, (∀ σ' H', N σ' H' → ∃ m', m' < m ∧ W (i + 1) m' σ' H') ∧ ∀ x H', J.yld i H x H' → g x σ H' fun σ2 H2 => tb { D with nx := N, ct := N, bk := D.nx } σ2 H2)
def pinsAt (fp : List Addr) (h : Heap) : List (Addr × Obj) := fp.filterMap fun b => (h.get? b).map fun o => (b, o)
theorem mem_pinsAt {fp : List Addr} {h : Heap} {b : Addr} {o : Obj} (hb : b ∈ fp) (e : h.get? b = some o) : (b, o) ∈ pinsAt fp h := List.mem_filterMap.mpr ⟨b, hb, by rw [e]; rfl⟩
theorem of_pinsAt {fp : List Addr} {h : Heap} {p : Addr × Obj} (hp : p ∈ pinsAt fp h) : p.1 ∈ fp ∧ h.get? p.1 = some p.2 := by
  obtain ⟨b, hb, e⟩ := List.mem_filterMap.mp hp
  cases q : h.get? b with
  | none => rw [q] at e; cases e
  | some o =>
    rw [q] at e
    have e' : (b, o) = p := Option.some.inj e
    subst e'
    exact ⟨hb, q⟩
theorem Inv.pinned {pins : List (Addr × Obj)} {σ : St} {H : Hp} {s : Shared} {fp : List Addr} (I : Inv X pins σ H s) (hf : ∀ b ∈ fp, FpOk X pins H b) (ho : ∀ b ∈ fp, ∃ o, s.heap.get? b = some o ∧ ∀ v, o.data ≠ .cell v) : Inv X (pins ++ pinsAt fp s.heap) σ H s :=
  I.pins_of fun p hp => (List.mem_append.mp hp).elim (fun z => I.pin p (List.mem_append_right _ z)) fun z => by
    obtain ⟨hb, e⟩ := of_pinsAt z
    obtain ⟨f0, f1, f2, _⟩ := hf p.1 hb
    obtain ⟨o, e', d⟩ := ho p.1 hb
    rw [e] at e'; cases e'
    exact ⟨e, f0, f1, f2, d⟩
theorem Inv.unpinned {pins pl : List (Addr × Obj)} {σ : St} {H : Hp} {s : Shared} (I : Inv X (pins ++ pl) σ H s) : Inv X pins σ H s := I.pins_of fun p hp => I.pin p (List.mem_append_right _ (List.mem_append_left _ hp))
theorem ps_for {iter : Expr} {body : List Stmt} {wi : TI} {g : TG} {tb : TS} {pos : Pos} (hp : PassesOwn (model X.prog X.w) X.A X.env X.xe) (hc : X.calm = true) (hi : PI X tg iter wi) (hg : PG X tg g) (hb : PSs X body tb)
    (hs : ∀ x, foldedSetIterable iter X.env x = pure x := by intro _; rfl) : PS X (.For tg iter body [] pos) (tFor wi g tb) := by
  intro pins s σ H D I h
  refine wpAny_For (thn (hi pins s σ H _ I h) fun v s1 h1 => thn h1 fun itv s2 h2 => ?_) hs
  obtain ⟨it, fp, tn, J, H2, e, I2, T, st2, f2, W, ⟨m0, w0⟩, turn⟩ := h2
  subst e
  -- what stays true of the iterator's objects through the loop
  have stat : ∀ {H' : Hp}, (∀ b ∈ fp, H' b = none) → ∀ b ∈ fp, FpOk X pins H' b := fun hn b hb => ⟨hn b hb, (f2 b hb).2⟩
  refine codeAny_forLoop_any (fun n s' => ∃ i σ' H', Inv X pins σ' H' s' ∧ tn i s'.heap ∧ (∀ b ∈ fp, H' b = none) ∧ W i n σ' H') ?_ m0 ⟨0, σ, H2, I2, st2, fun b hb => (f2 b hb).1, w0⟩
  rintro n s3 ⟨i, σ3, H3, I3, st3, fr3, w3⟩
  rcases turn i n σ3 H3 w3 with ⟨stop, qn⟩ | ⟨go, N, hN, step⟩
  · refine wpAny_passesOwn hp (thn (T.done X rfl rfl rfl hc i pins s3 σ3 H3 X.xe I3 (stat fr3) st3 stop) fun r s4 ⟨hr, I4⟩ => ?_)
    subst hr
    exact wpAny_execs_nil ⟨σ3, H3, I4, qn⟩
  · refine wpAny_passesOwn hp (thn (T.item X rfl rfl rfl hc i pins s3 σ3 H3 X.xe I3 (stat fr3) st3 go) fun r s4 ⟨u, hr, h4⟩ => ?_)
    subst hr
    refine wpAny_passesOwn hp (thn h4 fun _ s5 ⟨x, H5, I5, r5, y5, st5, fr5⟩ => ?_)
    have I5' := I5.pinned (stat fr5) (T.obj _ _ st5)
    refine wpAny_passesOwn hp (thn (hg _ s5 σ3 H5 x u _ I5' r5 (step x H5 y5)) fun _ s6 ⟨σ6, H6, I6, q6⟩ => ?_)
    refine wpAny_passesOwn hp (thn (hb _ s6 σ6 H6 _ I6 q6) fun f s7 q7 => ?_)
    have again : ∀ {σ7 : St} {H7 : Hp}, Inv X (pins ++ pinsAt fp s5.heap) σ7 H7 s7 → N σ7 H7 → ∃ m, m < n ∧ ∃ i σ' H', Inv X pins σ' H' s7 ∧ tn i s7.heap ∧ (∀ b ∈ fp, H' b = none) ∧ W i m σ' H' := fun {σ7 H7} I7 n7 => by
      obtain ⟨m', hm, w7⟩ := hN σ7 H7 n7
      refine ⟨m', hm, i + 1, σ7, H7, I7.unpinned, T.keep _ _ _ st5 fun b hb o e => (I7.pin (b, o) (List.mem_append_right _ (List.mem_append_right _ (mem_pinsAt hb e)))).1, fun b hb => ?_, w7⟩
      obtain ⟨o, e, d⟩ := T.obj _ _ st5 b hb
      exact (I7.pin (b, o) (List.mem_append_right _ (List.mem_append_right _ (mem_pinsAt hb e)))).2.1
    cases f with
    | next => obtain ⟨σ7, H7, I7, n7⟩ := q7; exact again I7 n7
    | cont => obtain ⟨σ7, H7, I7, n7⟩ := q7; exact again I7 n7
    | brk => obtain ⟨σ7, H7, I7, q7⟩ := q7; exact ⟨σ7, H7, I7.unpinned, q7⟩
    | ret v => obtain ⟨x7, σ7, H7, I7, r7, q7⟩ := q7; exact ⟨x7, σ7, H7, I7.unpinned, r7, q7⟩
end
end L2
namespace L2
open PySem PySem.Spec PyProof.Rows
abbrev R2 := V → V → Hp → VK → Prop
def OpR (X : Cx) (f : Value → Value → Sem Value) (r : R2) : Prop :=
  ∀ (pins : List (Addr × Obj)) (s : Shared) (σ : St) (H : Hp) (x y : V) (v u : Value) (Q : VK), Inv X pins σ H s → RelV x v → RelV y u → r x y H Q →
    wpAny (model X.prog X.w) X.A (f v u) (EP X pins σ Q) X.xe s
def UnR (X : Cx) (f : Value → Sem Value) (r : V → Hp → VK → Prop) : Prop :=
  ∀ (pins : List (Addr × Obj)) (s : Shared) (σ : St) (H : Hp) (x : V) (v : Value) (Q : VK), Inv X pins σ H s → RelV x v → r x H Q →
    wpAny (model X.prog X.w) X.A (f v) (EP X pins σ Q) X.xe s
def CallR (X : Cx) (f : Value) (r : List V → Hp → VK → Prop) : Prop :=
  ∀ (pins : List (Addr × Obj)) (s : Shared) (σ : St) (H : Hp) (xs : List V) (us : List Value) (Q : VK), Inv X pins σ H s → Vals xs us → r xs H Q →
    wpAny (model X.prog X.w) X.A (call f us) (EP X pins σ Q) X.xe s
def TruR (X : Cx) (r : V → Hp → (Bool → Hp → Prop) → Prop) : Prop :=
  ∀ (pins : List (Addr × Obj)) (s : Shared) (σ : St) (H : Hp) (x : V) (v : Value) (Q : Bool → Hp → Prop), Inv X pins σ H s → RelV x v → r x H Q →
    wpAny (model X.prog X.w) X.A (truthy v) (TP X pins σ Q) X.xe s
def tOp (r : R2) (ta tb : TE) : TE := fun σ H Q => ta σ H fun x H1 => tb σ H1 fun y H2 => r x y H2 Q
def tUn (r : V → Hp → VK → Prop) (ta : TE) : TE := fun σ H Q => ta σ H fun x H1 => r x H1 Q
def rI (C : Int → Int → Prop) (g : Int → Int → V) : R2 := fun x y H Q => ∃ i j, x = .int i ∧ y = .int j ∧ C i j ∧ Q (g i j) H
def rI0 (g : Int → Int → V) : R2 := fun x y H Q => ∃ i j, x = .int i ∧ y = .int j ∧ Q (g i j) H
def rU (g : Int → V) : V → Hp → VK → Prop := fun x H Q => ∃ i, x = .int i ∧ Q (g i) H
section
variable {X : Cx} {a b c : Expr} {ta tb tc : TE} {pos : Pos}
theorem binT (ha : PE X a ta) (hb : PE X b tb) {pins : List (Addr × Obj)} {s : Shared} {σ : St} {H : Hp} {R : V → V → Hp → Prop} (I : Inv X pins σ H s)
    (h : ta σ H fun x H1 => tb σ H1 fun y H2 => R x y H2) {Q : Value → Shared → Prop} {f : Value → Value → Sem Value}
    (hf : ∀ v u s2 x y H2, Inv X pins σ H2 s2 → RelV x v → RelV y u → R x y H2 → wpAny (model X.prog X.w) X.A (f v u) Q X.xe s2) :
    wpAny (model X.prog X.w) X.A (eval a X.env) (fun v s₁ => wpAny (model X.prog X.w) X.A (eval b X.env) (fun u s₂ => wpAny (model X.prog X.w) X.A (f v u) Q X.xe s₂) X.xe s₁) X.xe s := by
  refine thn (ha pins s σ H _ I h) fun v s1 ⟨x, H1, I1, r1, q1⟩ => ?_
  refine thn (hb pins s1 σ H1 _ I1 q1) fun u s2 ⟨y, H2, I2, r2, q2⟩ => ?_
  exact hf v u s2 x y H2 I2 r1 r2 q2
theorem pe_op {op : Operator} {r : R2} (ho : OpR X (binaryOp op) r) (ha : PE X a ta) (hb : PE X b tb) : PE X (.BinOp a op b pos) (tOp r ta tb) := by
  intro pins s σ H Q I h
  exact wpAny_BinOp (binT ha hb I h fun v u s2 x y H2 I2 rx ry q => ho pins s2 σ H2 x y v u Q I2 rx ry q)
theorem pe_un {op : UnaryOp} {r : V → Hp → VK → Prop} (ho : UnR X (unaryOp op) r) (ha : PE X a ta) : PE X (.UnaryOp op a pos) (tUn r ta) := by
  intro pins s σ H Q I h
  exact UnaryOp_ (thn (ha pins s σ H _ I h) fun v s1 ⟨x, H1, I1, r1, q1⟩ => ho pins s1 σ H1 x v Q I1 r1 q1)
theorem opI {f : Value → Value → Sem Value} {C : Int → Int → Prop} {g : Int → Int → Int}
    (rule : ∀ (i j : Int) (t u : Tok) (s : Shared) (Q : Value → Shared → Prop) (E : Value → Shared → Prop), C i j → Q (.int (g i j) s.toks) { s with toks := s.toks + 1 } → wpAny (model X.prog X.w) X.A (f (.int i t) (.int j u)) Q E s) :
    OpR X f (rI C fun i j => .int (g i j)) := by
  intro pins s σ H x y v u Q I rx ry h
  obtain ⟨i, j, rfl, rfl, hc, q⟩ := h
  obtain ⟨t, rfl⟩ := rx
  obtain ⟨t', rfl⟩ := ry
  exact rule i j t t' s _ _ hc ⟨.int (g i j), H, I.tok _, ⟨_, rfl⟩, q⟩
theorem opI0 {f : Value → Value → Sem Value} {g : Int → Int → Int}
    (rule : ∀ (i j : Int) (t u : Tok) (s : Shared) (Q : Value → Shared → Prop) (E : Value → Shared → Prop), Q (.int (g i j) s.toks) { s with toks := s.toks + 1 } → wpAny (model X.prog X.w) X.A (f (.int i t) (.int j u)) Q E s) :
    OpR X f (rI0 fun i j => .int (g i j)) := by
  intro pins s σ H x y v u Q I rx ry h
  obtain ⟨i, j, rfl, rfl, q⟩ := h
  obtain ⟨t, rfl⟩ := rx
  obtain ⟨t', rfl⟩ := ry
  exact rule i j t t' s _ _ ⟨.int (g i j), H, I.tok _, ⟨_, rfl⟩, q⟩
theorem opB0 {f : Value → Value → Sem Value} {g : Int → Int → Bool}
    (rule : ∀ (i j : Int) (t u : Tok) (s : Shared) (Q : Value → Shared → Prop) (E : Value → Shared → Prop), Q (.bool (g i j)) s → wpAny (model X.prog X.w) X.A (f (.int i t) (.int j u)) Q E s) :
    OpR X f (rI0 fun i j => .bl (g i j)) := by
  intro pins s σ H x y v u Q I rx ry h
  obtain ⟨i, j, rfl, rfl, q⟩ := h
  obtain ⟨t, rfl⟩ := rx
  obtain ⟨t', rfl⟩ := ry
  exact rule i j t t' s _ _ ⟨.bl (g i j), H, I, rfl, q⟩
def CMul (i j : Int) : Prop := (-(2 ^ 64) < i ∧ i < 2 ^ 64) ∨ (-(2 ^ 64) < j ∧ j < 2 ^ 64)
theorem CMul.ok {i j : Int} (h : CMul i j) : IntMulOk i j := by
  rcases h with ⟨h1, h2⟩ | ⟨h1, h2⟩
  · exact .of_left (intBits_le_64 h1 h2)
  · exact .of_right (intBits_le_64 h1 h2)
theorem op_add : OpR X (binaryOp .Add) (rI0 fun i j => .int (i + j)) := opI0 fun _ _ _ _ _ _ _ q => add_int q
theorem op_sub : OpR X (binaryOp .Sub) (rI0 fun i j => .int (i - j)) := opI0 fun _ _ _ _ _ _ _ q => sub_int q
theorem op_mul : OpR X (binaryOp .Mult) (rI CMul fun i j => .int (i * j)) := opI fun _ _ _ _ _ _ _ hc q => mul_int q hc.ok
theorem op_modN : OpR X (binaryOp .Mod) (rI (fun _ j => j ≠ 0) fun i j => .int (i.fmod j)) := opI fun _ _ _ _ _ _ _ hc q => mod_int' hc q
theorem unI {f : Value → Sem Value} {g : Int → Int}
    (rule : ∀ (i : Int) (t : Tok) (s : Shared) (Q : Value → Shared → Prop) (E : Value → Shared → Prop), Q (.int (g i) s.toks) { s with toks := s.toks + 1 } → wpAny (model X.prog X.w) X.A (f (.int i t)) Q E s) :
    UnR X f (rU fun i => .int (g i)) := by
  intro pins s σ H x v Q I rx h
  obtain ⟨i, rfl, q⟩ := h
  obtain ⟨t, rfl⟩ := rx
  exact rule i t s _ _ ⟨.int (g i), H, I.tok _, ⟨_, rfl⟩, q⟩
theorem un_neg : UnR X (unaryOp .USub) (rU fun i => .int (-i)) := unI fun _ _ _ _ _ q => neg_int q
end
section
variable {X : Cx} {a b c : Expr} {ta tb tc : TE} {pos : Pos}
theorem fin_bl {pins : List (Addr × Obj)} {σ : St} {H : Hp} {s : Shared} {Q : VK} {k k' : Bool} (I : Inv X pins σ H s) (q : Q (.bl k) H) (e : k = k') : EP X pins σ Q (.bool k') s := by
  subst e
  exact ⟨.bl k, H, I, rfl, q⟩
theorem op_lt : OpR X (compareOp .Lt) (rI0 fun i j => .bl (decide (i < j))) := opB0 fun _ _ _ _ _ _ _ q => lt_int q
theorem op_gt : OpR X (compareOp .Gt) (rI0 fun i j => .bl (decide (j < i))) := opB0 fun _ _ _ _ _ _ _ q => gt_int q
theorem op_isN : OpR X (compareOp .Is) (fun x y H Q => y = .non ∧ Q (.bl (decide (x = .non))) H) := by
  intro pins s σ H x y v u Q I rx ry h
  obtain ⟨rfl, q⟩ := h
  cases ry
  refine is_none_gen (fin_bl I q ?_)
  cases x <;> first
    | (cases rx; rfl)
    | (obtain ⟨t, rfl⟩ := rx; rfl)
theorem op_notN : OpR X (compareOp .IsNot) (fun x y H Q => y = .non ∧ Q (.bl (!decide (x = .non))) H) := by
  intro pins s σ H x y v u Q I rx ry h
  obtain ⟨rfl, q⟩ := h
  cases ry
  refine isnot_none_gen (fin_bl I q ?_)
  cases x <;> first
    | (cases rx; rfl)
    | (obtain ⟨t, rfl⟩ := rx; rfl)
theorem OpR.or {f : Value → Value → Sem Value} {r r' : R2} (h : OpR X f r) (h' : OpR X f r') : OpR X f (fun x y H Q => r x y H Q ∨ r' x y H Q) := by
  intro pins s σ H x y v u Q I rx ry q
  rcases q with q | q
  · exact h pins s σ H x y v u Q I rx ry q
  · exact h' pins s σ H x y v u Q I rx ry q
theorem nomark (b : Expr) {op : CmpOp} (h : op ≠ .In := by decide) (h2 : op ≠ .NotIn := by decide) : behindInMarks op b = false := by
  have e1 : (op == CmpOp.In) = false := by cases op <;> first | rfl | exact absurd rfl h
  have e2 : (op == CmpOp.NotIn) = false := by cases op <;> first | rfl | exact absurd rfl h2
  cases b <;> simp [behindInMarks, e1, e2]
theorem pe_cmpR {op : CmpOp} {r : R2} (ho : OpR X (compareOp op) r) (ha : PE X a ta) (hb : PE X b tb) (hm : behindInMarks op b = false) : PE X (.Compare a [op] [b] pos) (tOp r ta tb) := by
  intro pins s σ H Q I h
  exact wpAny_Compare1 (binT ha hb I h fun v u s2 x y H2 I2 rx ry q => ho pins s2 σ H2 x y v u Q I2 rx ry q) hm
def tTest (t : TE) : TT := fun σ H Q => t σ H fun x H' => ∃ k, x = .bl k ∧ Q k H'
theorem pt_cmpR {op : CmpOp} {r : R2} (ho : OpR X (compareOp op) r) (ha : PE X a ta) (hb : PE X b tb) (hm : behindInMarks op b = false) : PT X (.Compare a [op] [b] pos) (tTest (tOp r ta tb)) := by
  intro pins s σ H Q I h
  refine wpAny_isTrue_Compare1 (thn (ha pins s σ H _ I h) fun v s1 ⟨x, H1, I1, r1, q1⟩ => thn (hb pins s1 σ H1 _ I1 q1) fun u s2 ⟨y, H2, I2, r2, q2⟩ =>
    thn (ho pins s2 σ H2 x y v u _ I2 r1 r2 q2) fun c s3 ⟨z, H3, I3, r3, k, e, q3⟩ => ?_) hm
  subst e
  cases r3
  exact wpAny_truthy_bool ⟨H3, I3, q3⟩
def TruV (K : PySem.W.Frag) (x : V) (H : Hp) (k : Bool) : Prop :=
  match x with
  | .non => k = false
  | .bl b => k = b
  | .int i => k = (i != 0)
  | .str y => y.length ≤ sizeLine ∧ k = ((y.length : Int) != 0)
  | .byt y => y.size ≤ sizeLine ∧ k = ((y.size : Int) != 0)
  | .ref p => (∃ xs, SqL K H p xs ∧ k = !xs.isEmpty) ∨ (∃ xs, SqT K H p xs ∧ k = !xs.isEmpty) ∨ ∃ kvs, H p = some (.dK kvs) ∧ k = !kvs.isEmpty
  | _ => False
theorem isEmpty_kv {κ : Type} {kvs : List (κ × V)} {vs : List (κ × Value)} (r : KV kvs vs) : (!vs.isEmpty) = !kvs.isEmpty := by
  cases r <;> rfl
theorem isEmpty_of {xs : List V} {its : List Value} (r : Vals xs its) : (!its.toArray.isEmpty) = !xs.isEmpty := by
  cases r <;> simp
theorem line63 : (sizeLine : Nat) < 2 ^ 63 := by rw [sizeLine_eq]; decide
theorem tru_ok : TruR X (fun x H Q => ∃ k, TruV X.K x H k ∧ Q k H) := by
  intro pins s σ H x v Q I rx h
  obtain ⟨k, e, q⟩ := h
  have hl := line63
  have hs : sizeLine = 16777216 := sizeLine_eq
  cases x with
  | non =>
    cases rx
    have e' : k = false := e
    subst e'
    exact truthy_none ⟨H, I, q⟩
  | bl b =>
    cases rx
    have e' : k = b := e
    subst e'
    exact wpAny_truthy_bool ⟨H, I, q⟩
  | int i =>
    obtain ⟨t, rfl⟩ := rx
    have e' : k = (i != 0) := e
    subst e'
    exact PySem.P.truthy_int ⟨H, I, q⟩
  | str y =>
    obtain ⟨t, rfl⟩ := rx
    obtain ⟨hy, e'⟩ : y.length ≤ sizeLine ∧ k = ((y.length : Int) != 0) := e
    subst e'
    exact PySem.P.truthy_str (by omega) ⟨H, I.tok _, q⟩
  | byt y =>
    obtain ⟨t, rfl⟩ := rx
    obtain ⟨hy, e'⟩ : y.size ≤ sizeLine ∧ k = ((y.size : Int) != 0) := e
    subst e'
    exact PySem.W.truthy_bytes (by omega) ⟨H, I.tok _, q⟩
  | ref p =>
    cases rx
    have e' : (∃ xs, SqL X.K H p xs ∧ k = !xs.isEmpty) ∨ (∃ xs, SqT X.K H p xs ∧ k = !xs.isEmpty) ∨ ∃ kvs, H p = some (.dK kvs) ∧ k = !kvs.isEmpty := e
    rcases e' with ⟨xs, hx, e'⟩ | ⟨xs, hx, e'⟩ | ⟨kvs, hx, e'⟩
    · subst e'
      obtain ⟨its, r, pl, hz⟩ := I.list hx
      have hlen := r.length
      exact wpAny_truthy_list pl.isList (by simp only [List.size_toArray]; omega) ⟨H, I.tok _, by rw [isEmpty_of r]; exact q⟩
    · subst e'
      obtain ⟨its, r, pl, hz⟩ := I.tuple hx
      have hlen := r.length
      exact truthy_tuple pl (by simp only [List.size_toArray]; omega) ⟨H, I.tok _, by rw [isEmpty_of r]; exact q⟩
    · subst e'
      obtain ⟨hz, hS, vs, r, m⟩ : kvs.length ≤ sizeLine ∧ (p == sysModules) = false ∧ ∃ vs, KV kvs vs ∧ s.heap.DictOf (mixKind X.prog X.w) p vs := I.hok p _ hx
      have hlen : kvs.length = vs.length := Paired.length r
      exact wpAny_truthy_dict hS m (by omega) ⟨H, I.tok _, by rw [isEmpty_kv r]; exact q⟩
  | _ => exact (show False from e).elim
theorem pt_truth (ha : PE X a ta) (he : ∀ whole, isTrue a X.env whole = (do let v ← whole; standAt a.pos; holding [v] (truthy v))) :
    PT X a (fun σ H Q => ta σ H fun x H' => ∃ k, TruV X.K x H' k ∧ Q k H') := by
  intro pins s σ H Q I h
  exact isTrue_plain (thn (ha pins s σ H _ I h) fun v s1 ⟨x, H1, I1, r1, q1⟩ => tru_ok pins s1 σ H1 x v Q I1 r1 q1) (he _)
theorem op_add_str : OpR X (binaryOp .Add) (fun x y H Q => ∃ i j, x = .str i ∧ y = .str j ∧ i.length + j.length ≤ sizeLine ∧ Q (.str (i ++ j)) H) := by
  intro pins s σ H x y v u Q I rx ry h
  obtain ⟨i, j, rfl, rfl, hz, q⟩ := h
  obtain ⟨t, rfl⟩ := rx
  obtain ⟨t', rfl⟩ := ry
  exact add_str (fun t' tk => ⟨.str (i ++ j), H, I.tok _, ⟨_, rfl⟩, q⟩) hz
theorem vals1 {x : V} {us : List Value} (r : Vals [x] us) : ∃ u, us = [u] ∧ RelV x u := by
  cases r with
  | cons r1 r2 => cases r2; exact ⟨_, rfl, r1⟩
theorem call_int1 : CallR X (.type "int") (fun xs H Q => (∃ i, xs = [.int i] ∧ Q (.int i) H) ∨ ∃ k, xs = [.bl k] ∧ Q (.int (if k then 1 else 0)) H) := by
  intro pins s σ H xs us Q I r h
  rcases h with ⟨i, rfl, q⟩ | ⟨k, rfl, q⟩
  · obtain ⟨u, rfl, t, rfl⟩ := vals1 r
    exact call_int_int ⟨.int i, H, I, ⟨_, rfl⟩, q⟩
  · obtain ⟨u, rfl, r1⟩ := vals1 r
    cases r1
    exact call_int_bool ⟨.int (if k then 1 else 0), H, I.tok _, ⟨_, rfl⟩, q⟩
end
end L2
namespace L2
open PySem PySem.Spec PyProof.Rows
structure ObjM (h : Heap) (x dx C : Addr) (mA : Str → Option Value) : Prop where
  obj : h.get? x = some (PySem.W.instObj C dx)
  ns : h.Ns1 dx mA
  ne : dx ≠ x
section
variable {prog : Program} {w : World} {A : Around} {E : Value → Shared → Prop} {s : Shared} {K : PySem.W.Frag} {x dx C f : Addr} {mA : Str → Option Value} {name : Str} {v : Value}
end
theorem RelO.some_of {v : V} {o : Option Value} (r : RelO (some v) o) : ∃ u, o = some u ∧ RelV v u := by
  cases o with
  | none => exact (show False from r).elim
  | some u => exact ⟨u, rfl, r⟩
section
variable {P : Program} {w : World} {H H' : Hp} {h h' : Heap} {a C dx : Addr} {fs fs' : List (Str × V)}
end
structure Cls (K : PySem.W.Frag) (C : Addr) : Prop where
  pg : PySem.W.plainGet K C Str.empty = true
  hd : PySem.W.hasDictIn K C = true
  po : PySem.W.plainOver K C = true
  sa : PySem.W.findIn K (.ref C) "__setattr__" = some (some (.builtin "object.__setattr__"))
theorem Cls.get {K : PySem.W.Frag} {C : Addr} (c : Cls K C) (f : Str) : PySem.W.plainGet K C f = true := c.pg
structure Con (K : PySem.W.Frag) (C : Addr) (f : Str) (v : V) (u : Value) : Prop where
  at_ : PySem.W.findIn K (.ref C) f = some (some u)
  rel : RelV v u
  get : PySem.W.specialIn K u "__get__" = some none
  cp : PySem.W.copiedNames.contains f = false
structure Meth (K : PySem.W.Frag) (C : Addr) (m : Str) (f : Addr) : Prop where
  at_ : PySem.W.findIn K (.ref C) m = some (some (.ref f))
  fn : PySem.W.isFn K (.ref f) = true
  kp : PySem.W.keepIn K (.ref f) = true
section
variable {X : Cx} {pins : List (Addr × Obj)} {σ : St} {H : Hp} {s : Shared} {a C dx : Addr} {fs : List (Str × V)} {f : Str} {v : V} {A : Around} {E : Value → Shared → Prop}
end
section
variable {X : Cx} {o e value : Expr} {f : Str} {pos pos' tpos : Pos} {ta tv : TE}
end
section
variable {X : Cx} {pins : List (Addr × Obj)} {σ : St} {H : Hp} {s : Shared} {A : Around} {E : Value → Shared → Prop} {Q : Value → Shared → Prop} {c : Value} {b : Bool}
inductive TyOf (K : PySem.W.Frag) (H : Hp) : V → Value → Prop where
  | non : TyOf K H .non (.type "NoneType")
  | bl (x : Bool) : TyOf K H (.bl x) (.type "bool")
  | int (i : Int) : TyOf K H (.int i) (.type "int")
  | str (x : Str) : TyOf K H (.str x) (.type "str")
  | flt (x : UInt64) : TyOf K H (.flt x) (.type "float")
  | lst {a : Addr} {xs : List V} (e : H a = some (.lst xs)) : TyOf K H (.ref a) (.type "list")
  | frz {a : Addr} {o : Obj} {xs : List V} (e : H a = some (.frz o (.lst xs))) : TyOf K H (.ref a) (.type "list")
  | tup {a : Addr} {xs : List V} (e : H a = some (.tup xs)) : TyOf K H (.ref a) (.type "tuple")
  | dK {a : Addr} {kvs : List (Key × V)} (e : H a = some (.dK kvs)) : TyOf K H (.ref a) (.type "dict")
  | dT {a : Addr} {kvs : List (List Key × V)} (e : H a = some (.dT kvs)) : TyOf K H (.ref a) (.type "dict")
  | ins {a C dx : Addr} {fs : List (Str × V)} (e : H a = some (.ins C dx fs)) (cl : Cls K C) (ha : PySem.W.findIn K (.ref C) "__class__" = some (some (.builtin "object.__class__")))
      (hn : PySem.W.specialIn K (.builtin "object.__class__") "__get__" = some (some (.builtin "getset_descriptor.__get__"))) (htk : PySem.W.takesIn K (.builtin "object.__class__") = some true)
      (hm : PySem.W.mroIn K C (.type "object") = some true) : TyOf K H (.ref a) (.ref C)
end
end L2
namespace L2
open PySem PySem.Spec PyProof.Rows
structure Room (k : Nat) (A : Around) : Prop where
  hd : A.handled = none
  dp : A.depth + 3 * k + 5 < recursionLimit
  un : A.units + 16 * k + 200 < cLine
theorem Room.mono {j k : Nat} {A : Around} (r : Room k A) (h : j ≤ k) : Room j A := ⟨r.hd, by have := r.dp; omega, by have := r.un; omega⟩
theorem Room.deeper {k : Nat} {A : Around} (r : Room (k + 1) A) (env : Env) : Room k (A.deeper env) :=
  ⟨r.hd, by have := r.dp; show A.depth + 1 + 3 * k + 5 < _; omega, by have := r.un; show A.units + 3 + 16 * k + 200 < _; omega⟩
theorem Room.in1 {k : Nat} {A : Around} (r : Room (k + 1) A) : Room k A.in1 :=
  ⟨r.hd, by have := r.dp; show A.depth + 3 * k + 5 < _; omega, by have := r.un; show A.units + 1 + 16 * k + 200 < _; omega⟩
theorem Room.depth {k : Nat} {A : Around} (r : Room k A) : A.depth < recursionLimit := by have := r.dp; omega
theorem Room.units {k : Nat} {A : Around} (r : Room k A) : A.units + 64 < cLine := by have := r.un; omega
def tNil : TA := fun _ H Q => Q [] H
def tCons (ta : TE) (tr : TA) : TA := fun σ H Q => ta σ H fun x H1 => tr σ H1 fun xs H2 => Q (x :: xs) H2
section
variable {X : Cx} {e : Expr} {es : List Expr} {te : TE} {t : TA} {pos : Pos}
theorem pa_nil : PA X [] tNil := fun _ _ _ _ H Q I h => Calls.spliced_nil ⟨[], H, I, .nil, h⟩
theorem pa_cons (ha : PE X e te) (hr : PA X es t) (hs : starEach (e :: es) X.env = (false, eval e X.env) :: starEach es X.env := by rfl) : PA X (e :: es) (tCons te t) := by
  intro pos pins s σ H Q I h
  rw [hs]
  show wpAny _ _ (spliced ((false, eval e X.env) :: backTo pos (starEach es X.env))) _ _ s
  refine Calls.spliced_cons (thn (ha pins s σ H _ I h) fun u s1 ⟨x, H1, I1, r1, q1⟩ => ?_)
  exact thn (hr pos pins s1 σ H1 _ I1 q1) fun us s2 ⟨xs, H2, I2, r2, q2⟩ => ⟨x :: xs, H2, I2, .cons r1 r2, q2⟩
def tTup (t : TA) : TE := fun σ H Q => t σ H fun xs H1 => xs.length ≤ sizeLine ∧ ∀ p, H1 p = none → Q (.ref p) (upd H1 p (.tup xs))
def tLst (t : TA) : TE := fun σ H Q => t σ H fun xs H1 => xs.length ≤ sizeLine ∧ ∀ p, H1 p = none → Q (.ref p) (upd H1 p (.lst xs))
theorem pe_tup {x1} (h : PA X es t) : PE X (.Tuple es x1 pos) (tTup t) := by
  intro pins s σ H Q I hq
  refine wpAny_Tuple_spliced (thn (h pos pins s σ H _ I hq) fun us s1 ⟨xs, H1, I1, r, z, q⟩ => ⟨by rw [← r.length]; exact z, ?_⟩)
  have hf : H1 s1.heap.objs.size = none := I1.hok.fresh (Nat.le_refl _)
  refine ⟨.ref s1.heap.objs.size, upd H1 s1.heap.objs.size (.tup xs), I1.laid (t' := s1.toks) (fun b u e => Heap.get?_push_of_some _ e) (Nat.le_refl _) ?_, rfl, q _ hf⟩
  exact ⟨z, us, r, ⟨_, Heap.get?_push_size _ rfl, rfl, _, rfl⟩⟩
theorem pe_lst (h : PA X es t) : PE X (.List es pos) (tLst t) := by
  intro pins s σ H Q I hq
  refine wpAny_List_spliced (thn (h pos pins s σ H _ I hq) fun us s1 ⟨xs, H1, I1, r, z, q⟩ => ⟨by rw [← r.length]; exact z, ?_⟩)
  have hf : H1 s1.heap.objs.size = none := I1.hok.fresh (Nat.le_refl _)
  refine ⟨.ref s1.heap.objs.size, upd H1 s1.heap.objs.size (.lst xs), I1.laid (t' := s1.toks) (fun b u e => Heap.get?_push_of_some _ e) (Nat.le_refl _) ?_, rfl, q _ hf⟩
  exact ⟨z, us, 0, r, Heap.get?_push_size _ rfl⟩
end
abbrev Sp := List V → Hp → VK → XK → Prop
abbrev CXT := List Env → Hp → Shared → XK → Value → Shared → Prop
structure Env0 (P : Program) (w : World) (K : PySem.W.Frag) (mg : Str → Option Value) (base : Heap) (A : Around) (outer : List Env) (s : Shared) (H : Hp) : Prop where
  frames : A.frames = some outer
  mod : Mod K mg base
  bs : ∀ b o, base.get? b = some o → s.heap.get? b = some o ∧ H b = none
  bsz : base.objs.size ≤ s.heap.objs.size
  funs : s.heap.FunFrames base outer
  frf : ∀ b ∈ frs outer, H b = none
  hok : HOk P w H s.heap
  bare : AllBare s.gens
def CE (outer : List Env) (P : Program) (w : World) (H : Hp) (s : Shared) (Q : VK) (u : Value) (s' : Shared) : Prop :=
  ∃ v H', s'.os = s.os ∧ AllBare s'.gens ∧ Un (frs outer) [] H H' s.heap s'.heap ∧ HOk P w H' s'.heap ∧ RelV v u ∧ Q v H'
def CR (CX : CXT) (outer : List Env) (P : Program) (w : World) (H : Hp) (s : Shared) (Q : VK) (E : XK) (r : Result) (s' : Shared) : Prop :=
  match r with
  | .ok (.ret u) => CE outer P w H s Q u s'
  | .ok _ => False
  | .error e => CX outer H s E e s'
structure FnOk (P : Program) (w : World) (K : PySem.W.Frag) (mg : Str → Option Value) (base : Heap) (CX : CXT) (k : Nat) (f : Addr) (fd : FuncData) (ps : List Str) (sp : Sp) : Prop where
  len : ∀ vs H Q E, sp vs H Q E → vs.length = ps.length
  run : ∀ (A : Around) (outer : List Env) (s : Shared) (H : Hp) (args : Args) (us : List Value) (vs : List V) (Q : VK) (E : XK), Room k A → Env0 P w K mg base A outer s H → BindsTo s fd args (ps.zip us) → Vals vs us → sp vs H Q E →
    codeAny (model P w) A (.call (.ref f) args) (CR CX outer P w H s Q E) s
theorem FnOk.mono {P : Program} {w : World} {K : PySem.W.Frag} {mg : Str → Option Value} {base : Heap} {CX : CXT} {j k : Nat} {f : Addr} {fd : FuncData} {ps : List Str} {sp : Sp} (F : FnOk P w K mg base CX j f fd ps sp) (h : j ≤ k) :
    FnOk P w K mg base CX k f fd ps sp := ⟨F.len, fun A outer s H args us vs Q E hr => F.run A outer s H args us vs Q E (hr.mono h)⟩
theorem FnOk.imp {P : Program} {w : World} {K : PySem.W.Frag} {mg : Str → Option Value} {base : Heap} {CX : CXT} {k : Nat} {f : Addr} {fd : FuncData} {ps : List Str} {sp sp' : Sp} (F : FnOk P w K mg base CX k f fd ps sp)
    (h : ∀ vs H Q E, sp' vs H Q E → sp vs H Q E) : FnOk P w K mg base CX k f fd ps sp' :=
  ⟨fun vs H Q E q => F.len vs H Q E (h _ _ _ _ q), fun A outer s H args us vs Q E hr he hb hv hs => F.run A outer s H args us vs Q E hr he hb hv (h _ _ _ _ hs)⟩
theorem Env0.in1 {P : Program} {w : World} {K : PySem.W.Frag} {mg : Str → Option Value} {base : Heap} {A : Around} {outer : List Env} {s : Shared} {H : Hp} (e : Env0 P w K mg base A outer s H) :
    Env0 P w K mg base A.in1 outer s H := ⟨e.frames, e.mod, e.bs, e.bsz, e.funs, e.frf, e.hok, e.bare⟩
section
variable {X : Cx} {pins : List (Addr × Obj)} {σ : St} {H : Hp} {s s' : Shared}
theorem Inv.env0 (I : Inv X pins σ H s) : Env0 X.prog X.w X.K X.mg X.base X.A X.stack s H :=
  ⟨I.ok.frames, I.ok.mod, I.bs, Nat.le_trans I.ok.bsz I.sz, I.stack, I.stkFree, I.hok, I.bare⟩
theorem Inv.after {Q : VK} {u : Value} (I : Inv X pins σ H s) (h : CE X.stack X.prog X.w H s Q u s') : EP X pins σ Q u s' := by
  obtain ⟨v, H', os, bare, un, hok, r, q⟩ := h
  obtain ⟨hh, g, d, t, os'⟩ := s'
  obtain rfl : os' = s.os := os
  exact ⟨v, H', I.call (h' := hh) (g' := g) (d' := d) (t' := t) (ch := []) un hok bare (fun b z => absurd z (by simp)), r, q⟩
end
def Binds (K : PySem.W.Frag) (fd : FuncData) (ps : List Str) (ds : List Value) : Prop :=
  ∀ (s : Shared) (us : List Value), K.In s.heap → (us ++ ds).length = ps.length → BindsTo s fd ⟨us, []⟩ (ps.zip (us ++ ds))
theorem Binds.all {K : PySem.W.Frag} {fd : FuncData} {ps : List Str} (h : ∀ us : List Value, us.length = ps.length → bindArgs fd ⟨us, []⟩ = pure (ps.zip us)) : Binds K fd ps [] := fun s us _ hl => by
  rw [List.append_nil] at hl ⊢
  exact .of_eq (h us hl)
section
variable {X : Cx} {CX : CXT} {k : Nat} {f C : Addr} {fd : FuncData} {ps : List Str} {sp : Sp} {dvs : List V} {ds : List Value} {E : XK} {x m : Str} {p pos apos : Pos} {e o : Expr} {es : List Expr} {ta : TE} {t : TA}
structure Mk (K : PySem.W.Frag) (C f : Addr) : Prop where
  makes : PySem.W.makesIn K C = true
  init : PySem.W.findIn K (.ref C) "__init__" = some (some (.ref f))
  fn : PySem.W.isFn K (.ref f) = true
  kp : PySem.W.keepIn K (.ref C) = true
end
section
variable {X : Cx} {CX : CXT} {k : Nat} {f C : Addr} {fd : FuncData} {ps ks : List Str} {sp : Sp} {E : XK} {x m : Str} {p pos apos kpos : Pos} {e o : Expr} {es : List Expr} {kws : List Keyword} {te ta : TE} {t tk : TA} {nm : Option Str}
structure KBinds (K : PySem.W.Frag) (fd : FuncData) (ps ks : List Str) (g : List Value → List Value → List Value) (gV : List V → List V → List V) : Prop where
  to : ∀ (s : Shared) (us ws : List Value), K.In s.heap → (g us ws).length = ps.length → BindsTo s fd ⟨us, ks.zip ws⟩ (ps.zip (g us ws))
  rel : ∀ {vs : List V} {us : List Value} {zs : List V} {ws : List Value}, Vals vs us → Vals zs ws → Vals (gV vs zs) (g us ws)
variable {g : List Value → List Value → List Value} {gV : List V → List V → List V}
end
structure FnScope (N P : List Str) (sc : Scope) : Prop where
  kind : sc.kind = .function
  co : sc.isCoroutine = false
  gen : sc.isGenerator = false
  nd : N.Nodup
  pre : N.take P.length = P
  par : ∀ x ∈ P, sc.names.lookup x = some .local ∨ sc.names.lookup x = some .cell
  nofree : ∀ y ∈ sc.names, y.2 ≠ .free
theorem bindL_out {kindOf : Str → Option NameKind} {x : Str} : ∀ {binds : List (Str × Value)} {m : Str → Option Value}, (∀ v, (x, v) ∉ binds) → bindL kindOf binds m x = m x
  | [], _, _ => rfl
  | (n, v) :: r, m, h => by
    unfold bindL
    rw [bindL_out fun w hw => h w (List.mem_cons_of_mem _ hw)]
    split
    · have : x ≠ n := by rintro rfl; exact h v List.mem_cons_self
      simp [this]
    · rfl
theorem bindC_out {kindOf : Str → Option NameKind} {x : Str} : ∀ {binds : List (Str × Value)} {m : Str → Option Value}, (∀ v, (x, v) ∉ binds) → bindC kindOf binds m x = m x
  | [], _, _ => rfl
  | (n, v) :: r, m, h => by
    unfold bindC
    rw [bindC_out fun w hw => h w (List.mem_cons_of_mem _ hw)]
    split
    · rfl
    · have : x ≠ n := by rintro rfl; exact h v List.mem_cons_self
      simp [this]
theorem bindL_get {kindOf : Str → Option NameKind} {x : Str} {v : Value} : ∀ {P : List Str} {vs : List Value} {i : Nat} {m : Str → Option Value}, P.Nodup → P[i]? = some x → vs[i]? = some v → kindOf x = some .local →
    bindL kindOf (P.zip vs) m x = some v
  | [], _, _, _, _, h, _, _ => by simp at h
  | _ :: _, [], _, _, _, _, h, _ => by simp at h
  | p :: P, w :: vs, 0, m, nd, h1, h2, hk => by
    simp at h1 h2; subst h1; subst h2
    show bindL kindOf ((p, w) :: P.zip vs) m p = _
    unfold bindL
    rw [bindL_out fun v hv => (List.nodup_cons.mp nd).1 (List.of_mem_zip hv).1, if_pos hk]
    simp
  | p :: P, w :: vs, i + 1, m, nd, h1, h2, hk => by
    show bindL kindOf ((p, w) :: P.zip vs) m x = _
    unfold bindL
    exact bindL_get (i := i) (List.nodup_cons.mp nd).2 (by simpa using h1) (by simpa using h2) hk
theorem bindC_get {kindOf : Str → Option NameKind} {x : Str} {v : Value} : ∀ {P : List Str} {vs : List Value} {i : Nat} {m : Str → Option Value}, P.Nodup → P[i]? = some x → vs[i]? = some v → kindOf x ≠ some .local →
    bindC kindOf (P.zip vs) m x = some v
  | [], _, _, _, _, h, _, _ => by simp at h
  | _ :: _, [], _, _, _, _, h, _ => by simp at h
  | p :: P, w :: vs, 0, m, nd, h1, h2, hk => by
    simp at h1 h2; subst h1; subst h2
    show bindC kindOf ((p, w) :: P.zip vs) m p = _
    unfold bindC
    rw [bindC_out fun v hv => (List.nodup_cons.mp nd).1 (List.of_mem_zip hv).1, if_neg hk]
    simp
  | p :: P, w :: vs, i + 1, m, nd, h1, h2, hk => by
    show bindC kindOf ((p, w) :: P.zip vs) m x = _
    unfold bindC
    exact bindC_get (i := i) (List.nodup_cons.mp nd).2 (by simpa using h1) (by simpa using h2) hk
def start (N : List Str) (vs : List V) : St := vs.map some ++ List.replicate (N.length - vs.length) none
def cxOf (CX : CXT) (P : Program) (w : World) (K : PySem.W.Frag) (mg : Str → Option Value) (base : Heap) (N : List Str) (qual : Str) (scope : Scope) (f : Addr) (cd : Value) (A : Around) (outer : List Env) (s : Shared) (H : Hp) (E : XK) : Cx where
  prog := P
  w := w
  K := K
  mg := mg
  base := base
  A := A.deeper (envOfC qual scope s.heap.objs.size f cd)
  N := N
  s₀ := s
  H₀ := H
  env := envOfC qual scope s.heap.objs.size f cd
  outer := outer
  stack := envOfC qual scope s.heap.objs.size f cd :: outer
  ex := []
  calm := true
  fn := fun _ => true
  pn := []
  xe := fun e s' => wpAny (model P w) (A.deeper (envOfC qual scope s.heap.objs.size f cd)) (leaving (envOfC qual scope s.heap.objs.size f cd) e) (fun _ s'' => CX outer H s E e s'') (fun e' s'' => CX outer H s E e' s'') s'
theorem cell_has {sc : Scope} {n : Nat} {x : Str} (h : sc.names.lookup x = some .cell) : ∃ c, (cellsFrom n sc.names []).lookup x = some c := by
  have q := PySem.W.cellsFrom_some sc.names n [] (.inl h)
  exact Option.isSome_iff_exists.mp q
theorem inv_start {CX : CXT} {P : Program} {w : World} {K : PySem.W.Frag} {mg : Str → Option Value} {base : Heap} {N ps : List Str} {qual : Str} {scope : Scope} {f : Addr} {cd : Value} {A : Around} {outer : List Env} {s s1 : Shared} {H : Hp} {E : XK} {us : List Value} {vs : List V}
    (S : FnScope N ps scope) (hd : A.handled = none) (e0 : Env0 P w K mg base A outer s H) (hl : vs.length = ps.length) (r : Vals vs us)
    (x : InCallC s s.heap.objs.size (bindL (envOfC qual scope s.heap.objs.size f cd).kindOf (ps.zip us) fun _ => none) (cellsFrom (s.heap.objs.size + 1) scope.names []) (bindC (envOfC qual scope s.heap.objs.size f cd).kindOf (ps.zip us) fun _ => none) s1) :
    Inv (cxOf CX P w K mg base N qual scope f cd A outer s H E) [] (start N vs) H s1 := by
  have hpl : ps.length ≤ N.length := by have := congrArg List.length S.pre; rw [List.length_take] at this; omega
  obtain ⟨h1, tk, rfl, hk⟩ := x.done
  have noA : ∀ b : Addr, b ∉ (cxOf CX P w K mg base N qual scope f cd A outer s H E).ex := fun b z => absurd (show b ∈ ([] : List Addr) from z) (by simp)
  refine ⟨⟨e0.mod, S.kind, rfl, rfl, Nat.le_refl _, fun y z c h1 h2 => ?_, fun y hy => ?_, fun y c _ h => ?_, fun _ => hd, Around.frames_deeper e0.frames, .inr ⟨rfl, rfl⟩, fun b z => absurd z (noA b), e0.bs, e0.bsz, fun b _ _ => noA b, fun b z => absurd z (noA b), e0.funs, e0.frf⟩,
    rfl, e0.bare, Un.kept hk, ⟨_, x.toInCall.ns, fun i y v h1 h2 h3 => ?_⟩, fun y c h => ⟨_, x.cell y c h⟩, e0.hok.fresh (Nat.le_refl _), fun y c h => ?_, fun p hp => absurd (show p ∈ ([] : List (Addr × Obj)) from hp) (by simp), e0.hok.kept hk, ?_⟩
  · exact name_of_addr x.apart (PySem.mem_of_lookup h1) (PySem.mem_of_lookup h2)
  · have hy : scope.names.lookup y = some .cell ∨ scope.names.lookup y = some .free := hy
    rcases hy with hy | hy
    · exact cell_has hy
    · exact absurd rfl (S.nofree _ (PySem.mem_of_lookup hy))
  · exact Nat.le_of_lt (x.above y c (PySem.mem_of_lookup h))
  · have hi : i < vs.length := by
      unfold start at h2
      by_cases hi : i < vs.length
      · exact hi
      · rw [List.getElem?_append_right (by simpa using hi)] at h2
        rw [List.getElem?_replicate] at h2
        split at h2 <;> cases h2
    have ha : vs[i]? = some v := by
      unfold start at h2
      rw [List.getElem?_append_left (by simpa using hi), List.getElem?_map] at h2
      cases e : vs[i]? with
      | none => rw [e] at h2; cases h2
      | some a => rw [e] at h2; cases h2; rfl
    obtain ⟨u, hu, rv⟩ := r.get ha
    have hp : ps[i]? = some y := by
      rw [← S.pre, List.getElem?_take_of_lt (by omega)]; exact h1
    have ndP : ps.Nodup := by rw [← S.pre]; exact S.nd.sublist (List.take_sublist _ _)
    refine ⟨u, rv, ?_⟩
    rcases S.par y (List.mem_of_getElem? hp) with k | k
    · exact .inl ⟨k, bindL_get ndP hp hu k⟩
    · obtain ⟨c, e⟩ := cell_has (n := s.heap.objs.size + 1) k
      refine .inr ⟨.inl k, c, e, ?_⟩
      have q := x.cell y c e
      rw [bindC_get ndP hp hu (by show scope.names.lookup y ≠ _; rw [k]; decide)] at q
      exact q
  · exact e0.hok.fresh (Nat.le_of_lt (x.above y c (PySem.mem_of_lookup h)))
  · unfold start
    show _ = N.length
    rw [List.length_append, List.length_map, List.length_replicate]
    omega
theorem fn_of {CX : CXT} {P : Program} {w : World} {K : PySem.W.Frag} {mg : Str → Option Value} {base : Heap} {k : Nat} {f : Addr} {name qual : Str} {params : Arguments} {body : List Stmt} {scope : Scope} {dV kV doc pm cdv ct oc : Value} {an od : Option Addr}
    {osl : Array (Option Value)} {N ps : List Str} {sp : Sp} (lk : K.lookup f = some ⟨oc, od, .func (PySem.W.fnOf name qual params body scope dV kV doc pm an cdv ct), osl⟩) (hcd : PySem.W.codeIn K cdv qual = true) (S : FnScope N ps scope)
    (len : ∀ vs H Q E, sp vs H Q E → vs.length = ps.length)
    (hbody : ∀ (A : Around) (outer : List Env) (s : Shared) (H : Hp) (vs : List V) (Q : VK) (E : XK), Room k (A.deeper (envOfC qual scope s.heap.objs.size f cdv)) → sp vs H Q E →
      ∃ t, PSs (cxOf CX P w K mg base N qual scope f cdv A outer s H E) body t ∧ t { nx := fun _ H' => Q .non H', rt := Q } (start N vs) H) :
    FnOk P w K mg base CX (k + 1) f (PySem.W.fnOf name qual params body scope dV kV doc pm an cdv ct) ps sp := by
  refine ⟨len, fun A outer s H args us vs Q E hr e0 hb r hsp => ?_⟩
  have hl := len _ _ _ _ hsp
  have KX : K.In s.heap := e0.mod.kin.keeps fun b o e => (e0.bs b o e).1
  have lim : s.heap.NoLimit := e0.mod.nolimit.keeps fun b o e => (e0.bs b o e).1
  have hkind : ∀ y ∈ ps.zip us, scope.names.lookup y.1 = some .local ∨ (scope.names.lookup y.1 = some .cell ∧ ((cellsFrom (s.heap.objs.size + 1) scope.names []).lookup y.1).isSome = true) := fun ⟨n, v⟩ hy => by
    rcases S.par n (List.of_mem_zip hy).1 with q | q
    · exact .inl q
    · exact .inr ⟨q, PySem.W.cellsFrom_some _ _ _ (.inl q)⟩
  refine codeAny_call_function hr.depth (KX _ _ lk) rfl S.co S.gen rfl (PySem.W.codeRec_of KX hcd) (hb _ _ _ _ ?_)
  refine wpAny_newFunctionEnv_cells S.kind hkind fun env he s1 x => ?_
  subst he
  refine ⟨lim.keeps x.toInCall.keep, codeAny_func ?_⟩
  obtain ⟨t, ht, hq⟩ := hbody A outer s H vs Q E (hr.deeper _) hsp
  have I : Inv (cxOf CX P w K mg base N qual scope f cdv A outer s H E) [] (start N vs) H s1 := inv_start S hr.hd e0 hl r x
  refine wpAny_mono (ht [] s1 (start N vs) H _ I hq) (fun fl s' hs => ?_) fun e s' hs => hs
  have fin : ∀ {σ' : St} {H' : Hp} {v : V} {u : Value}, Inv (cxOf CX P w K mg base N qual scope f cdv A outer s H E) [] σ' H' s' → RelV v u → Q v H' → CE outer P w H s Q u s' :=
    fun {σ' H' v u} J rv q => ⟨v, H', J.os, J.bare, J.base, J.hok, rv, q⟩
  cases fl with
  | ret u =>
    obtain ⟨v, σ', H', J, rv, q⟩ := hs
    exact fin J rv q
  | next =>
    obtain ⟨σ', H', J, q⟩ := hs
    exact fin (v := V.non) (u := Value.none) J rfl q
  | brk =>
    obtain ⟨_, _, _, q⟩ := hs
    exact False.elim q
  | cont =>
    obtain ⟨_, _, _, q⟩ := hs
    exact False.elim q
end L2
namespace L2
open PySem PySem.Spec PyProof.Rows
section
variable {X : Cx} {x : Str} {p pos : Pos} {e : Expr} {es : List Expr} {t : TA} {id T : String} {r : List V → Hp → VK → Prop}
def tCB (r : List V → Hp → VK → Prop) (t : TA) : TE := fun σ H Q => t σ H fun vs H1 => r vs H1 Q
theorem pe_callB (hc : CallR X (.builtin id) r) (hg : Gl X x) (hm : X.mg x = none) (hv : bootBuiltins x = some (.builtin id)) (ha : PA X (e :: es) t) (hn : x ≠ "__name__" := by decide) (hdb : (x == ("__debug__" : Str)) = false := by decide)
    (he : starEach (e :: es) X.env = (false, eval e X.env) :: starEach es X.env := by rfl) (hpl : (backTo pos (starEach es X.env)).any (·.1) = false := by rfl) : PE X (.Call (.Name x p) (e :: es) [] pos) (tCB r t) := by
  intro pins s σ H Q I h
  refine wpAny_Call_Name_kw (ld_blt I hg hm hv ?_ hn hdb)
  exact PyProof.Rows.callWith_builtin1 (thn (ha pos pins s σ H _ I h) fun us s1 ⟨vs, H1, I1, r1, q1⟩ => hc pins s1 σ H1 vs us Q I1 r1 q1) he hpl
theorem pe_callTy (hc : CallR X (.type T) r) (hg : Gl X x) (hm : X.mg x = none) (hv : bootBuiltins x = some (.type T)) (ha : PA X (e :: es) t) (hn : x ≠ "__name__" := by decide) (hdb : (x == ("__debug__" : Str)) = false := by decide)
    (he : starEach (e :: es) X.env = (false, eval e X.env) :: starEach es X.env := by rfl) (hpl : (backTo pos (starEach es X.env)).any (·.1) = false := by rfl) : PE X (.Call (.Name x p) (e :: es) [] pos) (tCB r t) := by
  intro pins s σ H Q I h
  refine wpAny_Call_Name_kw (ld_blt I hg hm hv ?_ hn hdb)
  exact PyProof.Rows.callWith_type1 (thn (ha pos pins s σ H _ I h) fun us s1 ⟨vs, H1, I1, r1, q1⟩ => hc pins s1 σ H1 vs us Q I1 r1 q1) he hpl
end
end L2
namespace HT
open PySem PyProof.Rows
section
open PySem.SeqAt
open PySem.AutoSeq1 (wpAny_loadPart')
open PySem.MeetsSeq PySem.MeetsSeq2 PySem.MeetsSeq3
end
section
variable {prog : Program} {w : World} {A : Around} {E : Value → Shared → Prop} {s : Shared}
theorem cat_tup {t b : Addr} {vs ws : List Value} {Q : Value → Shared → Prop} (ht : IsTup s.heap t vs.toArray) (hb : IsTup s.heap b ws.toArray) (hv : vs ≠ [])
    (h1 : ws = [] → Q (.ref t) s) (h2 : ws ≠ [] → Q (.ref s.heap.objs.size) { s with heap := s.heap.push { cls := .type "tuple", data := .seq (vs ++ ws).toArray } })
    (hsz : vs.length + ws.length ≤ sizeLine) : wpAny (model prog w) A (binaryOp .Add (.ref t) (.ref b)) Q E s := by
  obtain ⟨⟨cls, dd, data, sl⟩, ho, hc, n, hd⟩ := id ht
  obtain ⟨⟨cls2, dd2, data2, sl2⟩, ho2, hc2, n2, hd2⟩ := id hb
  simp only at hc hd hc2 hd2
  subst hc hd hc2 hd2
  have e : vs.toArray ++ ws.toArray = (vs ++ ws).toArray := by simp
  by_cases hw : ws = []
  · exact concat_meets ⟨_, ho, rfl⟩ ⟨_, ho2, rfl⟩ noFill_tuple_add seq_tuple_add PySem.F.slot_tuple_add PySem.F.entry_tuple_add (PySem.F.args_tuple_add_2 _ _)
      (tuple_addW1 t b vs.toArray ws.toArray n n2 dd dd2 sl sl2 (by simpa using hv) (by simp [hw])) ⟨ho, ho2, h1 hw⟩
  · refine concat_meets ⟨_, ho, rfl⟩ ⟨_, ho2, rfl⟩ noFill_tuple_add seq_tuple_add PySem.F.slot_tuple_add PySem.F.entry_tuple_add (PySem.F.args_tuple_add_2 _ _)
      (tuple_addW2 t b vs.toArray ws.toArray n n2 dd dd2 sl sl2 (by simpa using hv) (by simpa using hw) (by rw [List.size_toArray, List.size_toArray]; exact hsz)) ⟨ho, ho2, ?_⟩
    rw [e]
    exact h2 hw
def sIx (n d : Nat) : Option Int → Nat
  | none => d
  | some v => if v < 0 then (v + (n : Int)).toNat else min v.toNat n
theorem sIx_le (n d : Nat) (hd : d ≤ n) (o : Option Int) : sIx n d o ≤ n := by
  cases o with
  | none => exact hd
  | some v =>
    show (if v < 0 then (v + (n : Int)).toNat else min v.toNat n) ≤ n
    by_cases hv : v < 0
    · rw [if_pos hv]; omega
    · rw [if_neg hv]; exact Nat.min_le_right _ _
theorem clip_eq (v : Int) (n d : Nat) : (if v < 0 then max (v + (n : Int)) 0 else min v (n : Int)) = ((sIx n d (some v) : Nat) : Int) := by
  show (if v < 0 then max (v + (n : Int)) 0 else min v (n : Int)) = (((if v < 0 then (v + (n : Int)).toNat else min v.toNat n) : Nat) : Int)
  by_cases hv : v < 0
  · simp only [if_pos hv]; omega
  · simp only [if_neg hv]; omega
theorem adjust_gen (lo hi : Option Int) (n : Nat) : Builtin.Slice.sliceAdjust lo hi 1 (n : Int) = (((sIx n 0 lo : Nat) : Int), ((sIx n n hi : Nat) : Int)) := by
  have h1 : ¬ ((1 : Int) < 0) := by omega
  unfold Builtin.Slice.sliceAdjust
  simp only [h1, if_false]
  refine Prod.ext ?_ ?_
  · cases lo with
    | none => rfl
    | some v => exact clip_eq v n 0
  · cases hi with
    | none => rfl
    | some v => exact clip_eq v n n
theorem places_gen (i j : Nat) : Builtin.Slice.slicePlaces (i : Int) (j : Int) 1 = j - i := by
  unfold Builtin.Slice.slicePlaces
  have h1 : (1 : Int) > 0 := by omega
  simp only [h1, if_true, Int.ediv_one]
  split <;> omega
theorem slicePart_ {v : Value} {o : Option Int} {Q : Option Int → Shared → Prop} (p : IsPart v o) (h : Q o s) : wpAny (model prog w) A (Builtin.Slice.slicePartIndex v) Q E s := by
  cases p with
  | none => exact slicePart_none h
  | int i t => exact slicePart_int h
theorem sliceApplied_gen {sl : Addr} {vl vu : Value} {lo hi : Option Int} {n : Nat} {Q : Int × Int × Nat → Shared → Prop} (hs : s.heap.IsSliceOf sl vl vu .none) (pl : IsPart vl lo) (pu : IsPart vu hi)
    (h : Q (((sIx n 0 lo : Nat) : Int), 1, sIx n n hi - sIx n 0 lo) s) : wpAny (model prog w) A (Builtin.Slice.sliceApplied (.ref sl) (pure (n : Int))) Q E s := by
  obtain ⟨os, hos, hcs, hds⟩ := id hs
  unfold Builtin.Slice.sliceApplied Builtin.Slice.sliceFields
  refine wpAny_bind (wpAny_bind (wpAny_field hos hds (x := vl) rfl (wpAny_bind (wpAny_field hos hds (x := vu) rfl (wpAny_bind (wpAny_field hos hds (x := .none) rfl (wpAny_pure ?_)))))))
  refine wpAny_bind (slicePart_none ?_)
  show wpAny _ _ (if ((1 : Int) == 0) = true then _ else _) _ _ s
  rw [if_neg (by decide)]
  refine wpAny_bind (slicePart_ pl (wpAny_bind (slicePart_ pu (wpAny_bind (wpAny_pure ?_)))))
  show wpAny _ _ (match Builtin.Slice.sliceAdjust lo hi 1 (n : Int) with | (lo, hi) => pure (lo, (1 : Int), Builtin.Slice.slicePlaces lo hi 1)) _ _ s
  rw [adjust_gen lo hi n]
  show wpAny _ _ (pure (((sIx n 0 lo : Nat) : Int), (1 : Int), Builtin.Slice.slicePlaces ((sIx n 0 lo : Nat) : Int) ((sIx n n hi : Nat) : Int) 1)) _ _ s
  rw [places_gen]
  exact wpAny_pure h
theorem pick_gen (xs : Array Value) (i k : Nat) : ((List.range k).filterMap fun (m : Nat) => xs[((i : Int) + (m : Int) * 1).toNat]?).toArray = ((xs.toList.drop i).take k).toArray := by
  have e : (fun (m : Nat) => xs[((i : Int) + (m : Int) * 1).toNat]?) = fun m => xs[i + m]? := by
    funext m
    have : ((i : Int) + (m : Int) * 1).toNat = i + m := by omega
    rw [this]
  rw [e]
  have := pick_run xs i k
  rw [List.filterMap_map] at this
  have e2 : ((fun x => xs[x]?) ∘ fun x => i + x) = fun m => xs[i + m]? := rfl
  rw [e2] at this
  rw [this]
theorem getItem_tuple_cut {t sl : Addr} {items : Array Value} {vl vu : Value} {lo hi : Option Int} {Q : Value → Shared → Prop} (ht : IsTup s.heap t items) (hs : s.heap.IsSliceOf sl vl vu .none) (pl : IsPart vl lo) (pu : IsPart vu hi)
    (hw : ¬ (sIx items.size 0 lo = 0 ∧ sIx items.size items.size hi = items.size))
    (h : Q (.ref s.heap.objs.size) { s with heap := s.heap.push { cls := .type "tuple", data := .seq ((items.toList.drop (sIx items.size 0 lo)).take (sIx items.size items.size hi - sIx items.size 0 lo)).toArray } })
    (hsz : items.size ≤ sizeLine) : wpAny (model prog w) A (getItem (.ref t) (.ref sl)) Q E s := by
  have htake : sizeOk (.seq ((items.toList.drop (sIx items.size 0 lo)).take (sIx items.size items.size hi - sIx items.size 0 lo)).toArray) := by
    show ((items.toList.drop (sIx items.size 0 lo)).take (sIx items.size items.size hi - sIx items.size 0 lo)).toArray.size ≤ sizeLine
    rw [List.size_toArray, List.length_take, List.length_drop, Array.length_toList]
    omega
  have hj : sIx items.size items.size hi ≤ items.size := sIx_le _ _ (Nat.le_refl _) hi
  obtain ⟨os, hos, hcs, hds⟩ := id hs
  have hTs : s.TypeIs (.ref sl) "slice" := ⟨os, hos, hcs⟩
  unfold getItem
  try with_reducible refine wpAny_holding ?_
  first | refine wpAny_bind (wpAny_pure ?_) | skip
  refine wpAny_bind (wpAny_sequenceKey ht.typeIs (by decide) ?_)
  refine wpAny_bind (wpAny_callSpecial?_slot (name := Str.ofString "__getitem__") ht.typeIs PyProof.Rows.slot_tuple_getitem
    (wpAny_call_entry PyProof.Rows.slot_tuple_getitem ht.typeIs entry_tuple_getitem ?_ (args_tuple_getitem _ _)))
  show wpAny _ _ (Builtin.Tuple.tupleItemsOf (.ref t) >>= _) _ _ s
  refine wpAny_bind (tupleItemsOf_ ht ?_)
  refine wpAny_bind (wpAny_typeOf hTs ?_)
  rw [if_pos (by decide)]
  refine wpAny_bind (sliceApplied_gen hs pl pu ?_)
  have hno : ¬ ((((sIx items.size 0 lo : Nat) : Int) == 0 && (1 : Int) == 1 && (sIx items.size items.size hi - sIx items.size 0 lo) == items.size) = true) := by
    intro q
    rw [Bool.and_eq_true, Bool.and_eq_true] at q
    have q1 : ((sIx items.size 0 lo : Nat) : Int) = 0 := eq_of_beq q.1.1
    have q2 : sIx items.size items.size hi - sIx items.size 0 lo = items.size := eq_of_beq q.2
    exact hw ⟨by omega, by omega⟩
  show wpAny _ _ (if (((sIx items.size 0 lo : Nat) : Int) == 0 && (1 : Int) == 1 && (sIx items.size items.size hi - sIx items.size 0 lo) == items.size) = true then _ else _) _ _ s
  rw [if_neg hno, pick_gen]
  first
    | exact wpAny_bind (m := Builtin.Tuple.tupleExact _) (wpAny_newObj_type (wpAny_pure ⟨_, rfl, wpAny_pure h⟩) htake)
    | exact wpAny_bind (m := Builtin.Tuple.tupleExact _) (wpAny_newObj_type (wpAny_bind (wpAny_pure (wpAny_pure ⟨_, rfl, wpAny_pure h⟩))) htake)
    | exact wpAny_bind (wpAny_bind (m := Builtin.Tuple.tupleExact _) (wpAny_newObj_type (wpAny_pure (wpAny_pure ⟨_, rfl, wpAny_pure h⟩)) htake))
    | exact wpAny_bind (wpAny_bind (m := Builtin.Tuple.tupleExact _) (wpAny_newObj_type (wpAny_pure ⟨_, rfl, wpAny_pure h⟩) htake))
end
end HT
namespace L2
open PySem PySem.Spec PyProof.Rows
abbrev TO := St → Hp → (Option Int → Hp → Prop) → Prop
def PO (X : Cx) (e : Option Expr) (t : TO) : Prop :=
  ∀ (pins : List (Addr × Obj)) (s : Shared) (σ : St) (H : Hp) (Q : Option Int → Hp → Prop), Inv X pins σ H s → t σ H Q →
    wpAny (model X.prog X.w) X.A (evalPart e X.env) (fun u s' => ∃ o H', Inv X pins σ H' s' ∧ IsPart u o ∧ Q o H') X.xe s
def tNoPart : TO := fun _ H Q => Q none H
def tPart (t : TE) : TO := fun σ H Q => t σ H fun x H1 => ∃ i, x = .int i ∧ Q (some i) H1
section
variable {X : Cx} {e : Expr} {te : TE} {lo hi : Option Expr} {tl th : TO} {pos p2 : Pos}
theorem po_none : PO X none tNoPart := by
  intro pins s σ H Q I h
  rw [evalPart_none]
  exact wpAny_pure ⟨none, H, I, .none, h⟩
theorem po_some (h : PE X e te) : PO X (some e) (tPart te) := by
  intro pins s σ H Q I hw
  rw [evalPart_some]
  refine thn (h pins s σ H _ I hw) fun u s1 ⟨x, H1, I1, r1, q1⟩ => ?_
  obtain ⟨i, rfl, q⟩ := q1
  obtain ⟨t, rfl⟩ := r1
  exact ⟨some i, H1, I1, .int i t, q⟩
def SlR (X : Cx) (r : V → Option Int → Option Int → Hp → VK → Prop) : Prop :=
  ∀ (pins : List (Addr × Obj)) (s : Shared) (σ : St) (H : Hp) (x : V) (v vl vu : Value) (lo hi : Option Int) (sl : Addr) (Q : VK), Inv X pins σ H s → RelV x v → s.heap.IsSliceOf sl vl vu .none → IsPart vl lo → IsPart vu hi → r x lo hi H Q →
    ∃ T id, typeLookup (.type T) "__getitem__" = pure (some (.builtin id)) ∧ s.TypeIs v T ∧ wpAny (model X.prog X.w) X.A (getItem v (.ref sl)) (EP X pins σ Q) X.xe s
theorem SlR.or {r r' : V → Option Int → Option Int → Hp → VK → Prop} (h : SlR X r) (h' : SlR X r') : SlR X (fun x lo hi H Q => r x lo hi H Q ∨ r' x lo hi H Q) := by
  intro pins s σ H x v vl vu lo hi sl Q I rx hs pl pu q
  rcases q with q | q
  · exact h pins s σ H x v vl vu lo hi sl Q I rx hs pl pu q
  · exact h' pins s σ H x v vl vu lo hi sl Q I rx hs pl pu q
def tSl (r : V → Option Int → Option Int → Hp → VK → Prop) (te : TE) (tl th : TO) : TE := fun σ H Q => te σ H fun x H1 => tl σ H1 fun l H2 => th σ H2 fun u H3 => r x l u H3 Q
theorem pe_slice {r : V → Option Int → Option Int → Hp → VK → Prop} (hr : SlR X r) (he : PE X e te) (hl : PO X lo tl) (hu : PO X hi th) : PE X (.Subscript e (.Slice lo hi none p2) pos) (tSl r te tl th) := by
  intro pins s σ H Q I h
  refine Subscript_ (thn (he pins s σ H _ I h) fun v s1 ⟨x, H1, I1, r1, q1⟩ => ?_)
  refine wpAny_Slice (thn (hl pins s1 σ H1 _ I1 q1) fun vl s2 ⟨l, H2, I2, pl, q2⟩ => thn (hu pins s2 σ H2 _ I2 q2) fun vu s3 ⟨u, H3, I3, pu, q3⟩ => ?_)
  rw [evalPart_none]
  refine wpAny_pure ?_
  have I4 : Inv X pins σ H3 { s3 with heap := s3.heap.push { cls := .type "slice", data := .fields #[vl, vu, .none] } } := I3.kept (t' := s3.toks) fun b ob q => Heap.get?_push_of_some _ q
  obtain ⟨T, id, hT, ht, hg⟩ := hr pins { s3 with heap := s3.heap.push { cls := .type "slice", data := .fields #[vl, vu, .none] } } σ H3 x v vl vu l u s3.heap.objs.size Q I4 r1 (Heap.IsSliceOf.new ..) pl pu q3
  show wpAny (model X.prog X.w) X.A (subscriptTail e (.Slice lo hi none p2) v (.ref s3.heap.objs.size)) (EP X pins σ Q) X.xe { s3 with heap := s3.heap.push { cls := .type "slice", data := .fields #[vl, vu, .none] } }
  exact tail_any (ops := [.ref s3.heap.objs.size, v]) ht hT hg (by with_unfolding_all rfl)
def cutV (xs : List V) (lo hi : Option Int) : List V := (xs.drop (HT.sIx xs.length 0 lo)).take (HT.sIx xs.length xs.length hi - HT.sIx xs.length 0 lo)
theorem cutV_length (xs : List V) (lo hi : Option Int) : (cutV xs lo hi).length ≤ xs.length := by
  unfold cutV
  rw [List.length_take, List.length_drop]
  omega
def rSlT (K : PySem.W.Frag) : V → Option Int → Option Int → Hp → VK → Prop := fun x lo hi H Q => ∃ a xs, x = .ref a ∧ SqT K H a xs ∧
  ¬ (HT.sIx xs.length 0 lo = 0 ∧ HT.sIx xs.length xs.length hi = xs.length) ∧ ∀ p, H p = none → Q (.ref p) (upd H p (.tup (cutV xs lo hi)))
theorem sl_tup : SlR X (rSlT X.K) := by
  intro pins s σ H x v vl vu lo hi sl Q I rx hs pl pu h
  obtain ⟨a, xs, rfl, hx, hw, q⟩ := h
  cases rx
  obtain ⟨its, r, ht, hz⟩ := I.tuple hx
  have hlen : its.toArray.size = xs.length := by rw [List.size_toArray]; exact r.length.symm
  refine ⟨"tuple", _, PyProof.Rows.slot_tuple_getitem.lookup, ht.typeIs, ?_⟩
  refine HT.getItem_tuple_cut ht hs pl pu (by rw [hlen]; exact hw) ?_ (by rw [hlen]; exact hz)
  rw [hlen]
  refine ⟨.ref s.heap.objs.size, _, I.laid (t' := s.toks) (o := .tup (cutV xs lo hi)) (fun b ob q => Heap.get?_push_of_some _ q) (Nat.le_refl _) ?_, rfl, q _ (I.hok.fresh (Nat.le_refl _))⟩
  exact ⟨Nat.le_trans (cutV_length xs lo hi) hz, _, (r.drop (HT.sIx xs.length 0 lo)).take (HT.sIx xs.length xs.length hi - HT.sIx xs.length 0 lo), IsTup.new _ _⟩
def rCatT (K : PySem.W.Frag) : R2 := fun x y H Q => ∃ a b xs ys, x = .ref a ∧ y = .ref b ∧ SqT K H a xs ∧ SqT K H b ys ∧ xs ≠ [] ∧ xs.length + ys.length ≤ sizeLine ∧
  (ys = [] → Q (.ref a) H) ∧ (ys ≠ [] → ∀ p, H p = none → Q (.ref p) (upd H p (.tup (xs ++ ys))))
theorem Vals.nil_iff {xs : List V} {us : List Value} (r : Vals xs us) : us = [] ↔ xs = [] := by
  cases r with
  | nil => simp
  | cons _ _ => simp
theorem op_catT : OpR X (binaryOp .Add) (rCatT X.K) := by
  intro pins s σ H x y v u Q I rx ry h
  obtain ⟨a, b, xs, ys, rfl, rfl, ha, hb, hx, hz, q1, q2⟩ := h
  cases rx
  cases ry
  obtain ⟨its, r1, p1, _⟩ := I.tuple ha
  obtain ⟨its2, r2, p2, _⟩ := I.tuple hb
  refine HT.cat_tup p1 p2 (fun z => hx (r1.nil_iff.mp z)) (fun z => ⟨.ref a, H, I, rfl, q1 (r2.nil_iff.mp z)⟩) (fun z => ?_) (by rw [← r1.length, ← r2.length]; exact hz)
  refine ⟨.ref s.heap.objs.size, _, I.laid (t' := s.toks) (o := .tup (xs ++ ys)) (fun b ob q => Heap.get?_push_of_some _ q) (Nat.le_refl _) ?_, rfl, q2 (fun w => z (r2.nil_iff.mpr w)) _ (I.hok.fresh (Nat.le_refl _))⟩
  exact ⟨by rw [List.length_append]; exact hz, _, r1.append r2, IsTup.new _ _⟩
end
end L2
namespace L2
open PySem PySem.Spec PyProof.Rows
def ixN (n : Nat) (i : Int) : Option Nat := if 0 ≤ i then (if i < n then some i.toNat else none) else if -(n : Int) ≤ i then some (i + n).toNat else none
def atI {α : Type} (xs : List α) (i : Int) : Option α := (ixN xs.length i).bind fun j => xs[j]?
theorem ixN_seq {n : Nat} {i : Int} {j : Nat} (h : ixN n i = some j) : seqIndex? i n = some j ∧ j < n ∧ -(n : Int) ≤ i ∧ i < n := by
  unfold ixN at h
  by_cases h0 : 0 ≤ i
  · rw [if_pos h0] at h
    by_cases h1 : i < n
    · rw [if_pos h1] at h
      have e : i.toNat = j := Option.some.inj h
      exact ⟨by rw [seqIndex_of h0 h1, e], by omega, by omega, h1⟩
    · rw [if_neg h1] at h; cases h
  · rw [if_neg h0] at h
    by_cases h1 : -(n : Int) ≤ i
    · rw [if_pos h1] at h
      have e : (i + n).toNat = j := Option.some.inj h
      exact ⟨by rw [seqIndex_neg (by omega) h1, e], by omega, h1, by omega⟩
    · rw [if_neg h1] at h; cases h
theorem atI_get {α : Type} {xs : List α} {i : Int} {v : α} (h : atI xs i = some v) : ∃ j, seqIndex? i xs.length = some j ∧ xs[j]? = some v ∧ j < xs.length ∧ -(xs.length : Int) ≤ i ∧ i < xs.length := by
  unfold atI at h
  cases e : ixN xs.length i with
  | none => rw [e] at h; cases h
  | some j =>
    rw [e] at h
    obtain ⟨h1, h2, h3, h4⟩ := ixN_seq e
    exact ⟨j, h1, h, h2, h3, h4⟩
theorem atI_nat {α : Type} {xs : List α} {j : Nat} {v : α} (h : xs[j]? = some v) : atI xs (j : Int) = some v := by
  have hj : j < xs.length := (List.getElem?_eq_some_iff.mp h).1
  have e : ixN xs.length (j : Int) = some j := by
    unfold ixN
    rw [if_pos (by omega), if_pos (by omega)]; simp
  unfold atI; rw [e]; exact h
def PlainIx (b : Expr) : Prop := ∀ o i, subscripted b false o i = operate [o, i] (getItem o i)
def IxR (X : Cx) (r : R2) : Prop :=
  ∀ (value slice : Expr) (pins : List (Addr × Obj)) (s : Shared) (σ : St) (H : Hp) (x y : V) (v u : Value) (Q : VK), Inv X pins σ H s → RelV x v → RelV y u → r x y H Q →
    subscripted slice false v u = operate [v, u] (getItem v u) → wpAny (model X.prog X.w) X.A (subscriptTail value slice v u) (EP X pins σ Q) X.xe s
def MtR (X : Cx) (id : String) (r : V → List V → Hp → VK → Prop) : Prop :=
  ∀ (pins : List (Addr × Obj)) (s : Shared) (σ : St) (H : Hp) (x : V) (xs : List V) (v : Value) (us : List Value) (Q : VK), Inv X pins σ H s → RelV x v → Vals xs us → r x xs H Q →
    wpAny (model X.prog X.w) X.A (call (.builtin id) (v :: us)) (EP X pins σ Q) X.xe s
section
variable {X : Cx} {a b : Expr} {ta tb : TE} {pos : Pos}
theorem IxR.or {r r' : R2} (h : IxR X r) (h' : IxR X r') : IxR X (fun x y H Q => r x y H Q ∨ r' x y H Q) := by
  intro value slice pins s σ H x y v u Q I rx ry q hs
  rcases q with q | q
  · exact h value slice pins s σ H x y v u Q I rx ry q hs
  · exact h' value slice pins s σ H x y v u Q I rx ry q hs
theorem MtR.or {id : String} {r r' : V → List V → Hp → VK → Prop} (h : MtR X id r) (h' : MtR X id r') : MtR X id (fun x xs H Q => r x xs H Q ∨ r' x xs H Q) := by
  intro pins s σ H x xs v us Q I rx rs q
  rcases q with q | q
  · exact h pins s σ H x xs v us Q I rx rs q
  · exact h' pins s σ H x xs v us Q I rx rs q
theorem pe_ix {r : R2} (hr : IxR X r) (ha : PE X a ta) (hb : PE X b tb) (hs : PlainIx b) : PE X (.Subscript a b pos) (tOp r ta tb) := by
  intro pins s σ H Q I h
  exact Subscript_ (binT ha hb I h fun v u s2 x y H2 I2 rx ry q => hr a b pins s2 σ H2 x y v u Q I2 rx ry q (hs _ _))
def rIxL (K : PySem.W.Frag) : R2 := fun x y H Q => ∃ p xs i v, x = .ref p ∧ y = .int i ∧ SqL K H p xs ∧ atI xs i = some v ∧ Q v H
def rIxT (K : PySem.W.Frag) : R2 := fun x y H Q => ∃ p xs i v, x = .ref p ∧ y = .int i ∧ SqT K H p xs ∧ atI xs i = some v ∧ Q v H
def rIxS : R2 := fun x y H Q => ∃ z i c, x = .str z ∧ y = .int i ∧ z.length ≤ sizeLine ∧ atI z.cps.toList i = some c ∧ Q (.str ⟨#[c]⟩) H
theorem ix_list : IxR X (rIxL X.K) := by
  intro value slice pins s σ H x y v u Q I rx ry h hs
  obtain ⟨p, xs, i, z, rfl, rfl, hq, he, q⟩ := h
  cases rx
  obtain ⟨t, rfl⟩ := ry
  obtain ⟨its, r, pl, hz⟩ := I.list hq
  obtain ⟨j, h1, h2, h3, h4, h5⟩ := atI_get he
  obtain ⟨w, ew, rw'⟩ := r.get h2
  have hl := r.length
  have hn := line63
  have fin : EP X pins σ Q w s := ⟨z, H, I, rw', q⟩
  by_cases h0 : 0 ≤ i
  · have hj : i.toNat = j := by
      rw [seqIndex_of h0 h5] at h1
      exact Option.some.inj h1
    exact item_listR pl.isList h0 (by omega) (by rw [hj]; simpa using ew) fin hs
  · have hj : (i + (its.toArray.size : Int)).toNat = j := by
      rw [seqIndex_neg (by omega) h4] at h1
      rw [List.size_toArray, ← hl]
      exact Option.some.inj h1
    exact subscriptTail_builtinR (x := w) pl.isList.typeIs slot_list_getitem.lookup
      (wpAny_getItem_list_neg (Q := fun r s' => r = w ∧ EP X pins σ Q r s') pl.isList (by omega) (by rw [List.size_toArray] <;> omega) (by omega) (by rw [hj]; simpa using ew) ⟨rfl, fin⟩) hs
theorem ix_tup : IxR X (rIxT X.K) := by
  intro value slice pins s σ H x y v u Q I rx ry h hs
  obtain ⟨p, xs, i, z, rfl, rfl, hq, he, q⟩ := h
  cases rx
  obtain ⟨t, rfl⟩ := ry
  obtain ⟨its, r, pl, hz⟩ := I.tuple hq
  obtain ⟨j, h1, h2, h3, h4, h5⟩ := atI_get he
  obtain ⟨w, ew, rw'⟩ := r.get h2
  have hl := r.length
  have hn := line63
  have fin : EP X pins σ Q w s := ⟨z, H, I, rw', q⟩
  exact subscriptTail_builtinR (x := w) pl.typeIs slot_tuple_getitem.lookup
    (getItem_tuple (j := j) (Q := fun r s' => r = w ∧ EP X pins σ Q r s') pl (by omega) (by omega) (by rw [List.size_toArray, ← hl]; exact h1) (by simpa using ew) ⟨rfl, fin⟩) hs
theorem ix_str : IxR X rIxS := by
  intro value slice pins s σ H x y v u Q I rx ry h hs
  obtain ⟨z, i, c, rfl, rfl, hz, he, q⟩ := h
  obtain ⟨t, rfl⟩ := rx
  obtain ⟨t', rfl⟩ := ry
  obtain ⟨j, h1, h2, h3, h4, h5⟩ := atI_get he
  have hl : z.cps.toList.length = z.length := by simp [Str.length]
  rw [hl] at h1 h4 h5
  have hn := line63
  exact tail_any (typeIs_str s z t) slot_str_getitem.lookup (getItem_str (c := c) (by
    have e1 : decide (i < -(2 ^ 63 : Int)) = false := decide_eq_false (by omega)
    have e2 : decide (i ≥ 2 ^ 63) = false := decide_eq_false (by omega)
    rw [e1, e2, Bool.or_false]) (by rw [h1]; simpa using h2) ⟨.str ⟨#[c]⟩, H, I.tok _, ⟨_, rfl⟩, q⟩) hs
def rIx (K : PySem.W.Frag) : R2 := fun x y H Q => rIxL K x y H Q ∨ rIxT K x y H Q ∨ rIxS x y H Q
theorem ix_seq : IxR X (rIx X.K) := ix_list.or (ix_tup.or ix_str)
theorem mapSeq_set (its : List Value) (n j : Nat) (u : Value) : Obj.mapSeq (·.setIfInBounds j u) { cls := .type "list", data := .seq its.toArray n } = { cls := .type "list", data := .seq (its.set j u).toArray n } := by
  simp [Obj.mapSeq]
theorem Inv.lst {pins : List (Addr × Obj)} {σ : St} {H : Hp} {s : Shared} {p : Addr} {xs : List V} (I : Inv X pins σ H s) (h : H p = some (.lst xs)) :
    ∃ (its : List Value) (n : Nat), Vals xs its ∧ s.heap.get? p = some { cls := .type "list", data := .seq its.toArray n } ∧ xs.length ≤ sizeLine := by
  obtain ⟨z, its, n, r, e⟩ := I.hok p _ h
  exact ⟨its, n, r, e, z⟩
theorem Inv.lstUpd {pins : List (Addr × Obj)} {σ : St} {H : Hp} {s : Shared} {p : Addr} {xs ys : List V} {its its' : List Value} {n n' : Nat} {f : Obj → Obj} (I : Inv X pins σ H s) (h : H p = some (.lst xs))
    (ho : s.heap.get? p = some { cls := .type "list", data := .seq its.toArray n }) (hf : f { cls := .type "list", data := .seq its.toArray n } = { cls := .type "list", data := .seq its'.toArray n' }) (r : Vals ys its') (hz : ys.length ≤ sizeLine) (t : Nat) :
    Inv X pins σ (upd H p (.lst ys)) { s with heap := s.heap.update p f, toks := t } := by
  have e : (s.heap.update p f).get? p = some { cls := .type "list", data := .seq its'.toArray n' } := by
    rw [Heap.get?_update_self f ho (by rw [hf] <;> rfl), hf]
  refine I.write (x := p) (e := p) (by rw [h]; trivial) (.inl rfl) (fun b u hb q => (Heap.get?_update_other _ _ (Ne.symm hb)).trans q) ⟨_, e⟩ ?_
  exact ⟨hz, its', n', r, e⟩
def rSetL : V → V → V → Hp → (Hp → Prop) → Prop := fun o i v H Q => ∃ p xs k j, o = .ref p ∧ i = .int k ∧ H p = some (.lst xs) ∧ ixN xs.length k = some j ∧ Q (upd H p (.lst (xs.set j v)))
theorem set_list : PSet X rSetL := by
  intro pins s σ H o i v ov iv u Q I ro ri rv h
  obtain ⟨p, xs, k, j, rfl, rfl, hp, hj, q⟩ := h
  cases ro
  obtain ⟨t, rfl⟩ := ri
  obtain ⟨its, n, r, ho, hz⟩ := I.lst hp
  obtain ⟨h1, h2, h3, h4⟩ := ixN_seq hj
  have hl := r.length
  have hn := line63
  have I' : Inv X pins σ (upd H p (.lst (xs.set j v))) { s with heap := s.heap.update p (Obj.mapSeq (·.setIfInBounds j u)) } :=
    I.lstUpd hp ho (mapSeq_set its n j u) (r.set rv j) (by rw [List.length_set]; exact hz) s.toks
  by_cases h0 : 0 ≤ k
  · have hk : k.toNat = j := by
      rw [seqIndex_of h0 h4] at h1
      exact Option.some.inj h1
    exact PySem.W.ki_setAt ho h0 (by omega) (by rw [List.size_toArray, ← hl]; exact h4) (by rw [hk]; exact ⟨_, I', q⟩)
  · have hk : (k + (its.toArray.size : Int)).toNat = j := by
      rw [seqIndex_neg (by omega) h3] at h1
      rw [List.size_toArray, ← hl]
      exact Option.some.inj h1
    exact PySem.W.ki_setBack ho (by omega) (by rw [List.size_toArray, ← hl]; exact h3) (by omega) (by rw [hk]; exact ⟨_, I', q⟩)
theorem slice_bounds (lo hi : Option Int) (n : Nat) : (sliceBounds lo hi none n).1 = ((HT.sIx n 0 lo : Nat) : Int) ∧ (sliceBounds lo hi none n).2.1 = ((HT.sIx n n hi : Nat) : Int) ∧ (sliceBounds lo hi none n).2.2 = 1 := by
  refine ⟨?_, ?_, rfl⟩
  · cases lo with
    | none => simp [sliceBounds, HT.sIx]
    | some i =>
      simp only [sliceBounds, HT.sIx, Option.getD_none, show (1 : Int) > 0 by decide, if_true]
      by_cases h : i < 0
      · simp only [h, if_true] <;> omega
      · simp only [h, if_false] <;> omega
  · cases hi with
    | none => simp [sliceBounds, HT.sIx]
    | some i =>
      simp only [sliceBounds, HT.sIx, Option.getD_none, show (1 : Int) > 0 by decide, if_true]
      by_cases h : i < 0
      · simp only [h, if_true] <;> omega
      · simp only [h, if_false] <;> omega
theorem slicePick_cut (its : List Value) (lo hi : Option Int) : slicePick its.toArray lo hi none = ((its.drop (HT.sIx its.length 0 lo)).take (HT.sIx its.length its.length hi - HT.sIx its.length 0 lo)).toArray := by
  obtain ⟨h1, h2, h3⟩ := slice_bounds lo hi its.toArray.size
  unfold slicePick
  rw [h1, h2, h3]
  simp only [sliceRange_one, pick_run, List.size_toArray] <;> rfl
def rSlL (K : PySem.W.Frag) : V → Option Int → Option Int → Hp → VK → Prop := fun x lo hi H Q => ∃ a xs, x = .ref a ∧ SqL K H a xs ∧ ∀ p, H p = none → Q (.ref p) (upd H p (.lst (cutV xs lo hi)))
theorem sl_list : SlR X (rSlL X.K) := by
  intro pins s σ H x v vl vu lo hi sl Q I rx hs pl pu h
  obtain ⟨a, xs, rfl, hx, q⟩ := h
  cases rx
  obtain ⟨its, r, ht, hz⟩ := I.list hx
  have hlen := r.length
  refine ⟨"list", _, slot_list_getitem.lookup, ht.isList.typeIs, ?_⟩
  refine wpAny_getItem_list_slice ht.isList hs pl pu .none (by simp) ?_ (by rw [List.size_toArray] <;> omega)
  rw [slicePick_cut, ← hlen]
  refine ⟨.ref s.heap.objs.size, _, I.laid (t' := s.toks) (o := .lst (cutV xs lo hi)) (fun b ob q => Heap.get?_push_of_some _ q) (Nat.le_refl _) ?_, rfl, q _ (I.hok.fresh (Nat.le_refl _))⟩
  exact ⟨Nat.le_trans (cutV_length xs lo hi) hz, _, 0, (r.drop (HT.sIx xs.length 0 lo)).take (HT.sIx xs.length xs.length hi - HT.sIx xs.length 0 lo), Heap.get?_push_size _ rfl⟩
def eqV : V → V → Bool
  | .non, .non => true
  | .bl a, .bl b => a == b
  | .bl a, .int b => (if a then 1 else 0) == b
  | .int a, .bl b => a == (if b then 1 else 0)
  | .int a, .int b => a == b
  | .str a, .str b => a == b
  | _, _ => false
def inV (x : V) (xs : List V) : Bool := xs.any fun y => eqV y x
theorem call_len_seq : CallR X (.builtin "len") (fun xs H Q => ∃ p ys, xs = [.ref p] ∧ (SqL X.K H p ys ∨ SqT X.K H p ys) ∧ Q (.int ys.length) H) := by
  intro pins s σ H xs us Q I r h
  obtain ⟨p, ys, rfl, hq, q⟩ := h
  obtain ⟨u, rfl, rx⟩ := vals1 r
  cases rx
  have hn := line63
  rcases hq with hq | hq
  · obtain ⟨its, r', pl, hz⟩ := I.list hq
    have hlen := r'.length
    exact Calls.call_len_list pl.isList (by simp only [List.size_toArray] <;> omega) ⟨.int ys.length, H, I.tok _, ⟨s.toks + 1, by rw [List.size_toArray, hlen]⟩, q⟩
  · obtain ⟨its, r', pl, hz⟩ := I.tuple hq
    have hlen := r'.length
    exact len_tuple pl (by simp only [List.size_toArray] <;> omega) ⟨.int ys.length, H, I.tok _, ⟨s.toks + 1, by rw [List.size_toArray, hlen]⟩, q⟩
theorem call_len_str : CallR X (.builtin "len") (fun xs H Q => ∃ z, xs = [.str z] ∧ z.length ≤ sizeLine ∧ Q (.int z.length) H) := by
  intro pins s σ H xs us Q I r h
  obtain ⟨z, rfl, hz, q⟩ := h
  obtain ⟨u, rfl, t, rfl⟩ := vals1 r
  have hn := line63
  exact len_str (by omega) ⟨.int z.length, H, I.tok _, ⟨_, rfl⟩, q⟩
theorem CallR.or {f : Value} {r r' : List V → Hp → VK → Prop} (h : CallR X f r) (h' : CallR X f r') : CallR X f (fun xs H Q => r xs H Q ∨ r' xs H Q) := by
  intro pins s σ H xs us Q I rs q
  rcases q with q | q
  · exact h pins s σ H xs us Q I rs q
  · exact h' pins s σ H xs us Q I rs q
theorem call_list_of : CallR X (.type "list") (fun xs H Q => ∃ p ys, xs = [.ref p] ∧ (SqL X.K H p ys ∨ SqT X.K H p ys) ∧ ∀ l, H l = none → Q (.ref l) (upd H l (.lst ys))) := by
  intro pins s σ H xs us Q I r h
  obtain ⟨p, ys, rfl, hq, q⟩ := h
  obtain ⟨u, rfl, rx⟩ := vals1 r
  cases rx
  have fin : ∀ (its : List Value), Vals ys its → ys.length ≤ sizeLine → ∀ (h' : Heap) (c' : Nat), (∀ b o', s.heap.get? b = some o' → h'.get? b = some o') →
      h'.get? s.heap.objs.size = some { cls := .type "list", dict := none, data := .seq its.toArray c', slots := #[] } → EP X pins σ Q (.ref s.heap.objs.size) { s with heap := h' } := fun its r' hz h' c' kp e =>
    ⟨.ref s.heap.objs.size, _, I.laid (t' := s.toks) kp (Nat.le_refl _) (show ObjOk X.prog X.w _ h' _ (.lst ys) from ⟨hz, its, c', r', e⟩), rfl, q _ (I.hok.fresh (Nat.le_refl _))⟩
  rcases hq with hq | hq
  · obtain ⟨its, r', pl, hz⟩ := I.list hq
    have hlen := r'.length
    obtain ⟨o, ho, hc, n, hd⟩ := pl.isList
    exact call_list_seq p (.inl rfl) ho hc hd (fun h' c' kp e => fin its r' hz h' c' kp e) (by simp only [List.size_toArray] <;> omega)
  · obtain ⟨its, r', pl, hz⟩ := I.tuple hq
    have hlen := r'.length
    obtain ⟨o, ho, hc, n, hd⟩ := pl
    exact call_list_seq p (.inr rfl) ho hc hd (fun h' c' kp e => fin its r' hz h' c' kp e) (by simp only [List.size_toArray] <;> omega)
def tyV (K : PySem.W.Frag) (T : String) (x : V) (H : Hp) : Prop := match x with
  | .str _ => T = "str"
  | .int _ => T = "int"
  | .ref p => (T = "list" ∧ ∃ xs, SqL K H p xs) ∨ (T = "tuple" ∧ ∃ o, K.lookup p = some o ∧ o.cls = .type "tuple" ∧ o.dict = none) ∨
      (T = "dict" ∧ ((∃ kvs, H p = some (.dK kvs)) ∨ ∃ kvs, H p = some (.dT kvs))) ∨ (T = "set" ∧ ∃ S n, H p = some (.set S n))
  | _ => False
theorem tyV_is {pins : List (Addr × Obj)} {σ : St} {H : Hp} {s : Shared} {T : String} {x : V} {v : Value} (I : Inv X pins σ H s) (r : RelV x v) (ty : tyV X.K T x H) :
    s.TypeIs v T ∧ ∀ a, v = .ref a → ∃ ob, s.heap.get? a = some ob ∧ ob.dict = none := by
  cases x with
  | str z =>
    obtain ⟨t, rfl⟩ := r
    cases (show T = "str" from ty)
    exact ⟨typeIs_str s z t, fun _ e => nomatch e⟩
  | int i =>
    obtain ⟨t, rfl⟩ := r
    cases (show T = "int" from ty)
    exact ⟨typeIs_int s i t, fun _ e => nomatch e⟩
  | ref p =>
    cases r
    rcases ty with ⟨rfl, xs, hq⟩ | ⟨rfl, o, hk, hc, hd⟩ | ⟨rfl, hk⟩ | ⟨rfl, S, n, hk⟩
    · obtain ⟨its, _, pl, _⟩ := I.list hq
      refine ⟨pl.isList.typeIs, fun a e => ?_⟩
      cases e
      obtain ⟨o, n, e, c, hd, _⟩ := pl
      exact ⟨o, e, hd⟩
    · refine ⟨⟨o, I.kIn p o hk, hc⟩, fun a e => ?_⟩
      cases e
      exact ⟨o, I.kIn _ o hk, hd⟩
    · have z : ∃ o, s.heap.get? p = some o ∧ o.ExactDict := by
        rcases hk with ⟨kvs, hk⟩ | ⟨kvs, hk⟩
        · obtain ⟨_, _, _, _, o, _, _, e, ex, _⟩ := I.hok p _ hk
          exact ⟨o, e, ex⟩
        · obtain ⟨_, _, _, _, o, _, _, e, ex, _⟩ := I.hok p _ hk
          exact ⟨o, e, ex⟩
      obtain ⟨o, e, ex⟩ := z
      refine ⟨⟨o, e, ex.1⟩, fun a e2 => ?_⟩
      cases e2
      exact ⟨o, e, ex.2.1⟩
    · obtain ⟨o, _, _, _, e, ex, _⟩ := I.hok p _ hk
      refine ⟨⟨o, e, ex.1⟩, fun a e2 => ?_⟩
      cases e2
      exact ⟨o, e, ex.2.1⟩
  | _ => exact False.elim ty
def tBM0 (K : PySem.W.Frag) (T : String) (r : V → List V → Hp → VK → Prop) (to : TE) : TE := fun σ H Q => to σ H fun x H1 => tyV K T x H1 ∧ r x [] H1 Q
def tBM (K : PySem.W.Frag) (T : String) (r : V → List V → Hp → VK → Prop) (to : TE) (t : TA) : TE := fun σ H Q => to σ H fun x H1 => tyV K T x H1 ∧ t σ H1 fun xs H2 => r x xs H2 Q
variable {o e : Expr} {es : List Expr} {to : TE} {t : TA} {name : Str} {apos cpos : Pos} {T id : String} {r : V → List V → Hp → VK → Prop}
theorem pe_bm0 (pa : PlainAttrs T) (slot : Slot T name id) (hty : typeOf (.builtin id) = pure (.type "method_descriptor")) (hm : MtR X id r) (ho : PE X o to)
    (hbase : attributeBase o name X.env (eval o X.env) = eval o X.env := by rfl) (hline : (apos.endLine == cpos.line) = true := by rfl) : PE X (.Call (.Attribute o name apos) [] [] cpos) (tBM0 X.K T r to) := by
  intro pins s σ H Q I h
  refine wpAny_Call_method0_late hbase hline (thn (ho pins s σ H _ I h) fun v s1 ⟨x, H1, I1, r1, ty, q1⟩ => ?_)
  obtain ⟨h1, h2⟩ := tyV_is I1 r1 ty
  exact ⟨T, id, pa, slot, hty, h1, h2, Calls.callWith_builtin rfl (PySem.evalArgs_none (hm pins s1 σ H1 x [] v [] Q I1 r1 .nil q1))⟩
theorem pe_bm (pa : PlainAttrs T) (slot : Slot T name id) (hty : typeOf (.builtin id) = pure (.type "method_descriptor")) (hm : MtR X id r) (ho : PE X o to) (ha : PA X (e :: es) t)
    (hbase : attributeBase o name X.env (eval o X.env) = eval o X.env := by rfl)
    (hfew : ((backTo cpos (starEach (e :: es) X.env)).all (fun x => !x.1) && (backToKw cpos (keywordEach [] X.env)).all (fun x => x.1.isSome)
      && decide ((e :: es).length + ([] : List Keyword).length + (if ([] : List Keyword).isEmpty then 0 else 1) < 30)) = true := by rfl)
    (hline : (apos.endLine == cpos.line) = true := by rfl) (hs : starEach (e :: es) X.env = (false, eval e X.env) :: starEach es X.env := by rfl) (hplain : (backTo cpos (starEach es X.env)).any (·.1) = false := by rfl) :
    PE X (.Call (.Attribute o name apos) (e :: es) [] cpos) (tBM X.K T r to t) := by
  intro pins s σ H Q I h
  refine wpAny_Call_method_late hbase hfew hline rfl (thn (ho pins s σ H _ I h) fun v s1 ⟨x, H1, I1, r1, ty, q1⟩ => ?_)
  obtain ⟨h1, h2⟩ := tyV_is I1 r1 ty
  refine ⟨T, id, pa, slot, hty, h1, h2, ?_⟩
  have hA := ha cpos pins s1 σ H1 _ I1 q1
  rw [hs] at hA ⊢
  refine Calls.callWith_builtin (by show (false || (backTo cpos (starEach es X.env)).any (·.1)) = false; rw [hplain] <;> rfl) (Calls.evalArgs_plain ?_)
  exact thn hA fun us s2 ⟨vs, H2, I2, r2, q2⟩ => hm pins s2 σ H2 x vs v us Q I2 r1 r2 q2
end
end L2
namespace L2
open PySem PySem.Spec PyProof.Rows
def MtM (X : Cx) (id : String) (r : V → List V → Hp → VK → Prop) : Prop :=
  ∀ (pins : List (Addr × Obj)) (s : Shared) (σ : St) (H : Hp) (x : V) (xs : List V) (v : Value) (us : List Value) (Q : VK), Inv X pins σ H s → RelV x v → Vals xs us → r x xs H Q →
    wpAny (model X.prog X.w) X.A (call (.builtin id) (v :: us)) (EP X pins σ Q) X.xe s
theorem Vals.one : ∀ {x : V} {us : List Value}, Vals [x] us → ∃ u, us = [u] ∧ RelV x u
  | _, _, .cons r .nil => ⟨_, rfl, r⟩
theorem Vals.two : ∀ {x y : V} {us : List Value}, Vals [x, y] us → ∃ u v, us = [u, v] ∧ RelV x u ∧ RelV y v
  | _, _, _, .cons r (.cons q .nil) => ⟨_, _, rfl, r, q⟩
theorem Vals.zero : ∀ {us : List Value}, Vals [] us → us = []
  | _, .nil => rfl
theorem Vals.reverse {xs : List V} {us : List Value} (h : Vals xs us) : Vals xs.reverse us.reverse := by
  induction h with
  | nil => exact .nil
  | cons r t ih => rw [List.reverse_cons, List.reverse_cons]; exact Vals.append ih (.cons r .nil)
theorem Vals.rep {xs : List V} {us : List Value} (h : Vals xs us) : ∀ k : Nat, Vals (List.replicate k xs).flatten (List.replicate k us).flatten
  | 0 => .nil
  | k + 1 => by
    rw [List.replicate_succ, List.replicate_succ, List.flatten_cons, List.flatten_cons]
    exact Vals.append h (Vals.rep h k)
theorem foldl_rep (its : List Value) : ∀ (k : Nat) (acc : List Value),
    List.foldl (fun x1 x2 => x1 ++ x2) acc.toArray (List.replicate k its.toArray) = (acc ++ (List.replicate k its).flatten).toArray
  | 0, acc => by simp
  | k + 1, acc => by
    have e : acc.toArray ++ its.toArray = (acc ++ its).toArray := by simp
    have e2 : (acc ++ its) ++ (List.replicate k its).flatten = acc ++ (List.replicate (k + 1) its).flatten := by
      rw [List.replicate_succ, List.flatten_cons, List.append_assoc]
    rw [← e2, ← foldl_rep its k (acc ++ its), ← e, List.replicate_succ, List.foldl_cons]
section
variable {X : Cx} {pins : List (Addr × Obj)} {σ : St} {H : Hp} {s : Shared} {l b : Addr} {xs ys zs : List V}
theorem Inv.lset {its its' : List Value} {n : Nat} {f : Array Value → Array Value} {t' : Nat} (I : Inv X pins σ H s) (hH : H l = some (.lst xs))
    (e : s.heap.get? l = some { cls := .type "list", data := .seq its.toArray n }) (hf : f its.toArray = its'.toArray) (hv : Vals ys its') (hz : ys.length ≤ sizeLine) :
    Inv X pins σ (upd H l (.lst ys)) { s with heap := s.heap.update l (Obj.mapSeq f), toks := t' } := by
  have q := PySem.IsL.update e f
  rw [hf] at q
  refine I.write (x := l) (e := l) (by rw [hH]; exact trivial) (.inl rfl) (fun b' u hb hu => (Heap.get?_update_other s.heap (Obj.mapSeq f) (Ne.symm hb)).trans hu) ⟨_, q⟩ ?_
  exact ⟨hz, its', _, hv, q⟩
theorem Inv.lnew {its : List Value} {t' : Nat} (I : Inv X pins σ H s) (hv : Vals ys its) (hz : ys.length ≤ sizeLine) :
    Inv X pins σ (upd H s.heap.objs.size (.lst ys)) { s with heap := s.heap.push { cls := .type "list", data := .seq its.toArray }, toks := t' } :=
  I.laid (fun _ _ q => Heap.get?_push_of_some _ q) (Nat.le_refl _) ⟨hz, its, 0, hv, Heap.get?_push_size _ rfl⟩
theorem Inv.fresh (I : Inv X pins σ H s) : H s.heap.objs.size = none := I.hok.fresh (Nat.le_refl _)
theorem Inv.lstM (I : Inv X pins σ H s) (hH : H l = some (.lst xs)) : xs.length ≤ sizeLine ∧ ∃ (its : List Value) (n : Nat), Vals xs its ∧ xs.length = its.length ∧ s.heap.get? l = some { cls := .type "list", data := .seq its.toArray n } := by
  obtain ⟨z, its, n, r, e⟩ := I.hok l _ hH
  exact ⟨z, its, n, r, r.length, e⟩
theorem notLongL {n : Nat} (h : n ≤ sizeLine) : Builtin.List.listTooLong n = false := by
  unfold Builtin.List.listTooLong
  exact decide_eq_false (by omega)
end
section
variable {X : Cx}
def rAppend : V → List V → Hp → VK → Prop := fun x vs H Q => ∃ l xs y, x = .ref l ∧ vs = [y] ∧ H l = some (.lst xs) ∧ xs.length < sizeLine ∧ Q .non (upd H l (.lst (xs ++ [y])))
theorem mt_append : MtM X "list.append" rAppend := by
  intro pins s σ H x vs v us Q I rx rv h
  obtain ⟨l, xs, y, rfl, rfl, hH, hz, q⟩ := h
  cases rx
  obtain ⟨u, rfl, ru⟩ := rv.one
  obtain ⟨z, its, n, r, hl, e⟩ := I.lstM hH
  refine call_meets F.slot_list_append ⟨_, e, rfl⟩ F.entry_list_append (F.args_list_append_2 _ _) (PySem.list_append l its.toArray n u (by rw [List.size_toArray]; omega)) ⟨e, ?_⟩
  refine ⟨.non, _, I.lset (its' := its ++ [u]) hH e (by simp) (r.append (.cons ru .nil)) ?_, rfl, q⟩
  rw [List.length_append, List.length_singleton]
  omega
def rExtend : V → List V → Hp → VK → Prop := fun x vs H Q => ∃ l b xs zs, x = .ref l ∧ vs = [.ref b] ∧ H l = some (.lst xs) ∧ H b = some (.lst zs) ∧ xs.length + zs.length ≤ sizeLine ∧ Q .non (upd H l (.lst (xs ++ zs)))
theorem mt_extend : MtM X "list.extend" rExtend := by
  intro pins s σ H x vs v us Q I rx rv h
  obtain ⟨l, b, xs, zs, rfl, rfl, hH, hB, hz, q⟩ := h
  cases rx
  obtain ⟨u, rfl, ru⟩ := rv.one
  cases ru
  obtain ⟨z, its, n, r, hl, e⟩ := I.lstM hH
  obtain ⟨z2, its2, n2, r2, hl2, e2⟩ := I.lstM hB
  have hsz : its.toArray.size + its2.toArray.size ≤ sizeLine := by rw [List.size_toArray, List.size_toArray]; omega
  have hlong : ¬ (!its.toArray.isEmpty && Builtin.List.listTooLong (its.toArray.size + its2.toArray.size)) = true := by
    rw [notLongL hsz, Bool.and_false]
    exact Bool.false_ne_true
  refine call_meets F.slot_list_extend ⟨_, e, rfl⟩ F.entry_list_extend (F.args_list_extend_2 _ _)
    (AutoSeq1.list_extend_list_list_0 l its.toArray n b its2.toArray n2 hlong (by rw [List.size_toArray]; omega) (by omega)) ⟨e, e2, ?_⟩
  refine ⟨.non, _, I.lset (its' := its ++ its2) hH e (by simp) (r.append r2) ?_, rfl, q⟩
  rw [List.length_append]
  omega
def rClear : V → List V → Hp → VK → Prop := fun x vs H Q => ∃ l xs, x = .ref l ∧ vs = [] ∧ H l = some (.lst xs) ∧ Q .non (upd H l (.lst []))
theorem mt_clear : MtM X "list.clear" rClear := by
  intro pins s σ H x vs v us Q I rx rv h
  obtain ⟨l, xs, rfl, rfl, hH, q⟩ := h
  cases rx
  have hus := rv.zero
  subst hus
  obtain ⟨z, its, n, r, hl, e⟩ := I.lstM hH
  refine call_meets F.slot_list_clear ⟨_, e, rfl⟩ F.entry_list_clear (F.args_list_clear_1 _) (AutoSeq1.list_clear_list_0 l its.toArray n (by rw [List.size_toArray]; omega)) ⟨e, ?_⟩
  exact ⟨.non, _, I.lset (its' := []) (ys := []) hH e rfl .nil (Nat.zero_le _), rfl, q⟩
def rCat : R2 := fun x y H Q => ∃ l b xs zs, x = .ref l ∧ y = .ref b ∧ H l = some (.lst xs) ∧ H b = some (.lst zs) ∧ xs.length + zs.length ≤ sizeLine ∧ ∀ p, H p = none → Q (.ref p) (upd H p (.lst (xs ++ zs)))
theorem op_cat : OpR X (binaryOp .Add) rCat := by
  intro pins s σ H x y v u Q I rx ry h
  obtain ⟨l, b, xs, zs, rfl, rfl, hH, hB, hz, q⟩ := h
  cases rx
  cases ry
  obtain ⟨z, its, n, r, hl, e⟩ := I.lstM hH
  obtain ⟨z2, its2, n2, r2, hl2, e2⟩ := I.lstM hB
  refine PySem.P.add_list e e2 ?_ (by rw [List.size_toArray, List.size_toArray]; omega)
  have ea : its.toArray ++ its2.toArray = (its ++ its2).toArray := by simp
  rw [ea]
  exact ⟨.ref _, _, I.lnew (t' := s.toks) (r.append r2) (by rw [List.length_append]; omega), rfl, q _ I.fresh⟩
def rRep : R2 := fun x y H Q => ∃ l k xs, x = .ref l ∧ y = .int k ∧ H l = some (.lst xs) ∧ -(2 ^ 63) ≤ k ∧ k < 2 ^ 63 ∧ xs.length * k.toNat ≤ sizeLine ∧
  ∀ p, H p = none → Q (.ref p) (upd H p (.lst (List.replicate k.toNat xs).flatten))
theorem len_rep {α : Type} (xs : List α) (k : Nat) : (List.replicate k xs).flatten.length = k * xs.length := by
  induction k with
  | zero => simp
  | succ k ih => rw [List.replicate_succ, List.flatten_cons, List.length_append, ih, Nat.succ_mul, Nat.add_comm]
theorem op_rep : OpR X (binaryOp .Mult) rRep := by
  intro pins s σ H x y v u Q I rx ry h
  obtain ⟨l, k, xs, rfl, rfl, hH, h1, h2, hz, q⟩ := h
  cases rx
  obtain ⟨t, rfl⟩ := ry
  obtain ⟨z, its, n, r, hl, e⟩ := I.lstM hH
  have hlen : its.toArray.size * k.toNat ≤ sizeLine := by rw [List.size_toArray, ← hl]; exact hz
  have hcap : ¬ its.toArray.size * k.toNat > (2 ^ 63 - 1) / 8 := by
    have : (sizeLine : Nat) ≤ (2 ^ 63 - 1) / 8 := by decide
    omega
  have hfit : ¬ (!Builtin.List.listFitsIndex k) = true := by
    rw [fitsIndex_both h1 h2]
    exact Bool.false_ne_true
  have hlong : ¬ Builtin.List.listTooLong (its.toArray.size * k.toNat) = true := by
    rw [notLongL hlen]
    exact Bool.false_ne_true
  have hnew : List.foldl (fun x1 x2 => x1 ++ x2) #[] (List.replicate (if its.toArray.isEmpty = true then 0 else k.toNat) its.toArray) = (List.replicate k.toNat its).flatten.toArray := by
    have f0 : ∀ m : Nat, List.foldl (fun x1 x2 => x1 ++ x2) #[] (List.replicate m its.toArray) = (List.replicate m its).flatten.toArray := fun m => by
      have := foldl_rep its m []
      rw [List.nil_append] at this
      exact this
    rw [f0]
    cases its with
    | nil => simp
    | cons a r' => rw [if_neg (by simp)]
  refine wpAny_binaryOp_repeat_ref (T := "list") (U := "int") (by decide) ⟨_, e, rfl⟩ (fun s' => typeIs_int s' k t) noFill_list_mul F.fills_int_mul F.slot_int_rmul repeat_list F.slot_int_index.lookup
    (call_meets F.slot_int_rmul (typeIs_int s k t) F.entry_int_rmul (F.args_int_rmul_2 _ _) (int___rmul___int_list k t l its.toArray n)
      ⟨e, rfl, ⟨_, e, rfl⟩, call_meets F.slot_list_mul ⟨_, e, rfl⟩ F.entry_list_mul (F.args_list_mul_2 _ _) (AutoListH.list___mul___list_int_3 l its.toArray n k t hfit hcap hlong) ⟨e, ?_⟩⟩)
  rw [hnew]
  exact ⟨.ref _, _, I.lnew (t' := s.toks) (r.rep k.toNat) (by rw [len_rep, Nat.mul_comm]; exact hz), rfl, q _ I.fresh⟩
end
section
variable {prog : Program} {w : World} {A : Around} {E : Value → Shared → Prop} {s : Shared}
end
section
variable {X : Cx}
end
end L2
namespace Att
open PySem PySem.W PySem.Calls PyProof.Rows
theorem ints_of_wellAll {P : Params} {h : Heap} : ∀ (ns : List Int) (vs : List Value), WellAll P h vs (ns.map WData.int) → IntsAre vs ns := by
  intro ns
  induction ns with
  | nil =>
    intro vs w
    rw [List.map_nil] at w
    cases w
    exact .nil
  | cons n ns ih =>
    intro vs w
    rw [List.map_cons] at w
    cases w with
    | cons a b =>
      cases a
      exact .cons _ _ (ih _ b)
theorem script_of {l : OpenLaw} {n : Nat} (hn : l.most = some n) {P : Params} {h : Heap} {args : List WData} {vals : List Value}
    (hpre : l.row.toRowW.claim.pre args = true) (hwl : WellAll P h vals args) :
    ∃ a vs ns, vals = [Value.ref a] ∧ args = [WData.list (ns.map WData.int)] ∧ h.get? a = some { cls := .type "list", data := .seq vs.toArray } ∧ IntsAre vs ns ∧ ns.length ≤ n := by
  have hsh : WShape.hasAll [] args [.list .int] = true := (pre_splitW hpre).1
  have hc : l.pre.holds [] { args := args } = true := (pre_splitW hpre).2
  obtain ⟨d, r, rfl, h1, h2⟩ := hasAllW_cons hsh
  obtain rfl := hasAllW_nil h2
  obtain ⟨xs, rfl, h3⟩ := hasW_list h1
  obtain ⟨ns, rfl⟩ := items_int h3
  have hlen : ns.length ≤ n := by
    unfold OpenLaw.pre at hc
    have h4 : (WTm.not (.lt (.lit (.int (n : Int))) (.len (.arg 0)))).holds [] { args := [.list (ns.map .int)] } = true := by
      have h4 := (holds_andW hc).1
      rw [hn] at h4
      exact h4
    have h5 := condW_of h4 (w_not (w_lt w_lit (w_len_list (w_arg rfl))))
    rw [List.length_map] at h5
    refine Nat.le_of_not_lt fun q => ?_
    have q' : (n : Int) < ((ns.length : Nat) : Int) := by omega
    first
      | (rw [decide_eq_true q'] at h5; exact absurd h5 (by decide))
      | (simp at h5; omega)
  cases hwl with
  | cons w1 w2 =>
    cases w2
    cases w1 with
    | list ho hall => exact ⟨_, _, ns, rfl, rfl, ho, ints_of_wellAll ns _ hall, hlen⟩
theorem post_true (l : OpenLaw) (args : List WData) : l.row.toRowW.claim.post args (.bool true) args = true :=
  postW_of (r := l.row.toRowW) (X := (true == true))
    (show WShape.has [] (.bool true) .bool = true by first | rfl | decide | simp [WShape.has, WShape.arms, WShape.armsAll])
    (show (WTm.eq .res (.lit (.bool true))).value [] { args := args, res := some (.bool true), after := args } = some (.bool (true == true)) from w_eq_bool (w_res rfl) w_lit) rfl
theorem attach_call {l : OpenLaw} {n : Nat} {q : Program} {loose : List Str} {XP : (Str → Option Value) → Heap → Prop} {YP : World → Heap → Prop} {d : DefRec}
    (hn : l.most = some n) (hdf : d.params.defaults = [])
    (call : ∀ (w : World) (s₀ s₁ : Shared) (mg mb : Str → Option Value) (fa : Addr) (o : Obj) (pm cd doc : Value) (a : Addr) (vs : List Value) (ns : List Int),
      Ground q loose [] XP w s₀ mg mb s₁.heap → YP w s₁.heap →
      s₁.heap.get? fa = some o → o.data = .func (docDef d.name d.params d.body d.scope pm cd doc) → s₁.heap.CodeRec cd d.name → mg d.name = some (.ref fa) →
      s₁.heap.get? a = some { cls := .type "list", data := .seq vs.toArray } → IntsAre vs ns → ns.length ≤ n → s₁.gens = #[] →
      codeAny (model l.prog w) callerA (.call (.ref fa) ⟨[.ref a], []⟩) (fun r s' => r = .ok (.ret (.bool true)) ∧ OldK s₁.heap s'.heap ∧ s'.os = s₁.os ∧ AllBare s'.gens) s₁) :
    WalkO q loose XP YP l.row.toRowW d [] (fun f vs => PySem.call f vs) := by
  intro w s₀ s₁ mg mb G Y fa o pm cd doc dV kV ho hd hcd hD hmg hg args vals as hpre hlay hrd hwl hlo
  obtain rfl : dV = .none := Dflts.none hD hdf
  obtain rfl : kV = .none := Dflts.noKw hD
  obtain ⟨a, vs, ns, rfl, rfl, hobj, hints, hlen⟩ := script_of hn hpre hwl
  refine enter_call (codeAny_mono (call w s₀ s₁ mg mb fa o pm cd doc a vs ns G Y ho (fd_plain hd) hcd hmg hobj hints hlen hg) fun r s' hq => ?_)
  obtain ⟨rfl, h2, h3, h4⟩ := hq
  exact ⟨.inl ⟨.bool true, .bool true, [], rfl, fun _ => rfl, .bool true, post_true l _, fun _ => ⟨List.Pairwise.nil, fun _ hm => (nomatch hm)⟩⟩, h2, h3, h4⟩
section
variable {prog : Program} {w : World} {A : Around} {E : Value → Shared → Prop} {s : Shared} {K : Frag}
end
end Att
namespace L2
open PySem PySem.Spec PyProof.Rows
theorem vals_ints : ∀ {vs : List Value} {ns : List Int}, IntsAre vs ns → Vals (ns.map V.int) vs
  | _, _, .nil => .nil
  | _, _, .cons n t h => .cons ⟨t, rfl⟩ (vals_ints h)
def Only (H : Hp) : Prop := ∀ b, H b = none ∨ ∃ o xs, H b = some (.frz o (.lst xs))
theorem law_call {P : Program} {w : World} {K : PySem.W.Frag} {mg mb : Str → Option Value} {CX : CXT} {k : Nat} {fa a : Addr} {fd : FuncData} {x : Str} {sp : Sp} {s₁ : Shared} {vs : List Value} {ns : List Int}
    (KX : K.In s₁.heap) (hns : s₁.heap.Ns mainGlobals mg) (hb : s₁.heap.Ns builtinsNs mb) (hbb : ∀ x : Str, x ≠ "__name__" → mb x = bootBuiltins x) (hlim : s₁.heap.NoLimit) (hg : s₁.gens = #[])
    (ha : s₁.heap.get? a = some { cls := .type "list", data := .seq vs.toArray }) (hi : IntsAre vs ns) (hl : ns.length ≤ sizeLine) (hr : Room k callerA)
    (F : ∀ base : Heap, K.In base → base.Ns mainGlobals mg → FnOk P w K mg base CX k fa fd [x] sp) (hbind : ∀ (s : Shared) (u : Value), BindsTo s fd ⟨[u], []⟩ [(x, u)])
    (hsp : ∀ H : Hp, Only H → SqL K H a (ns.map V.int) → sp [.ref a] H (fun v _ => v = .bl true) fun _ _ _ => False)
    (hCX : ∀ H e s', CX [] H s₁ (fun _ _ _ => False) e s' → False) :
    codeAny (model P w) callerA (.call (.ref fa) ⟨[.ref a], []⟩) (fun r s' => r = .ok (.ret (.bool true)) ∧ OldK s₁.heap s'.heap ∧ s'.os = s₁.os ∧ AllBare s'.gens) s₁ := by
  have rv := vals_ints hi
  have lenV := hi.length
  -- from an abstract heap in which nothing but the script may be tracked
  have core : ∀ H : Hp, Only H → SqL K H a (ns.map V.int) → HOk P w H s₁.heap → (∀ b, H b ≠ none → b = a) → (H a ≠ none → K.lookup a = none) →
      codeAny (model P w) callerA (.call (.ref fa) ⟨[.ref a], []⟩) (fun r s' => r = .ok (.ret (.bool true)) ∧ OldK s₁.heap s'.heap ∧ s'.os = s₁.os ∧ AllBare s'.gens) s₁ := by
    intro H hO hS hok hA hK
    have base_of : ∀ {b : Addr} {o : Obj}, s₁.heap.get? b = some o → H b = none → (hidT s₁.heap H).get? b = some o := fun e n => hidT_get e n
    have noA : ∀ {b : Addr} {o : Obj} {es : Array DictEntry} {ep : Nat}, s₁.heap.get? b = some o → o.data = .dict es ep → H b = none := fun {b o es ep} e d => by
      cases q : H b with
      | none => rfl
      | some u =>
        have e' : b = a := hA b (by rw [q]; simp)
        subst e'
        rw [ha] at e; cases e
        have d' : Data.seq vs.toArray _ = Data.dict es ep := d
        cases d'
    have nsK : ∀ {b : Addr} {m : Str → Option Value}, s₁.heap.Ns b m → (hidT s₁.heap H).Ns b m := fun {b m} ⟨o, es, ep, e, d, r⟩ => ⟨o, es, ep, base_of e (noA e d), d, r⟩
    have hKb : K.In (hidT s₁.heap H) := fun b o e => base_of (KX b o e) (by
      cases q : H b with
      | none => rfl
      | some u =>
        have e' : b = a := hA b (by rw [q]; simp)
        subst e'
        rw [hK (by rw [q]; simp)] at e; cases e)
    have hM : Mod K mg (hidT s₁.heap H) := ⟨hKb, nsK hns, ⟨mb, nsK hb, hbb⟩, let ⟨mc, h1, h2⟩ := hlim; ⟨mc, nsK h1, h2⟩⟩
    have e0 : Env0 P w K mg (hidT s₁.heap H) callerA [] s₁ H := ⟨rfl, hM, fun b o e => of_hidT e, Nat.le_of_eq (hidT_size _ _), trivial, fun b hb => absurd (show b ∈ ([] : List Addr) from hb) (by simp), hok, .of_eq hg⟩
    refine codeAny_mono ((F _ hKb (nsK hns)).run callerA [] s₁ H ⟨[.ref a], []⟩ [.ref a] [.ref a] _ _ hr e0 (hbind s₁ (.ref a)) (.cons rfl .nil) (hsp H hO hS)) fun r s' h => ?_
    cases r with
    | error e => exact (hCX H e s' h).elim
    | ok fl =>
      cases fl with
      | next => exact False.elim h
      | brk => exact False.elim h
      | cont => exact False.elim h
      | ret u =>
        obtain ⟨v, H', os, bare, un, hok', r', q⟩ := h
        have q' : v = .bl true := q
        subst q'
        obtain rfl : u = Value.bool true := r'
        refine ⟨rfl, OldK.of_keep fun b o e => ?_, os, bare⟩
        cases q : H b with
        | none => exact un.keep b o e q (by intro z; exact absurd (show b ∈ ([] : List Addr) from z) (by simp)) (by simp)
        | some u =>
          rcases hO b with z | ⟨ob, xs, z⟩
          · rw [q] at z; cases z
          · have z2 := un.frzs b ob _ z
            obtain ⟨e1, _⟩ := hok b _ z
            obtain ⟨e2, _⟩ := hok' b _ z2
            rw [e] at e1; cases e1
            exact e2
  cases hk : K.lookup a with
  | some o =>
    -- the script is one of the module's own objects
    have e := KX a o hk
    rw [ha] at e
    cases e
    refine core (fun _ => none) (fun _ => .inl rfl) (.inr ⟨_, vs.toArray, _, hk, rfl, rfl, rfl, by rw [List.size_toArray, lenV]; exact hl, by simpa using rv⟩) (fun b u z => by have z' : (none : Option HO) = some u := z; cases z') (fun b z => absurd rfl z) fun z => absurd rfl z
  | none =>
    refine core (fun b => if b = a then some (.frz { cls := .type "list", data := .seq vs.toArray } (.lst (ns.map V.int))) else none) (fun b => ?_) (.inl (.inr ⟨{ cls := .type "list", data := .seq vs.toArray }, if_pos rfl⟩)) (fun b u z => ?_) (fun b z => ?_) fun _ => hk
    · by_cases hb : b = a
      · exact .inr ⟨_, _, if_pos hb⟩
      · exact .inl (if_neg hb)
    · by_cases hb : b = a
      · have z' := (if_pos hb).symm.trans z
        cases z'
        subst hb
        exact ⟨ha, by rw [List.length_map]; exact hl, vs, _, rv, ha⟩
      · have z' := (if_neg hb).symm.trans z
        cases z'
    · by_cases hb : b = a
      · exact hb
      · exact absurd (if_neg hb) z
end L2
namespace L2
open PySem PySem.Spec PyProof.Rows
theorem walk_of {l : PySem.W.OpenLaw} {n k : Nat} {q : Program} {loose : List Str} {XP : (Str → Option Value) → Heap → Prop} {YP : World → Heap → Prop} {d : DefRec} {K : Params → PySem.W.Frag} {CX : World → CXT} {sp : World → Sp} {x : Str}
    (hn : l.most = some n) (hn2 : n ≤ sizeLine) (hdf : d.params.defaults = []) (hr : Room k callerA)
    (hY : ∀ (w : World) (h : Heap), YP w h → (K w.params).In h)
    (F : ∀ (w : World) (mg : Str → Option Value) (fa : Addr) (h : Heap), (K w.params).In h → h.Ns mainGlobals mg → mg d.name = some (.ref fa) →
      ∃ fd : FuncData, (∀ (s : Shared) (u : Value), BindsTo s fd ⟨[u], []⟩ [(x, u)]) ∧
        ∀ base : Heap, (K w.params).In base → base.Ns mainGlobals mg → FnOk l.prog w (K w.params) mg base (CX w) k fa fd [x] (sp w))
    (hsp : ∀ (w : World) (H : Hp) (a : Addr) (ns : List Int), ns.length ≤ n → Only H → SqL (K w.params) H a (ns.map V.int) → sp w [.ref a] H (fun v _ => v = .bl true) fun _ _ _ => False)
    (hCX : ∀ (w : World) (H : Hp) (s : Shared) (e : Value) (s' : Shared), CX w [] H s (fun _ _ _ => False) e s' → False) :
    PySem.W.WalkO q loose XP YP l.row.toRowW d [] (fun f vs => PySem.call f vs) := by
  refine Att.attach_call hn hdf fun w s₀ s₁ mg mb fa o pm cd doc a vs ns G Y ho hd hcd hmg hobj hints hlen hg => ?_
  have KX := hY w _ Y
  obtain ⟨fd, hb, hF⟩ := F w mg fa _ KX G.T.g hmg
  exact law_call KX G.T.g G.T.b G.T.builtins G.T.nolimit hg hobj hints (Nat.le_trans hlen hn2) hr hF hb (fun H hO hS => hsp w H a ns hlen hO hS) fun H e s' => hCX w H s₁ e s'
end L2
namespace L2
open PySem PySem.Spec PyProof.Rows
def defArgs (s : Stmt) : Arguments := match s with
  | .FunctionDef _ a _ _ _ _ _ _ _ _ => a
  | _ => { posonlyargs := [], args := [], vararg := none, kwonlyargs := [], kw_defaults := [], kwarg := none, defaults := [] }
def defBody (s : Stmt) : List Stmt := match s with
  | .FunctionDef _ _ b _ _ _ _ _ _ _ => b
  | _ => []
def defScope (s : Stmt) : Scope := match s with
  | .FunctionDef _ _ _ _ _ _ sc _ _ _ => sc
  | _ => { kind := .function, names := [], isGenerator := false, isCoroutine := false }
abbrev CX0 : CXT := fun _ _ _ _ _ _ => False
structure Fun (K : PySem.W.Frag) (x qual : Str) (st : Stmt) (f : Addr) (fd : FuncData) : Prop where
  ex : ∃ (oc : Value) (od : Option Addr) (kV doc pm : Value) (an : Option Addr) (cdv ct : Value) (osl : Array (Option Value)),
    fd = PySem.W.fnOf x qual (defArgs st) (defBody st) (defScope st) .none kV doc pm an cdv ct ∧ K.lookup f = some ⟨oc, od, .func fd, osl⟩ ∧ PySem.W.codeIn K cdv qual = true
  kp : PySem.W.keepIn K (.ref f) = true
section
variable {P : Program} {w : World} {K : PySem.W.Frag} {mg : Str → Option Value} {base : Heap}
theorem Fun.ok {x qual : Str} {st : Stmt} {f : Addr} {fd : FuncData} {N ps : List Str} {k : Nat} {sp : Sp} (F : Fun K x qual st f fd) (S : FnScope N ps (defScope st)) (len : ∀ vs H Q E, sp vs H Q E → vs.length = ps.length)
    (hbody : ∀ (cdv : Value) (A : Around) (outer : List Env) (s : Shared) (H : Hp) (vs : List V) (Q : VK) (E : XK), Room k (A.deeper (envOfC qual (defScope st) s.heap.objs.size f cdv)) → sp vs H Q E →
      ∃ t, PSs (cxOf CX0 P w K mg base N qual (defScope st) f cdv A outer s H E).nox (defBody st) t ∧ t { nx := fun _ H' => Q .non H', rt := Q } (start N vs) H) : FnOk P w K mg base CX0 (k + 1) f fd ps sp := by
  obtain ⟨oc, od, kV, doc, pm, an, cdv, ct, osl, rfl, lk, hcd⟩ := F.ex
  refine fn_of lk hcd S len fun A outer s H vs Q E hr hsp => ?_
  obtain ⟨t, h, q⟩ := hbody cdv A outer s H vs Q E hr hsp
  exact ⟨t, h.nox, q⟩
theorem Fun.binds {x qual : Str} {st : Stmt} {f : Addr} {fd : FuncData} {ps : List Str} (F : Fun K x qual st f fd)
    (h : ∀ (kV doc pm : Value) (an : Option Addr) (cdv ct : Value) (us : List Value), us.length = ps.length → bindArgs (PySem.W.fnOf x qual (defArgs st) (defBody st) (defScope st) .none kV doc pm an cdv ct) ⟨us, []⟩ = pure (ps.zip us)) : Binds K fd ps [] := by
  obtain ⟨oc, od, kV, doc, pm, an, cdv, ct, osl, rfl, lk, hcd⟩ := F.ex
  exact .all (h kV doc pm an cdv ct)
theorem fun_mk {x qual : Str} {st : Stmt} {f : Addr} {oc : Value} {od an : Option Addr} {osl : Array (Option Value)} {kV doc pm cdv ct : Value} (l : K.lookup f = some ⟨oc, od, .func (PySem.W.fnOf x qual (defArgs st) (defBody st) (defScope st) .none kV doc pm an cdv ct), osl⟩)
    (c : PySem.W.codeIn K cdv qual = true) (k : PySem.W.keepIn K (.ref f) = true) : Fun K x qual st f (PySem.W.fnOf x qual (defArgs st) (defBody st) (defScope st) .none kV doc pm an cdv ct) := ⟨⟨oc, od, kV, doc, pm, an, cdv, ct, osl, rfl, l, c⟩, k⟩
end
theorem hu_of {A : Around} {k : Nat} (hr : Room k A) : A.units + 1 < cLine := Nat.lt_of_le_of_lt (Nat.add_le_add_left (by decide : 1 ≤ 64) _) hr.units
section
variable {X : Cx}
end
theorem iteF {A B : Prop} (h : B) : if false = true then A else B := by
  rw [if_neg Bool.false_ne_true]
  exact h
theorem iteT {A B : Prop} (h : A) : if true = true then A else B := by
  rw [if_pos rfl]
  exact h
def Same (H H' : Hp) : Prop := ∀ b o, H b = some o → H' b = some o
theorem Same.refl (H : Hp) : Same H H := fun _ _ h => h
theorem Same.trans {H H1 H2 : Hp} (a : Same H H1) (b : Same H1 H2) : Same H H2 := fun c o h => b c o (a c o h)
theorem Same.free {H H' : Hp} (e : Same H H') {l : Addr} (h : H' l = Option.none) : H l = Option.none := by
  cases q : H l with
  | none => rfl
  | some o =>
    rw [e l o q] at h
    cases h
theorem Same.seq {K : PySem.W.Frag} {H H' : Hp} {a : Addr} {xs : List V} (e : Same H H') (h : SqL K H a xs) : SqL K H' a xs := by
  rcases h with (h | ⟨o, h⟩) | h
  · exact .inl (.inl (e _ _ h))
  · exact .inl (.inr ⟨o, e _ _ h⟩)
  · exact .inr h
end L2
namespace L2
open PySem PySem.Spec PyProof.Rows
section
variable {κ : Type} [DecidableEq κ]
def valV (kvs : List (κ × V)) (k : κ) : Option V := (kvs.find? fun kv => decide (kv.1 = k)).map (·.2)
def putK (kvs : List (κ × V)) (k : κ) (v : V) : List (κ × V) :=
  if (kvs.any fun kv => decide (kv.1 = k)) = true then kvs.map (fun kv => if kv.1 = k then (kv.1, v) else kv) else kvs ++ [(k, v)]
def dropK (kvs : List (κ × V)) (k : κ) : List (κ × V) := kvs.filter fun kv => decide (kv.1 ≠ k)
theorem valV_pos {p : κ × V} {r : List (κ × V)} {k : κ} (e : p.1 = k) : valV (p :: r) k = some p.2 := by simp [valV, List.find?_cons, e]
theorem valV_neg {p : κ × V} {r : List (κ × V)} {k : κ} (e : ¬ p.1 = k) : valV (p :: r) k = valV r k := by simp [valV, List.find?_cons, e]
theorem valV_any (k : κ) : ∀ kvs : List (κ × V), (kvs.any fun kv => decide (kv.1 = k)) = (valV kvs k).isSome
  | [] => rfl
  | p :: r => by
    rw [List.any_cons]
    by_cases e : p.1 = k
    · simp only [valV_pos e, decide_eq_true e, Bool.true_or, Option.isSome_some]
    · rw [valV_neg e, decide_eq_false e, Bool.false_or]; exact valV_any k r
theorem length_putK (kvs : List (κ × V)) (k : κ) (v : V) : (putK kvs k v).length ≤ kvs.length + 1 := by
  unfold putK
  split
  · rw [List.length_map]; omega
  · rw [List.length_append, List.length_cons, List.length_nil]; omega
theorem RelO.isSome_eq {o : Option V} {u : Option Value} (r : RelO o u) : o.isSome = u.isSome := by
  cases o with
  | none => cases u with
    | none => rfl
    | some _ => exact (show False from r).elim
  | some _ => cases u with
    | none => exact (show False from r).elim
    | some _ => rfl
theorem RelO.getD {o : Option V} {u : Option Value} {d : V} {d' : Value} (r : RelO o u) (rd : RelV d d') : RelV (o.getD d) (u.getD d') := by
  cases o with
  | none => cases u with
    | none => exact rd
    | some _ => exact (show False from r).elim
  | some _ => cases u with
    | none => exact (show False from r).elim
    | some _ => exact r
theorem KV.val {kvs : List (κ × V)} {vs : List (κ × Value)} (r : KV kvs vs) (k : κ) : RelO (valV kvs k) (valueAt vs k) := by
  unfold KV at r
  induction r with
  | nil => exact True.intro
  | @cons p q ps qs h t ih =>
    obtain ⟨h1, h2⟩ := h
    by_cases e : p.1 = k
    · have e' : q.1 = k := h1.symm.trans e
      have b : valueAt (q :: qs) k = some q.2 := by simp [valueAt, List.find?_cons, e']
      rw [valV_pos e, b]; exact h2
    · have e' : ¬ q.1 = k := fun z => e (h1.trans z)
      have b : valueAt (q :: qs) k = valueAt qs k := by simp [valueAt, List.find?_cons, e']
      rw [valV_neg e, b]; exact ih
theorem KV.any {kvs : List (κ × V)} {vs : List (κ × Value)} (r : KV kvs vs) (k : κ) : (kvs.any fun kv => decide (kv.1 = k)) = vs.any fun kv => decide (kv.1 = k) := by
  unfold KV at r
  induction r with
  | nil => rfl
  | cons h t ih => rw [List.any_cons, List.any_cons, ih, h.1]
theorem KV.repl {kvs : List (κ × V)} {vs : List (κ × Value)} (r : KV kvs vs) (k : κ) {y : V} {u : Value} (ry : RelV y u) :
    KV (kvs.map fun kv => if kv.1 = k then (kv.1, y) else kv) (vs.map fun kv => if kv.1 = k then (kv.1, u) else kv) := by
  unfold KV at r ⊢
  induction r with
  | nil => exact .nil
  | @cons p q ps qs h t ih =>
    rw [List.map_cons, List.map_cons]
    refine .cons ?_ ih
    obtain ⟨h1, h2⟩ := h
    by_cases e : p.1 = k
    · rw [if_pos e, if_pos (h1.symm.trans e)]; exact ⟨h1, ry⟩
    · rw [if_neg e, if_neg (fun z => e (h1.trans z))]; exact ⟨h1, h2⟩
theorem KV.put {kvs : List (κ × V)} {vs : List (κ × Value)} (r : KV kvs vs) (k : κ) {y : V} {u : Value} (ry : RelV y u) : KV (putK kvs k y) (stored vs k u) := by
  unfold putK stored
  rw [r.any k]
  by_cases e : (vs.any fun kv => decide (kv.1 = k)) = true
  · rw [if_pos e, if_pos e]; exact r.repl k ry
  · rw [if_neg e, if_neg e]; exact Paired.snoc r ⟨rfl, ry⟩
theorem KV.drop {kvs : List (κ × V)} {vs : List (κ × Value)} (r : KV kvs vs) (k : κ) : KV (dropK kvs k) (without vs k) := by
  unfold KV at r ⊢
  unfold dropK without
  induction r with
  | nil => exact .nil
  | @cons p q ps qs h t ih =>
    obtain ⟨h1, h2⟩ := h
    rw [List.filter_cons, List.filter_cons]
    by_cases e : p.1 = k
    · have a : ¬ decide (p.1 ≠ k) = true := by simp [e]
      have b : ¬ decide (q.1 ≠ k) = true := by simp [h1.symm.trans e]
      rw [if_neg a, if_neg b]; exact ih
    · have e' : ¬ q.1 = k := fun z => e (h1.trans z)
      have a : decide (p.1 ≠ k) = true := by simp [e]
      have b : decide (q.1 ≠ k) = true := by simp [e']
      rw [if_pos a, if_pos b]; exact .cons ⟨h1, h2⟩ ih
theorem KV.length {kvs : List (κ × V)} {vs : List (κ × Value)} (r : KV kvs vs) : kvs.length = vs.length := Paired.length r
end
theorem kV_is {P : Program} {w : World} {k : Key} {u : Value} (r : RelV (kV k) u) : (mixKind P w).is k u = true := by
  cases k with
  | inl i => obtain ⟨t, e⟩ := (show ∃ t, u = Value.int i t from r); subst e; exact mixKind_int P w i t
  | inr x => obtain ⟨t, e⟩ := (show ∃ t, u = Value.str x t from r); subst e; exact mixKind_str P w x t
theorem items_are {P : Program} {w : World} : ∀ {ks : List Key} {us : List Value}, Vals (ks.map kV) us → ItemsAre (mixKind P w) ks us
  | [], _, r => by rw [List.map_nil] at r; cases r; exact .nil
  | k :: ks, _, r => by
    rw [List.map_cons] at r
    cases r with
    | cons h t => exact .cons (kV_is h) (items_are t)
abbrev KT (H : Hp) : List (List Key × V) → List (List Key × Addr × Value) → Prop := Paired fun p q => p.1 = q.1 ∧ H q.2.1 = some (.tup (p.1.map kV)) ∧ RelV p.2 q.2.2
theorem KT.val {H : Hp} {kvs : List (List Key × V)} {xs : List (List Key × Addr × Value)} (r : KT H kvs xs) (k : List Key) : RelO (valV kvs k) ((atKey xs k).map (·.2)) := by
  induction r with
  | nil => exact True.intro
  | @cons p q ps qs h t ih =>
    obtain ⟨h1, _, h2⟩ := h
    by_cases e : p.1 = k
    · have e' : q.1 = k := h1.symm.trans e
      have b : atKey (q :: qs) k = some q.2 := by simp [atKey, List.find?_cons, e']
      rw [valV_pos e, b]; exact h2
    · have e' : ¬ q.1 = k := fun z => e (h1.trans z)
      have b : atKey (q :: qs) k = atKey qs k := by simp [atKey, List.find?_cons, e']
      rw [valV_neg e, b]; exact ih
theorem KT.repl {H : Hp} {kvs : List (List Key × V)} {xs : List (List Key × Addr × Value)} (r : KT H kvs xs) (k : List Key) {y : V} {u : Value} (ry : RelV y u) :
    KT H (kvs.map fun kv => if kv.1 = k then (kv.1, y) else kv) (xs.map (putAt k u)) := by
  induction r with
  | nil => exact .nil
  | @cons p q ps qs h t ih =>
    rw [List.map_cons, List.map_cons]
    refine .cons ?_ ih
    obtain ⟨h1, h2, h3⟩ := h
    unfold putAt
    by_cases e : p.1 = k
    · rw [if_pos e, if_pos (h1.symm.trans e)]; exact ⟨h1, h2, ry⟩
    · rw [if_neg e, if_neg (fun z => e (h1.trans z))]; exact ⟨h1, h2, h3⟩
theorem KT.put {H : Hp} {kvs : List (List Key × V)} {xs : List (List Key × Addr × Value)} (r : KT H kvs xs) (k : List Key) {b : Addr} {y : V} {u : Value} (hb : H b = some (.tup (k.map kV))) (ry : RelV y u) :
    KT H (putK kvs k y) (storedH xs k b u) := by
  have e : (kvs.any fun kv => decide (kv.1 = k)) = (atKey xs k).isSome := by
    rw [valV_any, (r.val k).isSome_eq, Option.isSome_map]
  unfold putK storedH
  rw [e]
  by_cases q : (atKey xs k).isSome = true
  · rw [if_pos q, if_pos q]; exact r.repl k ry
  · rw [if_neg q, if_neg q]; exact Paired.snoc r ⟨rfl, hb, ry⟩
theorem KT.keeps {H H' : Hp} {kvs : List (List Key × V)} {xs : List (List Key × Addr × Value)} (r : KT H kvs xs) (ht : ∀ b ys, H b = some (.tup ys) → H' b = some (.tup ys)) : KT H' kvs xs :=
  Paired.mapP r fun _ _ z => ⟨z.1, ht _ _ z.2.1, z.2.2⟩
section
variable {P : Program} {w : World} {H : Hp} {h : Heap} {a : Addr}
theorem rd_of {u : HO} (ok : HOk P w H h) (e : Rd H a u) : ObjOk P w H h a u := e.ok ok
theorem dk_rd {kvs : List (Key × V)} (ok : HOk P w H h) (e : Rd H a (.dK kvs)) : kvs.length ≤ sizeLine ∧ (a == sysModules) = false ∧ ∃ vs, KV kvs vs ∧ h.DictOf (mixKind P w) a vs :=
  show ObjOk P w H h a (.dK kvs) from rd_of ok e
theorem dk_of {kvs : List (Key × V)} (ok : HOk P w H h) (e : H a = some (.dK kvs)) : kvs.length ≤ sizeLine ∧ (a == sysModules) = false ∧ ∃ vs, KV kvs vs ∧ h.DictOf (mixKind P w) a vs := dk_rd ok (.inl e)
theorem key_of {ks : List Key} (ok : HOk P w H h) (e : H a = some (.tup (ks.map kV))) : (tupleKind (mixKind P w)).is h ks a := by
  obtain ⟨_, its, r, o, h1, h2, n, h3⟩ := (show ObjOk P w H h a (.tup (ks.map kV)) from ok a _ e)
  exact ⟨o, its.toArray, n, h1, h2, h3, by simpa using items_are r⟩
theorem dt_rd {kvs : List (List Key × V)} (ok : HOk P w H h) (e : Rd H a (.dT kvs)) : kvs.length ≤ sizeLine ∧ (a == sysModules) = false ∧
    ∃ xs, KT H kvs xs ∧ h.DictOfH (tupleKind (mixKind P w)) a xs := by
  obtain ⟨z, y, xs, r, o, es, ep, h1, h2, h3, h4, h5⟩ := (show ObjOk P w H h a (.dT kvs) from rd_of ok e)
  refine ⟨z, y, xs, r, o, es, ep, h1, h2, h3, h4, fun x hx => ?_, h5⟩
  have all : ∀ {l : List (List Key × V)} {m : List (List Key × Addr × Value)}, KT H l m → ∀ x ∈ m, (tupleKind (mixKind P w)).is h x.1 x.2.1 := by
    intro l m q
    induction q with
    | nil => intro x hx; exact nomatch hx
    | @cons p q ps qs hq t ih =>
      intro x hx
      rcases List.mem_cons.mp hx with e | hx
      · subst e
        exact key_of ok (by rw [← hq.1]; exact hq.2.1)
      · exact ih x hx
  exact all r x hx
theorem dt_of {kvs : List (List Key × V)} (ok : HOk P w H h) (e : H a = some (.dT kvs)) : kvs.length ≤ sizeLine ∧ (a == sysModules) = false ∧
    ∃ xs, KT H kvs xs ∧ h.DictOfH (tupleKind (mixKind P w)) a xs := dt_rd ok (.inl e)
end
def DGet (H : Hp) (a : Addr) (y : V) (r : Option V) : Prop :=
  (∃ kvs k, Rd H a (.dK kvs) ∧ y = kV k ∧ r = valV kvs k) ∨ ∃ kvs k b, Rd H a (.dT kvs) ∧ y = .ref b ∧ H b = some (.tup (k.map kV)) ∧ r = valV kvs k
def DPut (H : Hp) (a : Addr) (y v : V) (H' : Hp) : Prop :=
  (∃ kvs k, H a = some (.dK kvs) ∧ y = kV k ∧ kvs.length < sizeLine ∧ H' = upd H a (.dK (putK kvs k v))) ∨
  ∃ kvs k b, H a = some (.dT kvs) ∧ y = .ref b ∧ H b = some (.tup (k.map kV)) ∧ kvs.length < sizeLine ∧ H' = upd H a (.dT (putK kvs k v))
theorem DGet.k {H : Hp} {a : Addr} {kvs : List (Key × V)} {k : Key} (e : H a = some (.dK kvs)) : DGet H a (kV k) (valV kvs k) := .inl ⟨kvs, k, .inl e, rfl, rfl⟩
theorem DGet.t {H : Hp} {a b : Addr} {kvs : List (List Key × V)} {k : List Key} (e : H a = some (.dT kvs)) (eb : H b = some (.tup (k.map kV))) : DGet H a (.ref b) (valV kvs k) := .inr ⟨kvs, k, b, .inl e, rfl, eb, rfl⟩
theorem DPut.k {H : Hp} {a : Addr} {kvs : List (Key × V)} {k : Key} {v : V} (e : H a = some (.dK kvs)) (hl : kvs.length < sizeLine) : DPut H a (kV k) v (upd H a (.dK (putK kvs k v))) := .inl ⟨kvs, k, e, rfl, hl, rfl⟩
theorem DPut.t {H : Hp} {a b : Addr} {kvs : List (List Key × V)} {k : List Key} {v : V} (e : H a = some (.dT kvs)) (eb : H b = some (.tup (k.map kV))) (hl : kvs.length < sizeLine) :
    DPut H a (.ref b) v (upd H a (.dT (putK kvs k v))) := .inr ⟨kvs, k, b, e, rfl, eb, hl, rfl⟩
section
variable {X : Cx} {pins : List (Addr × Obj)} {σ : St} {H : Hp} {s : Shared} {a : Addr} {y v : V} {u r : Value} {o : Option V} {A : Around} {E : Value → Shared → Prop}
theorem Inv.big (I : Inv X pins σ H s) : sysModules < s.heap.objs.size := by
  have h : mainGlobals < s.heap.objs.size := (I.mod.glob.keeps I.bk).lt
  exact Nat.lt_trans (by decide) h
theorem d_getItem {Q : Value → Shared → Prop} (hu : A.units + 1 < cLine) (I : Inv X pins σ H s) (g : DGet H a y (some v)) (ry : RelV y u) (h : ∀ w' s', Inv X pins σ H s' → RelV v w' → Q w' s') :
    wpAny (model X.prog X.w) A (getItem (.ref a) u) Q E s := by
  rcases g with ⟨kvs, k, e, ey, l⟩ | ⟨kvs, k, b, e, ey, eb, l⟩
  · subst ey
    obtain ⟨z, hd, vs, rel, dd⟩ := dk_rd I.hok e
    obtain ⟨w', hw, rw'⟩ := RelO.some_of (v := v) (o := valueAt vs k) (by rw [l]; exact rel.val k)
    exact wpAny_getItem_of (kV_is ry) dd.mapOf hw (h w' _ (I.tok _) rw')
  · subst ey
    cases (show u = Value.ref b from ry)
    obtain ⟨z, hd, xs, rel, dd⟩ := dt_rd I.hok e
    obtain ⟨w', hw, rw'⟩ := RelO.some_of (v := v) (o := (atKey xs k).map (·.2)) (by rw [l]; exact rel.val k)
    obtain ⟨p, hp, hp2⟩ := Option.map_eq_some_iff.mp hw
    refine wpAny_getItem_heap (tupleKind_room_in1 hu) (key_of I.hok eb) dd hp ?_
    rw [hp2]
    exact h w' _ (I.tok _) rw'
theorem d_in {Q : Value → Shared → Prop} (hu : A.units + 1 < cLine) (I : Inv X pins σ H s) (g : DGet H a y o) (ry : RelV y u) (h : ∀ s', Inv X pins σ H s' → Q (.bool o.isSome) s') :
    wpAny (model X.prog X.w) A (compareOp .In u (.ref a)) Q E s := by
  rcases g with ⟨kvs, k, e, ey, l⟩ | ⟨kvs, k, b, e, ey, eb, l⟩
  · subst ey
    obtain ⟨z, hd, vs, rel, dd⟩ := dk_rd I.hok e
    refine wpAny_in_of (kV_is ry) hd dd.mapOf ?_
    rw [← (rel.val k).isSome_eq, ← l]
    exact h _ (I.tok _)
  · subst ey
    cases (show u = Value.ref b from ry)
    obtain ⟨z, hd, xs, rel, dd⟩ := dt_rd I.hok e
    refine wpAny_in_heap (tupleKind_room_in1 hu) (key_of I.hok eb) hd dd ?_
    have q := (rel.val k).isSome_eq
    rw [Option.isSome_map] at q
    rw [← q, ← l]
    exact h _ (I.tok _)
theorem d_notIn {Q : Value → Shared → Prop} (hu : A.units + 1 < cLine) (I : Inv X pins σ H s) (g : DGet H a y o) (ry : RelV y u) (h : ∀ s', Inv X pins σ H s' → Q (.bool (!o.isSome)) s') :
    wpAny (model X.prog X.w) A (compareOp .NotIn u (.ref a)) Q E s := by
  rcases g with ⟨kvs, k, e, ey, l⟩ | ⟨kvs, k, b, e, ey, eb, l⟩
  · subst ey
    obtain ⟨z, hd, vs, rel, dd⟩ := dk_rd I.hok e
    refine wpAny_notIn_of (kV_is ry) hd dd.mapOf ?_
    rw [← (rel.val k).isSome_eq, ← l]
    exact h _ (I.tok _)
  · subst ey
    cases (show u = Value.ref b from ry)
    obtain ⟨z, hd, xs, rel, dd⟩ := dt_rd I.hok e
    refine wpAny_notIn_heap (tupleKind_room_in1 hu) (key_of I.hok eb) hd dd ?_
    have q := (rel.val k).isSome_eq
    rw [Option.isSome_map] at q
    rw [← q, ← l]
    exact h _ (I.tok _)
theorem d_write {h' : Heap} {t' : Nat} {ob : HO} (I : Inv X pins σ H s) (mu : Mut (H a)) (hs : Heap.SameBut a s.heap h') (he : ∃ q, h'.get? a = some q) (new : ObjOk X.prog X.w (upd H a ob) h' a ob) :
    Inv X pins σ (upd H a ob) { s with heap := h', toks := t' } :=
  I.write (x := a) (e := a) mu (.inl rfl) (fun b q hb z => (hs.2 b hb).trans z) he new
theorem dk_new {P : Program} {w : World} {H' : Hp} {h' : Heap} {kvs : List (Key × V)} {vs : List (Key × Value)} (z : kvs.length ≤ sizeLine) (hd : (a == sysModules) = false) (rel : KV kvs vs) (dd : h'.DictOf (mixKind P w) a vs) :
    ObjOk P w H' h' a (.dK kvs) := ⟨z, hd, vs, rel, dd⟩
theorem d_setItem {H' : Hp} {Q : Unit → Shared → Prop} (hu : A.units + 1 < cLine) (I : Inv X pins σ H s) (g : DPut H a y v H') (ry : RelV y u) (rv : RelV v r) (h : ∀ s', Inv X pins σ H' s' → Q () s') :
    wpAny (model X.prog X.w) A (setItem (.ref a) u r) Q E s := by
  rcases g with ⟨kvs, k, e, ey, l, eH⟩ | ⟨kvs, k, b, e, ey, eb, l, eH⟩
  · subst ey eH
    obtain ⟨z, hd, vs, rel, dd⟩ := dk_of I.hok e
    have hz : vs.length ≤ sizeLine := by rw [← rel.length]; exact z
    have hl : (putK kvs k v).length ≤ sizeLine := by have := length_putK kvs k v; omega
    refine wpAny_setItem_pairs (hsz := hz) (kV_is ry) dd fun h' dd' hs => h _ ?_
    have he : ∃ q, h'.get? a = some q := let ⟨q, _, _, hq, _⟩ := dd'; ⟨q, hq⟩
    exact d_write I (by rw [e]; exact True.intro) hs he (dk_new hl hd (rel.put k rv) dd')
  · subst ey eH
    cases (show u = Value.ref b from ry)
    obtain ⟨z, hd, xs, rel, dd⟩ := dt_of I.hok e
    have hz : xs.length ≤ sizeLine := by rw [← Paired.length rel]; exact z
    have hl : (putK kvs k v).length ≤ sizeLine := by have := length_putK kvs k v; omega
    refine wpAny_setItem_heap (hsz := hz) (tupleKind_room_in1 hu) (key_of I.hok eb) dd fun h' dd' hs => h _ ?_
    obtain ⟨q, es, ep, hq, h2, h3, h4, _, h5⟩ := dd'
    refine d_write I (by rw [e]; exact True.intro) hs ⟨q, hq⟩ ⟨hl, hd, _, (rel.put k eb rv).keeps fun c ys ec => ?_, q, es, ep, hq, h2, h3, h4, h5⟩
    rw [upd_ne (ne_of ec e (fun z => nomatch z))]
    exact ec
end
section
variable {X : Cx} {pins : List (Addr × Obj)} {σ : St} {H : Hp} {s : Shared} {a : Addr} {kvs : List (Key × V)} {k : Key} {u : Value} {A : Around} {E : Value → Shared → Prop}
end
theorem dict_typeIs {X : Cx} {pins : List (Addr × Obj)} {σ : St} {H : Hp} {s : Shared} {a : Addr} {y : V} {o : Option V} (I : Inv X pins σ H s) (g : DGet H a y o) : s.TypeIs (.ref a) "dict" := by
  rcases g with ⟨kvs, k, e, _, _⟩ | ⟨kvs, k, b, e, _, _, _⟩
  · obtain ⟨_, _, vs, _, dd⟩ := dk_rd I.hok e
    exact dd.typeIs
  · obtain ⟨_, _, xs, _, dd⟩ := dt_rd I.hok e
    exact dd.typeIs
section
variable {X : Cx} {o i e value : Expr} {pos pos' tpos : Pos} {td ty tv : TE}
end
theorem dk_empty {P : Program} {w : World} {H : Hp} (h : Heap) (hb : sysModules < h.objs.size) : ObjOk P w H (h.push { cls := .type "dict", data := .dict #[] }) h.objs.size (.dK []) :=
  ⟨Nat.zero_le _, beq_eq_false_iff_ne.mpr (Ne.symm (Nat.ne_of_lt hb)), [], .nil, Heap.DictOf.new h⟩
def tDNewK : TE := fun _ H Q => ∀ p, H p = none → Q (.ref p) (upd H p (.dK []))
section
variable {X : Cx} {pos : Pos}
theorem pe_dnewK : PE X (.Dict [] [] pos) tDNewK := fun pins s σ H Q I h =>
  wpAny_Dict_empty ⟨.ref s.heap.objs.size, _, I.laid (a := s.heap.objs.size) (o := .dK []) (t' := s.toks) (fun _ _ q => Heap.get?_push_of_some _ q) (Nat.le_refl _) (dk_empty s.heap I.big), rfl, h _ (I.hok.fresh (Nat.le_refl _))⟩
end
structure M1 (X : Cx) (o : Expr) (m : Str) (apos : Pos) (e : Expr) (cpos : Pos) : Prop where
  base : attributeBase o m X.env (eval o X.env) = eval o X.env
  few : ((backTo cpos (starEach [e] X.env)).all (fun x => !x.1) && (backToKw cpos (keywordEach [] X.env)).all (fun x => x.1.isSome)
    && decide (([e] : List Expr).length + ([] : List Keyword).length + (if ([] : List Keyword).isEmpty then 0 else 1) < 30)) = true
  line : (apos.endLine == cpos.line) = true
  trees : backTo cpos (starEach [e] X.env) = [(false, eval e X.env)]
structure M2 (X : Cx) (o : Expr) (m : Str) (apos : Pos) (e f : Expr) (cpos : Pos) : Prop where
  base : attributeBase o m X.env (eval o X.env) = eval o X.env
  few : ((backTo cpos (starEach [e, f] X.env)).all (fun x => !x.1) && (backToKw cpos (keywordEach [] X.env)).all (fun x => x.1.isSome)
    && decide (([e, f] : List Expr).length + ([] : List Keyword).length + (if ([] : List Keyword).isEmpty then 0 else 1) < 30)) = true
  line : (apos.endLine == cpos.line) = true
  trees : backTo cpos (starEach [e, f] X.env) = [(false, eval e X.env), (false, eval f X.env)]
section
variable {X : Cx} {pins : List (Addr × Obj)} {σ : St} {H : Hp} {s : Shared} {a : Addr} {y d : V} {u r : Value} {o : Option V} {A : Around} {E : Value → Shared → Prop}
end
section
variable {X : Cx} {o e f : Expr} {apos cpos : Pos} {td ty tx : TE}
end
section
variable {X : Cx} {pins : List (Addr × Obj)} {σ : St} {H : Hp} {s : Shared} {a : Addr} {kvs : List (Key × V)} {A : Around} {E : Value → Shared → Prop}
end
section
variable {X : Cx} {pins : List (Addr × Obj)} {σ : St} {H : Hp} {s : Shared} {a : Addr} {y : V} {u : Value} {A : Around} {E : Value → Shared → Prop}
end
end L2
namespace L2
open PySem PySem.Spec PyProof.Rows
section
variable {X : Cx}
end
section
variable {κ : Type} [DecidableEq κ]
end
end L2
namespace IL
open PySem PySem.Spec PyProof.Rows L2
inductive W where
  | non | bl (b : Bool) | int (i : Int) | str (x : Str) | tup (ws : List W) | fl (ws : List W) | ref (i : Nat) | exc (c : Str) (ns : List Str) (ws : List W)
mutual
def W.dec : (a b : W) → Decidable (a = b)
  | .non, .non => Decidable.isTrue rfl
  | .bl a, .bl b => if h : a = b then Decidable.isTrue (by rw [h]) else Decidable.isFalse (fun e => h (W.bl.inj e))
  | .int a, .int b => if h : a = b then Decidable.isTrue (by rw [h]) else Decidable.isFalse (fun e => h (W.int.inj e))
  | .str a, .str b => if h : a = b then Decidable.isTrue (by rw [h]) else Decidable.isFalse (fun e => h (W.str.inj e))
  | .tup a, .tup b => match W.decs a b with
    | Decidable.isTrue h => Decidable.isTrue (by rw [h])
    | Decidable.isFalse h => Decidable.isFalse (fun e => h (W.tup.inj e))
  | .fl a, .fl b => match W.decs a b with
    | Decidable.isTrue h => Decidable.isTrue (by rw [h])
    | Decidable.isFalse h => Decidable.isFalse (fun e => h (W.fl.inj e))
  | .ref a, .ref b => if h : a = b then Decidable.isTrue (by rw [h]) else Decidable.isFalse (fun e => h (W.ref.inj e))
  | .exc c ns a, .exc c' ns' b => match W.decs a b with
    | Decidable.isTrue h => if h1 : c = c' then if h2 : ns = ns' then Decidable.isTrue (by rw [h, h1, h2]) else Decidable.isFalse (fun e => h2 (W.exc.inj e).2.1) else Decidable.isFalse (fun e => h1 (W.exc.inj e).1)
    | Decidable.isFalse h => Decidable.isFalse (fun e => h (W.exc.inj e).2.2)
  | .non, .bl _ | .non, .int _ | .non, .str _ | .non, .tup _ | .non, .fl _ | .non, .ref _ | .non, .exc _ _ _ => Decidable.isFalse (fun e => nomatch e)
  | .bl _, .non | .bl _, .int _ | .bl _, .str _ | .bl _, .tup _ | .bl _, .fl _ | .bl _, .ref _ | .bl _, .exc _ _ _ => Decidable.isFalse (fun e => nomatch e)
  | .int _, .non | .int _, .bl _ | .int _, .str _ | .int _, .tup _ | .int _, .fl _ | .int _, .ref _ | .int _, .exc _ _ _ => Decidable.isFalse (fun e => nomatch e)
  | .str _, .non | .str _, .bl _ | .str _, .int _ | .str _, .tup _ | .str _, .fl _ | .str _, .ref _ | .str _, .exc _ _ _ => Decidable.isFalse (fun e => nomatch e)
  | .tup _, .non | .tup _, .bl _ | .tup _, .int _ | .tup _, .str _ | .tup _, .fl _ | .tup _, .ref _ | .tup _, .exc _ _ _ => Decidable.isFalse (fun e => nomatch e)
  | .fl _, .non | .fl _, .bl _ | .fl _, .int _ | .fl _, .str _ | .fl _, .tup _ | .fl _, .ref _ | .fl _, .exc _ _ _ => Decidable.isFalse (fun e => nomatch e)
  | .ref _, .non | .ref _, .bl _ | .ref _, .int _ | .ref _, .str _ | .ref _, .tup _ | .ref _, .fl _ | .ref _, .exc _ _ _ => Decidable.isFalse (fun e => nomatch e)
  | .exc _ _ _, .non | .exc _ _ _, .bl _ | .exc _ _ _, .int _ | .exc _ _ _, .str _ | .exc _ _ _, .tup _ | .exc _ _ _, .fl _ | .exc _ _ _, .ref _ => Decidable.isFalse (fun e => nomatch e)
def W.decs : (a b : List W) → Decidable (a = b)
  | [], [] => Decidable.isTrue rfl
  | a :: as, b :: bs => match W.dec a b, W.decs as bs with
    | Decidable.isTrue h, Decidable.isTrue h' => Decidable.isTrue (by rw [h, h'])
    | Decidable.isFalse h, _ => Decidable.isFalse (fun e => h (List.cons.inj e).1)
    | _, Decidable.isFalse h => Decidable.isFalse (fun e => h (List.cons.inj e).2)
  | [], _ :: _ | _ :: _, [] => Decidable.isFalse (fun e => nomatch e)
end
instance : DecidableEq W := W.dec
inductive PO where
  | lst (ws : List W)
  | dct (kvs : List (W × W))
  deriving DecidableEq
abbrev PH := List PO
abbrev Po (α : Type) := PH → Option (α × PH)
def ret {α : Type} (a : α) : Po α := fun ph => some (a, ph)
def nono {α : Type} : Po α := fun _ => none
structure XC where
  cls : Str
  fs : List (Str × W)
inductive Out (α : Type) where
  | ok (a : α) (ph : PH)
  | ex (x : XC) (ph : PH)
  | no
def Out.Run {α : Type} (r : Out α) (N : α → PH → Prop) (E : XC → PH → Prop) : Prop := match r with
  | .ok a ph => N a ph
  | .ex x ph => E x ph
  | .no => False
theorem Out.Run.mono {α : Type} {r : Out α} {N N' : α → PH → Prop} {E E' : XC → PH → Prop} (h : r.Run N E) (hn : ∀ a ph, N a ph → N' a ph) (he : ∀ x ph, E x ph → E' x ph) : r.Run N' E' := by
  cases r with
  | ok a ph => exact hn a ph h
  | ex x ph => exact he x ph h
  | no => exact h
abbrev Mo (α : Type) := PH → Out α
def pur {α : Type} (a : α) : Mo α := fun ph => .ok a ph
def nop {α : Type} : Mo α := fun _ => .no
def lift {α : Type} (o : Po α) : Mo α := fun ph => match o ph with
  | some p => .ok p.1 p.2
  | none => .no
def bnd {α β : Type} (m : Mo α) (f : α → Mo β) : Mo β := fun ph => match m ph with
  | .ok a ph' => f a ph'
  | .ex x ph' => .ex x ph'
  | .no => .no
theorem run_bnd {α β : Type} {m : Mo α} {f : α → Mo β} {ph : PH} {N : β → PH → Prop} {E : XC → PH → Prop} : (bnd m f ph).Run N E = (m ph).Run (fun a ph1 => (f a ph1).Run N E) E := by
  unfold bnd
  cases m ph <;> rfl
theorem run_lift {α : Type} {o : Po α} {ph : PH} {N : α → PH → Prop} {E : XC → PH → Prop} (h : (lift o ph).Run N E) : ∃ a ph', o ph = some (a, ph') ∧ N a ph' := by
  unfold lift at h
  cases e : o ph with
  | none => rw [e] at h; exact h.elim
  | some p => rw [e] at h; exact ⟨p.1, p.2, rfl, h⟩
abbrev PSt := List (Option W)
abbrev EM := PSt → Mo W
abbrev TM := PSt → Mo Bool
abbrev AM := PSt → Mo (List W)
inductive Fl where
  | nx (σ : PSt) | rt (w : W) | bk (σ : PSt) | ct (σ : PSt)
abbrev SM := PSt → Mo Fl
def KL (K : PySem.W.Frag) (a : Addr) (xs : List V) : Prop :=
  ∃ (o : Obj) (its : Array Value) (n : Nat), K.lookup a = some o ∧ o.cls = .type "list" ∧ o.dict = none ∧ o.data = .seq its n ∧ its.size ≤ sizeLine ∧ Vals xs its.toList
def FrzL (K : PySem.W.Frag) (H : Hp) (a : Addr) (xs : List V) : Prop := (∃ o, H a = some (.frz o (.lst xs))) ∨ KL K a xs
theorem FrzL.sq {K : PySem.W.Frag} {H : Hp} {a : Addr} {xs : List V} (h : FrzL K H a xs) : SqL K H a xs := by
  rcases h with ⟨o, h⟩ | h
  · exact .inl (.inr ⟨o, h⟩)
  · exact .inr h
def XFld (H : Hp) (o : Obj) (ns : List Str) (vs : List V) : Prop := (ns = [] ∧ vs = []) ∨ ∃ d od, o.dict = some d ∧ ns.length = vs.length ∧ H d = some (.frz od (.xd (ns.zip vs)))
mutual
inductive RelW (K : PySem.W.Frag) (φ : Nat → Addr) (n : Nat) (H : Hp) : W → V → Prop where
  | non : RelW K φ n H .non .non
  | bl (b : Bool) : RelW K φ n H (.bl b) (.bl b)
  | int (i : Int) : RelW K φ n H (.int i) (.int i)
  | str (x : Str) : RelW K φ n H (.str x) (.str x)
  | tup {ws : List W} {a : Addr} {vs : List V} (h : H a = some (.tup vs)) (r : RelWs K φ n H ws vs) : RelW K φ n H (.tup ws) (.ref a)
  | fl {ws : List W} {a : Addr} {vs : List V} (h : FrzL K H a vs) (r : RelWs K φ n H ws vs) : RelW K φ n H (.fl ws) (.ref a)
  | ref {i : Nat} (h : i < n) : RelW K φ n H (.ref i) (.ref (φ i))
  | exc {c : Str} {ns : List Str} {ws : List W} {a C : Addr} {vs : List V} {o : Obj} {u : HO} (h : H a = some (.frz o u)) (hc : o.cls = .ref C) (hn : PySem.W.nsIn K mainGlobals c = some (some (.ref C))) (hk : PySem.W.notCls o = true) (hf : XFld H o ns vs) (r : RelWs K φ n H ws vs) : RelW K φ n H (.exc c ns ws) (.ref a)
inductive RelWs (K : PySem.W.Frag) (φ : Nat → Addr) (n : Nat) (H : Hp) : List W → List V → Prop where
  | nil : RelWs K φ n H [] []
  | cons {w : W} {v : V} {ws : List W} {vs : List V} (h : RelW K φ n H w v) (r : RelWs K φ n H ws vs) : RelWs K φ n H (w :: ws) (v :: vs)
end
structure Step (K : PySem.W.Frag) (φ : Nat → Addr) (n : Nat) (H : Hp) (φ' : Nat → Addr) (n' : Nat) (H' : Hp) : Prop where
  le : n ≤ n'
  eq : ∀ i, i < n → φ' i = φ i
  tup : ∀ a xs, H a = some (.tup xs) → H' a = some (.tup xs)
  frz : ∀ a o u, H a = some (.frz o u) → H' a = some (.frz o u)
section
variable {K : PySem.W.Frag} {φ φ' φ'' : Nat → Addr} {n n' n'' : Nat} {H H' H'' : Hp}
theorem Step.refl : Step K φ n H φ n H := ⟨Nat.le_refl _, fun _ _ => rfl, fun _ _ h => h, fun _ _ _ h => h⟩
theorem Step.trans (a : Step K φ n H φ' n' H') (b : Step K φ' n' H' φ'' n'' H'') : Step K φ n H φ'' n'' H'' :=
  ⟨Nat.le_trans a.le b.le, fun i h => (b.eq i (Nat.lt_of_lt_of_le h a.le)).trans (a.eq i h), fun c xs h => b.tup c xs (a.tup c xs h), fun c o u h => b.frz c o u (a.frz c o u h)⟩
theorem XFld.mono (s : Step K φ n H φ' n' H') {o : Obj} {ns : List Str} {vs : List V} (h : XFld H o ns vs) : XFld H' o ns vs :=
  h.imp_right fun ⟨d, od, e1, e2, e3⟩ => ⟨d, od, e1, e2, s.frz _ _ _ e3⟩
mutual
theorem RelW.mono (s : Step K φ n H φ' n' H') : ∀ {w : W} {v : V}, RelW K φ n H w v → RelW K φ' n' H' w v
  | _, _, .non => .non
  | _, _, .bl b => .bl b
  | _, _, .int i => .int i
  | _, _, .str x => .str x
  | _, _, .tup h r => .tup (s.tup _ _ h) (RelWs.mono s r)
  | _, _, .fl h r => .fl (h.elim (fun ⟨o, e⟩ => .inl ⟨o, s.frz _ _ _ e⟩) .inr) (RelWs.mono s r)
  | _, _, .ref (i := i) h => (s.eq i h) ▸ .ref (Nat.lt_of_lt_of_le h s.le)
  | _, _, .exc h hc hn hk hf r => .exc (s.frz _ _ _ h) hc hn hk (hf.mono s) (RelWs.mono s r)
theorem RelWs.mono (s : Step K φ n H φ' n' H') : ∀ {ws : List W} {vs : List V}, RelWs K φ n H ws vs → RelWs K φ' n' H' ws vs
  | _, _, .nil => .nil
  | _, _, .cons h r => .cons (RelW.mono s h) (RelWs.mono s r)
end
theorem RelWs.length : ∀ {ws : List W} {vs : List V}, RelWs K φ n H ws vs → ws.length = vs.length
  | _, _, .nil => rfl
  | _, _, .cons _ r => by simp [RelWs.length r]
theorem RelWs.get : ∀ {ws : List W} {vs : List V} {i : Nat} {w : W}, RelWs K φ n H ws vs → ws[i]? = some w → ∃ v, vs[i]? = some v ∧ RelW K φ n H w v
  | _, _, _, _, .nil, e => by simp at e
  | _, _, 0, _, .cons h _, e => by simp at e; subst e; exact ⟨_, rfl, h⟩
  | _, _, i + 1, w, .cons _ r, e => by
    obtain ⟨u, h1, h2⟩ := RelWs.get (i := i) (w := w) r (by simpa using e)
    exact ⟨u, by simpa using h1, h2⟩
theorem RelWs.append : ∀ {ws xs : List W} {vs us : List V}, RelWs K φ n H ws vs → RelWs K φ n H xs us → RelWs K φ n H (ws ++ xs) (vs ++ us)
  | _, _, _, _, .nil, s => s
  | _, _, _, _, .cons h r, s => .cons h (RelWs.append r s)
theorem RelWs.take : ∀ {ws : List W} {vs : List V} (k : Nat), RelWs K φ n H ws vs → RelWs K φ n H (ws.take k) (vs.take k)
  | _, _, 0, _ => .nil
  | _, _, _ + 1, .nil => .nil
  | _, _, k + 1, .cons h r => .cons h (RelWs.take k r)
theorem RelWs.drop : ∀ {ws : List W} {vs : List V} (k : Nat), RelWs K φ n H ws vs → RelWs K φ n H (ws.drop k) (vs.drop k)
  | _, _, 0, r => r
  | _, _, _ + 1, .nil => .nil
  | _, _, k + 1, .cons h r => RelWs.drop k r
theorem RelWs.set {w : W} {v : V} (q : RelW K φ n H w v) : ∀ {ws : List W} {vs : List V} (i : Nat), RelWs K φ n H ws vs → RelWs K φ n H (ws.set i w) (vs.set i v)
  | _, _, _, .nil => .nil
  | _, _, 0, .cons _ r => .cons q r
  | _, _, i + 1, .cons h r => .cons h (RelWs.set q i r)
theorem RelWs.reverse : ∀ {ws : List W} {vs : List V}, RelWs K φ n H ws vs → RelWs K φ n H ws.reverse vs.reverse
  | _, _, .nil => .nil
  | _, _, .cons h r => by simp only [List.reverse_cons]; exact RelWs.append (RelWs.reverse r) (.cons h .nil)
end
def keyW : Key → W
  | .inl i => .int i
  | .inr x => .str x
inductive RelD (K : PySem.W.Frag) (φ : Nat → Addr) (n : Nat) (H : Hp) : List (W × W) → List (Key × V) → Prop where
  | nil : RelD K φ n H [] []
  | cons {k : Key} {w : W} {v : V} {kws : List (W × W)} {kvs : List (Key × V)} (h : RelW K φ n H w v) (r : RelD K φ n H kws kvs) : RelD K φ n H ((keyW k, w) :: kws) ((k, v) :: kvs)
inductive RelT (K : PySem.W.Frag) (φ : Nat → Addr) (n : Nat) (H : Hp) : List (W × W) → List (List Key × V) → Prop where
  | nil : RelT K φ n H [] []
  | cons {k : List Key} {w : W} {v : V} {kws : List (W × W)} {kvs : List (List Key × V)} (h : RelW K φ n H w v) (r : RelT K φ n H kws kvs) : RelT K φ n H ((.tup (k.map keyW), w) :: kws) ((k, v) :: kvs)
theorem RelD.mono {K : PySem.W.Frag} {φ φ' : Nat → Addr} {n n' : Nat} {H H' : Hp} (s : Step K φ n H φ' n' H') : ∀ {ws : List (W × W)} {vs : List (Key × V)}, RelD K φ n H ws vs → RelD K φ' n' H' ws vs
  | _, _, .nil => .nil
  | _, _, .cons h r => .cons (h.mono s) (RelD.mono s r)
theorem RelT.mono {K : PySem.W.Frag} {φ φ' : Nat → Addr} {n n' : Nat} {H H' : Hp} (s : Step K φ n H φ' n' H') : ∀ {ws : List (W × W)} {vs : List (List Key × V)}, RelT K φ n H ws vs → RelT K φ' n' H' ws vs
  | _, _, .nil => .nil
  | _, _, .cons h r => .cons (h.mono s) (RelT.mono s r)
def RelPO (K : PySem.W.Frag) (φ : Nat → Addr) (n : Nat) (H : Hp) (o : PO) (a : Addr) : Prop := match o with
  | .lst ws => ∃ vs, H a = some (.lst vs) ∧ RelWs K φ n H ws vs
  | .dct kws => (∃ kvs, H a = some (.dK kvs) ∧ RelD K φ n H kws kvs) ∨ ∃ kvs, H a = some (.dT kvs) ∧ RelT K φ n H kws kvs
structure RelH (K : PySem.W.Frag) (φ : Nat → Addr) (ph : PH) (H : Hp) : Prop where
  hp : ∀ i o, ph[i]? = some o → RelPO K φ ph.length H o (φ i)
  inj : ∀ i j, i < ph.length → j < ph.length → φ i = φ j → i = j
inductive RelS (K : PySem.W.Frag) (φ : Nat → Addr) (n : Nat) (H : Hp) : PSt → L2.St → Prop where
  | nil : RelS K φ n H [] []
  | sm {w : W} {v : V} {ws : PSt} {vs : L2.St} (h : RelW K φ n H w v) (r : RelS K φ n H ws vs) : RelS K φ n H (some w :: ws) (some v :: vs)
  | nn {v : Option V} {ws : PSt} {vs : L2.St} (r : RelS K φ n H ws vs) : RelS K φ n H (none :: ws) (v :: vs)
section
variable {K : PySem.W.Frag} {φ φ' φ'' : Nat → Addr} {n n' n'' : Nat} {H H' H'' : Hp} {ph : PH}
theorem RelS.mono (s : Step K φ n H φ' n' H') : ∀ {ws : PSt} {vs : L2.St}, RelS K φ n H ws vs → RelS K φ' n' H' ws vs
  | _, _, .nil => .nil
  | _, _, .sm h r => .sm (h.mono s) (RelS.mono s r)
  | _, _, .nn r => .nn (RelS.mono s r)
theorem RelS.get : ∀ {ws : PSt} {vs : L2.St} {i : Nat} {w : W}, RelS K φ n H ws vs → ws[i]? = some (some w) → ∃ v, vs[i]? = some (some v) ∧ RelW K φ n H w v
  | _, _, _, _, .nil, e => by simp at e
  | _, _, 0, _, .sm h _, e => by simp at e; subst e; exact ⟨_, rfl, h⟩
  | _, _, 0, _, .nn _, e => by simp at e
  | _, _, i + 1, w, .sm _ r, e => by
    obtain ⟨u, h1, h2⟩ := RelS.get (i := i) (w := w) r (by simpa using e)
    exact ⟨u, by simpa using h1, h2⟩
  | _, _, i + 1, w, .nn r, e => by
    obtain ⟨u, h1, h2⟩ := RelS.get (i := i) (w := w) r (by simpa using e)
    exact ⟨u, by simpa using h1, h2⟩
theorem RelS.set {w : W} {v : V} (q : RelW K φ n H w v) : ∀ {ws : PSt} {vs : L2.St} (i : Nat), RelS K φ n H ws vs → RelS K φ n H (ws.set i (Option.some w)) (vs.set i (Option.some v))
  | _, _, _, .nil => .nil
  | _, _, 0, .sm _ r => .sm q r
  | _, _, 0, .nn r => .sm q r
  | _, _, i + 1, .sm h r => .sm h (RelS.set q i r)
  | _, _, i + 1, .nn r => .nn (RelS.set q i r)
theorem RelS.start : ∀ {ws : List W} {vs : List V} (k : Nat), RelWs K φ n H ws vs → RelS K φ n H (ws.map Option.some ++ List.replicate k Option.none) (vs.map Option.some ++ List.replicate k Option.none)
  | _, _, 0, .nil => .nil
  | _, _, k + 1, .nil => .nn (RelS.start k .nil)
  | _, _, k, .cons h r => .sm h (RelS.start k r)
theorem RelPO.some {o : PO} {a : Addr} (h : RelPO K φ n H o a) : ∃ x, H a = Option.some x ∧ Mut (Option.some x) := by
  cases o with
  | lst ws => obtain ⟨vs, e, _⟩ := h; exact ⟨_, e, trivial⟩
  | dct kws =>
    rcases h with ⟨vs, e, _⟩ | ⟨vs, e, _⟩
    · exact ⟨_, e, trivial⟩
    · exact ⟨_, e, trivial⟩
theorem RelPO.mono {o : PO} {a : Addr} (s : Step K φ n H φ' n' H') (e : H' a = H a) (h : RelPO K φ n H o a) : RelPO K φ' n' H' o a := by
  cases o with
  | lst ws => obtain ⟨vs, q, r⟩ := h; exact ⟨vs, e.trans q, r.mono s⟩
  | dct kws =>
    rcases h with ⟨vs, q, r⟩ | ⟨vs, q, r⟩
    · exact .inl ⟨vs, e.trans q, r.mono s⟩
    · exact .inr ⟨vs, e.trans q, r.mono s⟩
theorem RelH.at (h : RelH K φ ph H) {i : Nat} (hi : i < ph.length) : ∃ x, H (φ i) = Option.some x ∧ Mut (Option.some x) := (h.hp i ph[i] (by simp [hi])).some
theorem step_tup {p : Addr} {xs : List V} (hp : H p = none) : Step K φ n H φ n (upd H p (.tup xs)) := by
  refine ⟨Nat.le_refl _, fun _ _ => rfl, fun a ys h => ?_, fun a o u h => ?_⟩
  · rw [upd_ne (ne_of_none h hp)]; exact h
  · rw [upd_ne (ne_of_none h hp)]; exact h
theorem RelH.tup {p : Addr} {xs : List V} (h : RelH K φ ph H) (hp : H p = none) : RelH K φ ph (upd H p (.tup xs)) := by
  refine ⟨fun i o e => ?_, h.inj⟩
  have hi : i < ph.length := (List.getElem?_eq_some_iff.mp e).1
  obtain ⟨x, ex, _⟩ := h.at hi
  exact (h.hp i o e).mono (step_tup hp) (upd_ne (ne_of_none ex hp))
def ext (φ : Nat → Addr) (n : Nat) (p : Addr) : Nat → Addr := fun i => if i = n then p else φ i
theorem ext_lt {p : Addr} {i : Nat} (h : i < n) : ext φ n p i = φ i := by unfold ext; rw [if_neg (by omega)]
theorem ext_eq {p : Addr} : ext φ n p n = p := by unfold ext; rw [if_pos rfl]
theorem step_new {p : Addr} {o : HO} (hp : H p = none) : Step K φ n H (ext φ n p) (n + 1) (upd H p o) := by
  refine ⟨Nat.le_succ _, fun i h => ext_lt h, fun a ys h => ?_, fun a o u h => ?_⟩
  · rw [upd_ne (ne_of_none h hp)]; exact h
  · rw [upd_ne (ne_of_none h hp)]; exact h
theorem RelH.new {p : Addr} {x : HO} {o : PO} (h : RelH K φ ph H) (hp : H p = none) (r : RelPO K (ext φ ph.length p) (ph.length + 1) (upd H p x) o p) :
    RelH K (ext φ ph.length p) (ph ++ [o]) (upd H p x) := by
  refine ⟨fun i o' e => ?_, fun i j hi hj e => ?_⟩
  · rw [List.length_append]
    by_cases hi : i < ph.length
    · rw [List.getElem?_append_left hi] at e
      obtain ⟨y, ey, _⟩ := h.at hi
      rw [ext_lt hi]
      exact (h.hp i o' e).mono (step_new hp) (upd_ne (ne_of_none ey hp))
    · have hl := (List.getElem?_eq_some_iff.mp e).1
      simp at hl
      have : i = ph.length := by omega
      subst this
      simp at e
      subst e
      rw [ext_eq]
      exact r
  · simp at hi hj
    have key : ∀ k, k < ph.length → φ k ≠ p := fun k hk z => by
      obtain ⟨y, ey, _⟩ := h.at hk
      rw [z, hp] at ey; cases ey
    by_cases h1 : i < ph.length <;> by_cases h2 : j < ph.length
    · rw [ext_lt h1, ext_lt h2] at e; exact h.inj i j h1 h2 e
    · have : j = ph.length := by omega
      subst this
      rw [ext_lt h1, ext_eq] at e; exact (key i h1 e).elim
    · have : i = ph.length := by omega
      subst this
      rw [ext_lt h2, ext_eq] at e; exact (key j h2 e.symm).elim
    · omega
theorem step_set {a : Addr} {x y : HO} (ha : H a = some x) (mx : Mut (some x)) : Step K φ n H φ n (upd H a y) := by
  refine ⟨Nat.le_refl _, fun _ _ => rfl, fun c ys h => ?_, fun c o u h => ?_⟩
  · rw [upd_ne (ne_of h ha (by rintro rfl; exact mx))]; exact h
  · rw [upd_ne (ne_of h ha (by rintro rfl; exact mx))]; exact h
theorem RelH.put {i : Nat} {x : HO} {o : PO} (h : RelH K φ ph H) (hi : i < ph.length) (r : RelPO K φ ph.length (upd H (φ i) x) o (φ i)) : RelH K φ (ph.set i o) (upd H (φ i) x) := by
  obtain ⟨y, ey, my⟩ := h.at hi
  refine ⟨fun j o' e => ?_, fun j k hj hk e => ?_⟩
  · rw [List.length_set]
    by_cases hj : j = i
    · subst hj
      rw [List.getElem?_set_self hi] at e
      cases e
      exact r
    · rw [List.getElem?_set_ne (Ne.symm hj)] at e
      have hjl := (List.getElem?_eq_some_iff.mp e).1
      exact (h.hp j o' e).mono (step_set ey my) (upd_ne fun z => hj (h.inj j i hjl hi z))
  · rw [List.length_set] at hj hk
    exact h.inj j k hj hk e
end
def Made (X : Cx) (C : Addr) (H' : Hp) (e : Value) (s' : Shared) : Prop :=
  ∃ pins σ s vs h' a, e = .ref a ∧ s' = { s with heap := h' } ∧ Inv X pins σ H' s ∧ Heap.MadeExcOf s.heap h' a (.ref C) vs
structure UnB (fs : List Addr) (H H' : Hp) (h B h' : Heap) : Prop where
  keep : ∀ b o, h.get? b = some o → H b = none → b ∉ fs → B.get? b = some o
  slot : ∀ b o, h.get? b = some o → H b = none → b ∈ fs → ∃ sl, h'.get? b = some { o with slots := sl }
  free : ∀ b o, h.get? b = some o → H b = none → H' b = none
  there : ∀ b o, h.get? b = some o → b ∉ fs → ∃ o', B.get? b = some o'
  tups : ∀ b xs, H b = some (.tup xs) → H' b = some (.tup xs)
  frzs : ∀ b o u, H b = some (.frz o u) → H' b = some (.frz o u)
  tbls : ∀ b ps, H b = some (.tbl ps) → ∃ more, H' b = some (.tbl (ps ++ more))
def Flew (P : Program) (w : World) (l : List Env) (H : Hp) (s : Shared) (C : Addr) (H' : Hp) (e : Value) (s' : Shared) : Prop :=
  ∃ a a0 B, e = .ref a ∧ s'.os = s.os ∧ AllBare s'.gens ∧ Heap.FlyingW B l a (.ref C) a0 s'.heap ∧ HOk P w H' B ∧ UnB (frs l) H H' s.heap B s'.heap
def Thr (X : Cx) (x : XC) (H' : Hp) (e : Value) (s' : Shared) : Prop := ∃ C, X.mg x.cls = some (.ref C) ∧ x.fs = [] ∧ (Made X C H' e s' ∨ ∃ pins σ H s, Inv X pins σ H s ∧ Flew X.prog X.w X.stack H s C H' e s')
def XE (X : Cx) (φ : Nat → Addr) (n : Nat) (H : Hp) : XC → PH → Prop := fun x ph' => ∀ φ' H' e s', RelH X.K φ' ph' H' → Step X.K φ n H φ' ph'.length H' → Thr X x H' e s' → X.xe e s'
theorem XE.step {X : Cx} {φ φ1 : Nat → Addr} {n n1 : Nat} {H H1 : Hp} {x : XC} {ph' : PH} (h : XE X φ n H x ph') (s : Step X.K φ n H φ1 n1 H1) : XE X φ1 n1 H1 x ph' := fun φ' H' e s' r t q => h φ' H' e s' r (s.trans t) q
def tM (X : Cx) (m : EM) : TE := fun σ H Q => ∃ φ ph ws, RelH X.K φ ph H ∧ RelS X.K φ ph.length H ws σ ∧ (m ws ph).Run (fun w ph' =>
  ∀ φ' H' v, RelH X.K φ' ph' H' → Step X.K φ ph.length H φ' ph'.length H' → RelW X.K φ' ph'.length H' w v → Q v H') (XE X φ ph.length H)
def tT (X : Cx) (m : TM) : TT := fun σ H Q => ∃ φ ph ws, RelH X.K φ ph H ∧ RelS X.K φ ph.length H ws σ ∧ (m ws ph).Run (fun b ph' =>
  ∀ φ' H', RelH X.K φ' ph' H' → Step X.K φ ph.length H φ' ph'.length H' → Q b H') (XE X φ ph.length H)
def tA (X : Cx) (m : AM) : TA := fun σ H Q => ∃ φ ph ws, RelH X.K φ ph H ∧ RelS X.K φ ph.length H ws σ ∧ (m ws ph).Run (fun xs ph' =>
  ∀ φ' H' vs, RelH X.K φ' ph' H' → Step X.K φ ph.length H φ' ph'.length H' → RelWs X.K φ' ph'.length H' xs vs → Q vs H') (XE X φ ph.length H)
def EndF (X : Cx) (D : Ends) (φ' : Nat → Addr) (ph' : PH) (H' : Hp) (f : Fl) : Prop := match f with
  | .nx ws' => ∀ σ', RelS X.K φ' ph'.length H' ws' σ' → D.nx σ' H'
  | .bk ws' => ∀ σ', RelS X.K φ' ph'.length H' ws' σ' → D.bk σ' H'
  | .ct ws' => ∀ σ', RelS X.K φ' ph'.length H' ws' σ' → D.ct σ' H'
  | .rt w => ∀ v, RelW X.K φ' ph'.length H' w v → D.rt v H'
def tS (X : Cx) (m : SM) : TS := fun D σ H => ∃ φ ph ws, RelH X.K φ ph H ∧ RelS X.K φ ph.length H ws σ ∧ (m ws ph).Run (fun f ph' =>
  ∀ φ' H', RelH X.K φ' ph' H' → Step X.K φ ph.length H φ' ph'.length H' → EndF X D φ' ph' H' f) (XE X φ ph.length H)
section
variable {X : Cx} {e : Expr}
theorem PE.imp {t t' : TE} (h : PE X e t) (k : ∀ σ H Q, t' σ H Q → t σ H Q) : PE X e t' := fun pins s σ H Q I q => h pins s σ H Q I (k σ H Q q)
theorem PT.imp {t t' : TT} (h : PT X e t) (k : ∀ σ H Q, t' σ H Q → t σ H Q) : PT X e t' := fun pins s σ H Q I q => h pins s σ H Q I (k σ H Q q)
theorem PA.imp {es : List Expr} {t t' : TA} (h : PA X es t) (k : ∀ σ H Q, t' σ H Q → t σ H Q) : PA X es t' := fun pos pins s σ H Q I q => h pos pins s σ H Q I (k σ H Q q)
theorem PS.imp {st : Stmt} {t t' : TS} (h : PS X st t) (k : ∀ D σ H, t' D σ H → t D σ H) : PS X st t' := fun pins s σ H D I q => h pins s σ H D I (k D σ H q)
theorem PSs.imp {st : List Stmt} {t t' : TS} (h : PSs X st t) (k : ∀ D σ H, t' D σ H → t D σ H) : PSs X st t' := fun pins s σ H D I q => h pins s σ H D I (k D σ H q)
abbrev IE (X : Cx) (e : Expr) (m : EM) : Prop := PE X e (tM X m)
abbrev IT (X : Cx) (e : Expr) (m : TM) : Prop := PT X e (tT X m)
abbrev IA (X : Cx) (es : List Expr) (m : AM) : Prop := PA X es (tA X m)
abbrev IS (X : Cx) (st : Stmt) (m : SM) : Prop := PS X st (tS X m)
abbrev ISs (X : Cx) (st : List Stmt) (m : SM) : Prop := PSs X st (tS X m)
end
def eVar (i : Nat) : EM := fun σ => lift fun ph => match σ[i]? with
  | some (some w) => some (w, ph)
  | _ => none
def eC (w : W) : EM := fun _ => pur w
def eOp (f : W → W → Po W) (a b : EM) : EM := fun σ => bnd (a σ) fun x => bnd (b σ) fun y => lift (f x y)
def eUn (f : W → Po W) (a : EM) : EM := fun σ => bnd (a σ) fun x => lift (f x)
def OpI (K : PySem.W.Frag) (r : R2) (f : W → W → Po W) : Prop := ∀ {φ : Nat → Addr} {ph : PH} {H : Hp} {x y : W} {vx vy : V} {w : W} {ph' : PH} {Q : VK}, RelH K φ ph H → RelW K φ ph.length H x vx → RelW K φ ph.length H y vy → f x y ph = some (w, ph') →
  (∀ φ' H' v, RelH K φ' ph' H' → Step K φ ph.length H φ' ph'.length H' → RelW K φ' ph'.length H' w v → Q v H') → r vx vy H Q
def UnI (K : PySem.W.Frag) (r : V → Hp → VK → Prop) (f : W → Po W) : Prop := ∀ {φ : Nat → Addr} {ph : PH} {H : Hp} {x : W} {vx : V} {w : W} {ph' : PH} {Q : VK}, RelH K φ ph H → RelW K φ ph.length H x vx → f x ph = some (w, ph') →
  (∀ φ' H' v, RelH K φ' ph' H' → Step K φ ph.length H φ' ph'.length H' → RelW K φ' ph'.length H' w v → Q v H') → r vx H Q
section
variable {X : Cx} {a b c : Expr} {ma mb mc : EM} {pos : Pos}
theorem ie_var (i : Nat) {x : Str} (hN : X.N[i]? = some x := by rfl) (hv : Vis X.env.scope x := by first | exact Or.inl rfl | exact Or.inr (Or.inl rfl) | exact Or.inr (Or.inr rfl)) (hd : (x == ("__debug__" : Str)) = false := by decide)
    (hcd : (x == ("__classdict__" : Str)) = false := by decide) : IE X (.Name x pos) (eVar i) := by
  refine PE.imp (pe_var hN hv hd hcd) fun σ H Q h => ?_
  obtain ⟨φ, ph, ws, hH, hS, h⟩ := h
  obtain ⟨w, ph', e, k⟩ := run_lift h
  split at e
  · rename_i w' ew
    cases e
    obtain ⟨v, ev, rv⟩ := hS.get ew
    exact ⟨v, ev, k φ H v hH Step.refl rv⟩
  · cases e
theorem ie_c {t : V} {w : W} (h : PE X a (tC t)) (r : ∀ φ n H, RelW X.K φ n H w t) : IE X a (eC w) := by
  refine PE.imp h fun σ H Q h => ?_
  obtain ⟨φ, ph, ws, hH, hS, h⟩ := h
  exact h φ H _ hH Step.refl (r _ _ _)
theorem ie_int {i : Int} {j : Nat} : IE X (.Constant (.int i) j pos) (eC (.int i)) := ie_c pe_int fun _ _ _ => .int i
theorem ie_str {x : Str} {j : Nat} : IE X (.Constant (.str x) j pos) (eC (.str x)) := ie_c pe_str fun _ _ _ => .str x
theorem ie_bl {x : Bool} {j : Nat} : IE X (.Constant (.bool x) j pos) (eC (.bl x)) := ie_c pe_bl fun _ _ _ => .bl x
theorem ie_non {j : Nat} : IE X (.Constant .none j pos) (eC .non) := ie_c pe_non fun _ _ _ => .non
theorem tM.bind {β : Type} {m : EM} {σ : L2.St} {H : Hp} {Q : VK} {φ : Nat → Addr} {ph : PH} {ws : PSt} {f : W → Mo β} {N : β → PH → Prop} (hH : RelH X.K φ ph H) (hS : RelS X.K φ ph.length H ws σ) (h : (bnd (m ws) f ph).Run N (XE X φ ph.length H))
    (k : ∀ w ph1 φ1 H1 v, RelH X.K φ1 ph1 H1 → Step X.K φ ph.length H φ1 ph1.length H1 → RelW X.K φ1 ph1.length H1 w v → (f w ph1).Run N (XE X φ1 ph1.length H1) → Q v H1) : tM X m σ H Q := by
  rw [run_bnd] at h
  exact ⟨φ, ph, ws, hH, hS, h.mono (fun w ph1 h1 φ1 H1 v hH1 s1 r1 => k w ph1 φ1 H1 v hH1 s1 r1 (h1.mono (fun _ _ z => z) fun _ _ z => z.step s1)) fun _ _ z => z⟩
theorem tT.bind {β : Type} {m : TM} {σ : L2.St} {H : Hp} {Q : Bool → Hp → Prop} {φ : Nat → Addr} {ph : PH} {ws : PSt} {f : Bool → Mo β} {N : β → PH → Prop} (hH : RelH X.K φ ph H) (hS : RelS X.K φ ph.length H ws σ) (h : (bnd (m ws) f ph).Run N (XE X φ ph.length H))
    (k : ∀ b ph1 φ1 H1, RelH X.K φ1 ph1 H1 → Step X.K φ ph.length H φ1 ph1.length H1 → (f b ph1).Run N (XE X φ1 ph1.length H1) → Q b H1) : tT X m σ H Q := by
  rw [run_bnd] at h
  exact ⟨φ, ph, ws, hH, hS, h.mono (fun b ph1 h1 φ1 H1 hH1 s1 => k b ph1 φ1 H1 hH1 s1 (h1.mono (fun _ _ z => z) fun _ _ z => z.step s1)) fun _ _ z => z⟩
theorem tA.bind {β : Type} {m : AM} {σ : L2.St} {H : Hp} {Q : List V → Hp → Prop} {φ : Nat → Addr} {ph : PH} {ws : PSt} {f : List W → Mo β} {N : β → PH → Prop} (hH : RelH X.K φ ph H) (hS : RelS X.K φ ph.length H ws σ) (h : (bnd (m ws) f ph).Run N (XE X φ ph.length H))
    (k : ∀ xs ph1 φ1 H1 vs, RelH X.K φ1 ph1 H1 → Step X.K φ ph.length H φ1 ph1.length H1 → RelWs X.K φ1 ph1.length H1 xs vs → (f xs ph1).Run N (XE X φ1 ph1.length H1) → Q vs H1) : tA X m σ H Q := by
  rw [run_bnd] at h
  exact ⟨φ, ph, ws, hH, hS, h.mono (fun w ph1 h1 φ1 H1 v hH1 s1 r1 => k w ph1 φ1 H1 v hH1 s1 r1 (h1.mono (fun _ _ z => z) fun _ _ z => z.step s1)) fun _ _ z => z⟩
theorem bin_imp {r : R2} {f : W → W → Po W} (hi : OpI X.K r f) {σ : L2.St} {H : Hp} {Q : VK} (h : tM X (eOp f ma mb) σ H Q) : tOp r (tM X ma) (tM X mb) σ H Q := by
  obtain ⟨φ, ph, ws, hH, hS, h⟩ := h
  refine tM.bind hH hS h fun x ph1 φ1 H1 vx hH1 s1 rx h => tM.bind hH1 (hS.mono s1) h fun y ph2 φ2 H2 vy hH2 s2 ry h => ?_
  obtain ⟨w, ph', e, k⟩ := run_lift h
  exact hi hH2 (rx.mono s2) ry e fun φ3 H3 v hH3 s3 r3 => k φ3 H3 v hH3 ((s1.trans s2).trans s3) r3
theorem ie_op {op : Operator} {r : R2} {f : W → W → Po W} (ho : OpR X (binaryOp op) r) (hi : OpI X.K r f) (ha : IE X a ma) (hb : IE X b mb) : IE X (.BinOp a op b pos) (eOp f ma mb) :=
  PE.imp (pe_op ho ha hb) fun _ _ _ h => bin_imp hi h
theorem ie_un {op : UnaryOp} {r : V → Hp → VK → Prop} {f : W → Po W} (ho : UnR X (unaryOp op) r) (hi : UnI X.K r f) (ha : IE X a ma) : IE X (.UnaryOp op a pos) (eUn f ma) := by
  refine PE.imp (pe_un ho ha) fun σ H Q h => ?_
  obtain ⟨φ, ph, ws, hH, hS, h⟩ := h
  refine tM.bind hH hS h fun x ph1 φ1 H1 vx hH1 s1 rx h => ?_
  obtain ⟨w, ph', e, k⟩ := run_lift h
  exact hi hH1 rx e fun φ3 H3 v hH3 s3 r3 => k φ3 H3 v hH3 (s1.trans s3) r3
theorem ie_cmp {op : CmpOp} {r : R2} {f : W → W → Po W} (ho : OpR X (compareOp op) r) (hi : OpI X.K r f) (ha : IE X a ma) (hb : IE X b mb) (hm : behindInMarks op b = false) : IE X (.Compare a [op] [b] pos) (eOp f ma mb) :=
  PE.imp (pe_cmpR ho ha hb hm) fun _ _ _ h => bin_imp hi h
def eT (m : EM) : TM := fun σ => bnd (m σ) fun w => lift (match w with
  | .bl b => ret b
  | _ => nono)
theorem it_cmp {op : CmpOp} {r : R2} {f : W → W → Po W} (ho : OpR X (compareOp op) r) (hi : OpI X.K r f) (ha : IE X a ma) (hb : IE X b mb) (hm : behindInMarks op b = false) : IT X (.Compare a [op] [b] pos) (eT (eOp f ma mb)) := by
  refine PT.imp (pt_cmpR ho ha hb hm) fun σ H Q h => ?_
  obtain ⟨φ, ph, ws, hH, hS, h⟩ := h
  refine bin_imp hi (tM.bind hH hS h fun x ph1 φ1 H1 vx hH1 s1 rx h => ?_)
  obtain ⟨w, ph', e, k⟩ := run_lift h
  split at e
  · cases e
    cases rx
    exact ⟨_, rfl, k φ1 H1 hH1 s1⟩
  · cases e
end
def iop (g : Int → Int → Int) : W → W → Po W := fun x y => match x, y with
  | .int i, .int j => ret (.int (g i j))
  | _, _ => nono
def iopC (c : Int → Int → Bool) (g : Int → Int → Int) : W → W → Po W := fun x y => match x, y with
  | .int i, .int j => if c i j = true then ret (.int (g i j)) else nono
  | _, _ => nono
def icmp (g : Int → Int → Bool) : W → W → Po W := fun x y => match x, y with
  | .int i, .int j => ret (.bl (g i j))
  | _, _ => nono
theorem iop_i {K : PySem.W.Frag} {g : Int → Int → Int} : OpI K (rI0 fun i j => .int (g i j)) (iop g) := by
  intro φ ph H x y vx vy w ph' Q hH rx ry e k
  unfold iop at e
  split at e
  · cases e; cases rx; cases ry
    exact ⟨_, _, rfl, rfl, k φ H _ hH Step.refl (.int _)⟩
  · cases e
theorem iopC_i {K : PySem.W.Frag} {C : Int → Int → Prop} {c : Int → Int → Bool} {g : Int → Int → Int} (hc : ∀ i j, c i j = true → C i j) : OpI K (rI C fun i j => .int (g i j)) (iopC c g) := by
  intro φ ph H x y vx vy w ph' Q hH rx ry e k
  unfold iopC at e
  split at e
  · split at e
    · cases e; cases rx; cases ry
      exact ⟨_, _, rfl, rfl, hc _ _ (by assumption), k φ H _ hH Step.refl (.int _)⟩
    · cases e
  · cases e
theorem icmp_i {K : PySem.W.Frag} {g : Int → Int → Bool} : OpI K (rI0 fun i j => .bl (g i j)) (icmp g) := by
  intro φ ph H x y vx vy w ph' Q hH rx ry e k
  unfold icmp at e
  split at e
  · cases e; cases rx; cases ry
    exact ⟨_, _, rfl, rfl, k φ H _ hH Step.refl (.bl _)⟩
  · cases e
end IL
namespace IL
open PySem PySem.Spec PyProof.Rows L2
def tAndM (a b : TM) : TM := fun σ => bnd (a σ) fun c => if c = true then b σ else pur false
def tOrM (a b : TM) : TM := fun σ => bnd (a σ) fun c => if c = true then pur true else b σ
def tNotM (a : TM) : TM := fun σ => bnd (a σ) fun c => pur (!c)
def eAnd (a b : EM) : EM := fun σ => bnd (a σ) fun w => match w with
  | .bl c => if c = true then b σ else pur (.bl false)
  | _ => nop
def eOr (a b : EM) : EM := fun σ => bnd (a σ) fun w => match w with
  | .bl c => if c = true then pur (.bl true) else b σ
  | _ => nop
def eNot (a : EM) : EM := fun σ => bnd (a σ) fun w => match w with
  | .bl c => pur (.bl (!c))
  | _ => nop
def eIf (t : TM) (a b : EM) : EM := fun σ => bnd (t σ) fun c => if c = true then a σ else b σ
section
variable {X : Cx} {a b c : Expr} {rest : List Expr} {ma mb mc : EM} {ta tb : TM} {pos : Pos}
theorem it_not (ha : IT X a ta) : IT X (.UnaryOp .Not a pos) (tNotM ta) := by
  refine PT.imp (pt_not ha) fun σ H Q h => ?_
  obtain ⟨φ, ph, ws, hH, hS, h⟩ := h
  exact tT.bind hH hS h fun x ph1 φ1 H1 hH1 s1 h => h φ1 H1 hH1 s1
theorem and_imp {σ : L2.St} {H : Hp} {Q : Bool → Hp → Prop} (h : tT X (tAndM ta tb) σ H Q) : tAnd (tT X ta) (tT X tb) σ H Q := by
  obtain ⟨φ, ph, ws, hH, hS, h⟩ := h
  refine tT.bind hH hS h fun x ph1 φ1 H1 hH1 s1 h => ?_
  cases x with
  | true => exact iteT ⟨φ1, ph1, ws, hH1, hS.mono s1, h.mono (fun _ _ k φ2 H2 hH2 s2 => k φ2 H2 hH2 (s1.trans s2)) fun _ _ z => z⟩
  | false => exact iteF (h φ1 H1 hH1 s1)
theorem or_imp {σ : L2.St} {H : Hp} {Q : Bool → Hp → Prop} (h : tT X (tOrM ta tb) σ H Q) : tOr (tT X ta) (tT X tb) σ H Q := by
  obtain ⟨φ, ph, ws, hH, hS, h⟩ := h
  refine tT.bind hH hS h fun x ph1 φ1 H1 hH1 s1 h => ?_
  cases x with
  | false => exact iteF ⟨φ1, ph1, ws, hH1, hS.mono s1, h.mono (fun _ _ k φ2 H2 hH2 s2 => k φ2 H2 hH2 (s1.trans s2)) fun _ _ z => z⟩
  | true => exact iteT (h φ1 H1 hH1 s1)
theorem iw_one {op : BoolOp} (ha : IT X a ta) : PW X (.BoolOp op [a] pos) (tT X ta) := by
  cases op with
  | And => exact pw_and1 ha
  | Or => exact pw_or1 ha
theorem iw_and (ha : IT X a ta) (hb : PW X (.BoolOp .And (b :: rest) pos) (tT X tb)) : PW X (.BoolOp .And (a :: b :: rest) pos) (tT X (tAndM ta tb)) :=
  fun wh pins s σ H Q I h => pw_and ha hb wh pins s σ H Q I (and_imp h)
theorem iw_or (ha : IT X a ta) (hb : PW X (.BoolOp .Or (b :: rest) pos) (tT X tb)) : PW X (.BoolOp .Or (a :: b :: rest) pos) (tT X (tOrM ta tb)) :=
  fun wh pins s σ H Q I h => pw_or ha hb wh pins s σ H Q I (or_imp h)
theorem ie_and (ha : IE X a ma) (hb : IE X (.BoolOp .And (b :: rest) pos) mb) : IE X (.BoolOp .And (a :: b :: rest) pos) (eAnd ma mb) := by
  refine PE.imp (pe_and ha hb) fun σ H Q h => ?_
  obtain ⟨φ, ph, ws, hH, hS, h⟩ := h
  refine tM.bind hH hS h fun x ph1 φ1 H1 vx hH1 s1 rx h => ?_
  cases rx with
  | bl c =>
    refine ⟨c, rfl, ?_⟩
    cases c with
    | true => exact iteT ⟨φ1, ph1, ws, hH1, hS.mono s1, h.mono (fun _ _ k φ2 H2 v hH2 s2 r2 => k φ2 H2 v hH2 (s1.trans s2) r2) fun _ _ z => z⟩
    | false => exact iteF (h φ1 H1 _ hH1 s1 (.bl false))
  | _ => exact h.elim
theorem ie_one {op : BoolOp} (ha : IE X a ma) : IE X (.BoolOp op [a] pos) ma := pe_one ha
def truW (w : W) : Po Bool := fun ph => match w with
  | .non => some (false, ph)
  | .bl b => some (b, ph)
  | .int i => some (i != 0, ph)
  | .str y => if y.length ≤ sizeLine then some ((y.length : Int) != 0, ph) else none
  | .tup ws => some (!ws.isEmpty, ph)
  | .fl ws => some (!ws.isEmpty, ph)
  | .ref i => match ph[i]? with
    | some (.lst ws) => some (!ws.isEmpty, ph)
    | _ => none
  | .exc .. => none
def eTru (m : EM) : TM := fun σ => bnd (m σ) fun w => lift (truW w)
theorem emp_of {K : PySem.W.Frag} {φ : Nat → Addr} {n : Nat} {H : Hp} {ws : List W} {vs : List V} (r : RelWs K φ n H ws vs) : (!vs.isEmpty) = !ws.isEmpty := by cases r <;> rfl
theorem it_tru (ha : IE X a ma) (he : ∀ whole, isTrue a X.env whole = (do let v ← whole; standAt a.pos; holding [v] (truthy v)) := by intro _; rfl) : IT X a (eTru ma) := by
  refine PT.imp (pt_truth ha he) fun σ H Q h => ?_
  obtain ⟨φ, ph, ws, hH, hS, h⟩ := h
  refine tM.bind hH hS h fun x ph1 φ1 H1 vx hH1 s1 rx h => ?_
  obtain ⟨b, ph2, e, k⟩ := run_lift h
  unfold truW at e
  cases rx with
  | non => cases e; exact ⟨_, rfl, k φ1 H1 hH1 s1⟩
  | bl b => cases e; exact ⟨_, rfl, k φ1 H1 hH1 s1⟩
  | int i => cases e; exact ⟨_, rfl, k φ1 H1 hH1 s1⟩
  | str y =>
    simp only at e
    split at e
    · rename_i hy
      cases e
      exact ⟨_, ⟨hy, rfl⟩, k φ1 H1 hH1 s1⟩
    · cases e
  | tup hq r => cases e; exact ⟨_, .inr (.inl ⟨_, SqT.of hq, rfl⟩), by rw [emp_of r]; exact k φ1 H1 hH1 s1⟩
  | fl hq r => cases e; exact ⟨_, .inl ⟨_, hq.sq, rfl⟩, by rw [emp_of r]; exact k φ1 H1 hH1 s1⟩
  | ref hi =>
    simp only at e
    split at e
    · rename_i ws' hw
      cases e
      obtain ⟨vs, hv, r⟩ := hH1.hp _ _ hw
      exact ⟨_, .inl ⟨vs, SqL.of hv, rfl⟩, by rw [emp_of r]; exact k φ1 H1 hH1 s1⟩
    · cases e
  | exc => cases e
end
def sNext : SM := fun σ => pur (.nx σ)
def sSeq (a b : SM) : SM := fun σ => bnd (a σ) fun f => match f with
  | .nx σ' => b σ'
  | f => pur f
def sExpr (e : EM) : SM := fun σ => bnd (e σ) fun _ => pur (.nx σ)
def sRet (e : EM) : SM := fun σ => bnd (e σ) fun w => pur (.rt w)
def sIf (t : TM) (a b : SM) : SM := fun σ => bnd (t σ) fun c => if c = true then a σ else b σ
abbrev GM := W → PSt → Mo PSt
def gN (i : Nat) : GM := fun w σ => pur (σ.set i (some w))
def sAsg (e : EM) (g : GM) : SM := fun σ => bnd (e σ) fun w => bnd (g w σ) fun σ' => pur (.nx σ')
def tG (X : Cx) (g : GM) : TG := fun v σ H Q => ∃ φ ph ws w, RelH X.K φ ph H ∧ RelS X.K φ ph.length H ws σ ∧ RelW X.K φ ph.length H w v ∧ (g w ws ph).Run (fun ws' ph' =>
  ∀ φ' H' σ', RelH X.K φ' ph' H' → Step X.K φ ph.length H φ' ph'.length H' → RelS X.K φ' ph'.length H' ws' σ' → Q σ' H') (XE X φ ph.length H)
abbrev IG (X : Cx) (tg : Expr) (g : GM) : Prop := PG X tg (tG X g)
section
variable {X : Cx} {e c : Expr} {m : EM} {t : TM} {a b : SM} {st : Stmt} {as bs rest : List Stmt} {pos : Pos} {tg : Expr} {g : GM}
theorem PG.imp {t t' : TG} (h : PG X tg t) (k : ∀ v σ H Q, t' v σ H Q → t v σ H Q) : PG X tg t' := fun pins s σ H v u Q I r q => h pins s σ H v u Q I r (k v σ H Q q)
theorem iss_nil : ISs X [] sNext := PSs.imp pss_nil fun D σ H h => by
  obtain ⟨φ, ph, ws, hH, hS, h⟩ := h
  exact h φ H hH Step.refl σ hS
theorem seq_imp {D : Ends} {σ : L2.St} {H : Hp} (h : tS X (sSeq a b) D σ H) : tSeq (tS X a) (tS X b) D σ H := by
  obtain ⟨φ, ph, ws, hH, hS, h⟩ := h
  unfold sSeq at h
  rw [run_bnd] at h
  refine ⟨φ, ph, ws, hH, hS, h.mono (fun f ph1 h φ1 H1 hH1 s1 => ?_) fun _ _ z => z⟩
  cases f with
  | nx ws1 => exact fun σ1 hS1 => ⟨φ1, ph1, ws1, hH1, hS1, h.mono (fun f ph2 k φ2 H2 hH2 s2 => k φ2 H2 hH2 (s1.trans s2)) fun _ _ z => z.step s1⟩
  | bk ws1 => exact h φ1 H1 hH1 s1
  | ct ws1 => exact h φ1 H1 hH1 s1
  | rt w => exact h φ1 H1 hH1 s1
theorem iss_cons (h1 : IS X st a) (h2 : ISs X rest b) : ISs X (st :: rest) (sSeq a b) := PSs.imp (pss_cons h1 h2) fun _ _ _ h => seq_imp h
theorem iss_one (h1 : IS X st a) : ISs X [st] a := pss_one h1
theorem is_expr (he : IE X e m) (hs : swapsWith e none pos.line X.env = pure false := by rfl) : IS X (.Expr e pos) (sExpr m) := PS.imp (ps_expr he hs) fun D σ H h => by
  obtain ⟨φ, ph, ws, hH, hS, h⟩ := h
  exact tM.bind hH hS h fun w ph1 φ1 H1 v hH1 s1 r1 h => h φ1 H1 hH1 s1 σ (hS.mono s1)
theorem is_ret (he : IE X e m) : IS X (.Return (some e) pos) (sRet m) := PS.imp (ps_ret he) fun D σ H h => by
  obtain ⟨φ, ph, ws, hH, hS, h⟩ := h
  exact tM.bind hH hS h fun w ph1 φ1 H1 v hH1 s1 r1 h => h φ1 H1 hH1 s1 v r1
theorem is_if (hc : IT X c t) (ha : ISs X as a) (hb : ISs X bs b) : IS X (.If c as bs pos) (sIf t a b) := PS.imp (ps_if hc ha hb) fun D σ H h => by
  obtain ⟨φ, ph, ws, hH, hS, h⟩ := h
  refine tT.bind hH hS h fun x ph1 φ1 H1 hH1 s1 h => ?_
  cases x with
  | true => exact iteT ⟨φ1, ph1, ws, hH1, hS.mono s1, h.mono (fun _ _ k φ2 H2 hH2 s2 => k φ2 H2 hH2 (s1.trans s2)) fun _ _ z => z⟩
  | false => exact iteF ⟨φ1, ph1, ws, hH1, hS.mono s1, h.mono (fun _ _ k φ2 H2 hH2 s2 => k φ2 H2 hH2 (s1.trans s2)) fun _ _ z => z⟩
theorem ig_name {i : Nat} {x : Str} (hN : X.N.Nodup) (hi : X.N[i]? = some x) (hx : Loc X.env.scope x) (hf : X.fn x = true ∨ X.env.scope.names.lookup x = some .local := by first | exact .inl rfl | exact .inr rfl | assumption) : IG X (.Name x pos) (gN i) :=
  PG.imp (pg_name hN hi hx hf) fun v σ H Q h => by
    obtain ⟨φ, ph, ws, w, hH, hS, rw', h⟩ := h
    exact h φ H _ hH Step.refl (hS.set rw' i)
theorem tG.bind {β : Type} {g : GM} {σ : L2.St} {H : Hp} {Q : L2.St → Hp → Prop} {φ : Nat → Addr} {ph : PH} {ws : PSt} {w : W} {v : V} {f : PSt → Mo β} {N : β → PH → Prop} (hH : RelH X.K φ ph H) (hS : RelS X.K φ ph.length H ws σ) (rw' : RelW X.K φ ph.length H w v) (h : (bnd (g w ws) f ph).Run N (XE X φ ph.length H))
    (k : ∀ ws1 ph1 φ1 H1 σ1, RelH X.K φ1 ph1 H1 → Step X.K φ ph.length H φ1 ph1.length H1 → RelS X.K φ1 ph1.length H1 ws1 σ1 → (f ws1 ph1).Run N (XE X φ1 ph1.length H1) → Q σ1 H1) : tG X g v σ H Q := by
  rw [run_bnd] at h
  exact ⟨φ, ph, ws, w, hH, hS, rw', h.mono (fun ws1 ph1 h1 φ1 H1 σ1 hH1 s1 r1 => k ws1 ph1 φ1 H1 σ1 hH1 s1 r1 (h1.mono (fun _ _ z => z) fun _ _ z => z.step s1)) fun _ _ z => z⟩
theorem asg_imp {D : Ends} {σ : L2.St} {H : Hp} (h : tS X (sAsg m g) D σ H) : tAsg (tM X m) (tG X g) D σ H := by
  obtain ⟨φ, ph, ws, hH, hS, h⟩ := h
  refine tM.bind hH hS h fun w ph1 φ1 H1 v hH1 s1 r1 h => ?_
  exact tG.bind hH1 (hS.mono s1) r1 h fun ws2 ph2 φ2 H2 σ2 hH2 s2 hS2 h => h φ2 H2 hH2 (s1.trans s2) σ2 hS2
theorem is_set {i : Nat} {x : Str} {pos' : Pos} (hN : X.N.Nodup) (hi : X.N[i]? = some x) (hx : Loc X.env.scope x) (he : IE X e m) (hs : swapsWith e (some (.Name x pos')) pos.line X.env = pure false := by rfl)
    (hf : X.fn x = true ∨ X.env.scope.names.lookup x = some .local := by first | exact .inl rfl | exact .inr rfl | assumption) : IS X (.Assign [.Name x pos'] e pos) (sAsg m (gN i)) :=
  PS.imp (ps_set hN hi hx he hs hf) fun D σ H h => by
    obtain ⟨φ, ph, ws, hH, hS, h⟩ := h
    exact tM.bind hH hS h fun w ph1 φ1 H1 v hH1 s1 r1 h => h φ1 H1 hH1 s1 _ ((hS.mono s1).set r1 i)
theorem is_asg (he : IE X e m) (hg : IG X tg g) (hs : swapsWithSole [tg] e pos.line X.env = pure false := by rfl) (hw : swappedStores [tg] e X.env = pure none := by rfl)
    (h1 : (assignEach [tg] X.env).map (·.2) = [assign tg X.env] := by rfl) : IS X (.Assign [tg] e pos) (sAsg m g) := PS.imp (ps_asg he hg hs hw h1) fun _ _ _ h => asg_imp h
end
abbrev IM := PSt → Mo (List W × (PH → Bool))
def forG (chk : PH → Bool) (g : GM) (b : SM) : List W → SM
  | [], σ => fun ph => if chk ph = true then .ok (.nx σ) ph else .no
  | x :: xs, σ => fun ph => if chk ph = true then bnd (g x σ) (fun σ1 => bnd (b σ1) fun f => match f with
      | .nx σ' => forG chk g b xs σ'
      | .ct σ' => forG chk g b xs σ'
      | .bk σ' => pur (.nx σ')
      | .rt w => pur (.rt w)) ph else .no
def sFor (im : IM) (g : GM) (b : SM) : SM := fun σ => bnd (im σ) fun r => forG r.2 g b r.1 σ
def ItI (K : PySem.W.Frag) (J : It) (items : List W) (chk : PH → Bool) (φ : Nat → Addr) (n : Nat) (H : Hp) : Prop :=
  ∀ φ' ph' H', RelH K φ' ph' H' → Step K φ n H φ' ph'.length H' → chk ph' = true → ∀ i : Nat,
    (∀ w, items[i]? = some w → J.go i H' ∧ ∀ x H'', J.yld i H' x H'' → RelH K φ' ph' H'' ∧ Step K φ' ph'.length H' φ' ph'.length H'' ∧ RelW K φ' ph'.length H'' w x) ∧ (items[i]? = none → J.stop i H')
def tI (X : Cx) (im : IM) : TI := fun σ H R => ∃ φ ph ws, RelH X.K φ ph H ∧ RelS X.K φ ph.length H ws σ ∧ (im ws ph).Run (fun r ph' =>
  ∀ φ' H' J, RelH X.K φ' ph' H' → Step X.K φ ph.length H φ' ph'.length H' → ItI X.K J r.1 r.2 φ' ph'.length H' → R J H') (XE X φ ph.length H)
abbrev II (X : Cx) (tg iter : Expr) (im : IM) : Prop := PI X tg iter (tI X im)
section
variable {X : Cx} {iter tg c : Expr} {im : IM} {g : GM} {b : SM} {t : TM} {body : List Stmt} {pos : Pos}
theorem for_imp {D : Ends} {σ : L2.St} {H : Hp} (h : tS X (sFor im g b) D σ H) : tFor (tI X im) (tG X g) (tS X b) D σ H := by
  obtain ⟨φ, ph, ws, hH, hS, h⟩ := h
  unfold sFor at h
  rw [run_bnd] at h
  refine ⟨φ, ph, ws, hH, hS, h.mono (fun r ph1 h φ1 H1 J hH1 s1 hJ => ?_) fun _ _ z => z⟩
  obtain ⟨items, chk⟩ := r
  refine ⟨fun i m σ2 H2 => ∃ φ2 ph2 ws2, m = (items.drop i).length ∧ RelH X.K φ2 ph2 H2 ∧ RelS X.K φ2 ph2.length H2 ws2 σ2 ∧ Step X.K φ1 ph1.length H1 φ2 ph2.length H2 ∧
      (forG chk g b (items.drop i) ws2 ph2).Run (fun f ph' => ∀ φ' H', RelH X.K φ' ph' H' → Step X.K φ2 ph2.length H2 φ' ph'.length H' → EndF X D φ' ph' H' f) (XE X φ2 ph2.length H2),
    ⟨_, φ1, ph1, ws, rfl, hH1, hS.mono s1, Step.refl, h.mono (fun f ph' k φ' H' r' s' => k φ' H' r' (s1.trans s')) fun _ _ z => z.step s1⟩, ?_⟩
  rintro i m σ2 H2 ⟨φ2, ph2, ws2, rfl, hH2, hS2, s2, h2⟩
  cases hd : items.drop i with
  | nil =>
    rw [hd] at h2
    unfold forG at h2
    split at h2
    · rename_i hc
      have hn : items[i]? = none := by
        have : items.length ≤ i := by simpa using hd
        simpa using this
      exact .inl ⟨(hJ φ2 _ H2 hH2 s2 hc i).2 hn, h2 φ2 H2 hH2 Step.refl σ2 hS2⟩
    · exact h2.elim
  | cons x xs =>
    rw [hd] at h2
    unfold forG at h2
    split at h2
    · rename_i hc
      have hx : items[i]? = some x := by
        have := congrArg (fun l => l[0]?) hd
        simpa using this
      have hxs : items.drop (i + 1) = xs := by
        have := congrArg (fun l => l.drop 1) hd
        simpa [List.drop_drop, Nat.add_comm] using this
      obtain ⟨hgo, hy⟩ := (hJ φ2 _ H2 hH2 s2 hc i).1 x hx
      refine .inr ⟨hgo, fun σ' H' => ∃ φ' ph'' ws', RelH X.K φ' ph'' H' ∧ RelS X.K φ' ph''.length H' ws' σ' ∧ Step X.K φ1 ph1.length H1 φ' ph''.length H' ∧
          (forG chk g b xs ws' ph'').Run (fun f p' => ∀ φ3 H3, RelH X.K φ3 p' H3 → Step X.K φ' ph''.length H' φ3 p'.length H3 → EndF X D φ3 p' H3 f) (XE X φ' ph''.length H'),
        fun σ' H' ⟨φ', ph'', ws', q1, q2, q3, q4⟩ => ⟨xs.length, by simp, φ', ph'', ws', by rw [hxs], q1, q2, q3, by rw [hxs]; exact q4⟩, fun v H3 y => ?_⟩
      obtain ⟨hH3, s3, rv⟩ := hy v H3 y
      have h2' : (bnd (g x ws2) (fun σ1 => bnd (b σ1) fun f => match f with
        | .nx σ' => forG chk g b xs σ'
        | .ct σ' => forG chk g b xs σ'
        | .bk σ' => pur (.nx σ')
        | .rt w => pur (.rt w)) ph2).Run (fun f ph' => ∀ φ' H', RelH X.K φ' ph' H' → Step X.K φ2 ph2.length H2 φ' ph'.length H' → EndF X D φ' ph' H' f) (XE X φ2 ph2.length H3) := Out.Run.mono h2 (fun _ _ z => z) fun _ _ z => z.step s3
      refine tG.bind hH3 (hS2.mono s3) rv h2' fun ws4 ph4 φ4 H4 σ4 hH4 s4 hS4 h4 => ?_
      rw [run_bnd] at h4
      refine ⟨φ4, ph4, ws4, hH4, hS4, h4.mono (fun f ph5 h5 φ5 H5 hH5 s5 => ?_) fun _ _ z => z⟩
      have sall := ((s2.trans s3).trans s4).trans s5
      have s25 := (s3.trans s4).trans s5
      cases f with
      | nx ws5 => exact fun σ5 hS5 => ⟨φ5, ph5, ws5, hH5, hS5, sall, h5.mono (fun f p' k φ' H' r' s' => k φ' H' r' (s25.trans s')) fun _ _ z => z.step s5⟩
      | ct ws5 => exact fun σ5 hS5 => ⟨φ5, ph5, ws5, hH5, hS5, sall, h5.mono (fun f p' k φ' H' r' s' => k φ' H' r' (s25.trans s')) fun _ _ z => z.step s5⟩
      | bk ws5 => exact fun σ5 hS5 => h5 φ5 H5 hH5 s25 σ5 hS5
      | rt w => exact fun v hv => h5 φ5 H5 hH5 s25 v hv
    · exact h2.elim
theorem PI.imp {t t' : TI} (h : PI X tg iter t) (k : ∀ σ H R, t' σ H R → t σ H R) : PI X tg iter t' := fun pins s σ H R I q => h pins s σ H R I (k σ H R q)
theorem is_for (hp : PassesOwn (model X.prog X.w) X.A X.env X.xe) (hc : X.calm = true) (hi : II X tg iter im) (hg : IG X tg g) (hb : ISs X body b) (hs : ∀ x, foldedSetIterable iter X.env x = pure x := by intro _; rfl) :
    IS X (.For tg iter body [] pos) (sFor im g b) := PS.imp (ps_for hp hc hi hg hb hs) fun _ _ _ h => for_imp h
def seqI (w : W) : Po (List W × (PH → Bool)) := fun ph => match w with
  | .ref i => match ph[i]? with
    | some (.lst ws) => some ((ws, fun ph' => decide (ph'[i]? = some (.lst ws))), ph)
    | _ => none
  | .fl ws => some ((ws, fun _ => true), ph)
  | _ => none
def tupI (w : W) : Po (List W × (PH → Bool)) := fun ph => match w with
  | .tup ws => some ((ws, fun _ => true), ph)
  | _ => none
def iSeq (m : EM) : IM := fun σ => bnd (m σ) fun w => lift (seqI w)
def iTupM (m : EM) : IM := fun σ => bnd (m σ) fun w => lift (tupI w)
theorem ii_list {l : Expr} {m : EM} (hl : IE X l m) : II X tg l (iSeq m) := by
  refine PI.imp (pi_list hl) fun σ H R h => ?_
  obtain ⟨φ, ph, ws, hH, hS, h⟩ := h
  refine tM.bind hH hS h fun w ph1 φ1 H1 v hH1 s1 r1 h => ?_
  obtain ⟨r, ph', e, k⟩ := run_lift h
  unfold seqI at e
  cases r1 with
  | ref hi =>
    rename_i i
    simp only at e
    split at e
    · rename_i items hw
      cases e
      obtain ⟨vs, hv, r⟩ := hH1.hp _ _ hw
      refine ⟨_, rfl, ⟨vs, SqL.of hv⟩, k φ1 H1 _ hH1 s1 ?_⟩
      intro φ2 ph2 H2 hH2 s2 hc j
      have hc' : ph2[i]? = some (.lst items) := of_decide_eq_true hc
      obtain ⟨us, hu, ru⟩ := hH2.hp _ _ hc'
      rw [s2.eq i hi] at hu
      refine ⟨fun w hw2 => ?_, fun hn => ?_⟩
      · obtain ⟨u, eu, ru'⟩ := ru.get hw2
        refine ⟨⟨us, u, SqL.of hu, eu⟩, fun x H'' hy => ?_⟩
        obtain ⟨rfl, hy⟩ := hy
        have := hy us (SqL.of hu)
        rw [eu] at this; cases this
        exact ⟨hH2, Step.refl, ru'⟩
      · refine ⟨us, SqL.of hu, ?_⟩
        rw [← ru.length]
        simpa using hn
    · cases e
  | fl hq r =>
    cases e
    refine ⟨_, rfl, ⟨_, hq.sq⟩, k φ1 H1 _ hH1 s1 ?_⟩
    intro φ2 ph2 H2 hH2 s2 hc j
    have h2 := RelW.mono s2 (.fl hq r)
    cases h2 with
    | fl h2 r2 =>
      refine ⟨fun w hw2 => ?_, fun hn => ?_⟩
      · obtain ⟨u, eu, ru'⟩ := r2.get hw2
        refine ⟨⟨_, u, h2.sq, eu⟩, fun x H'' hy => ?_⟩
        obtain ⟨rfl, hy⟩ := hy
        have := hy _ h2.sq
        rw [eu] at this; cases this
        exact ⟨hH2, Step.refl, ru'⟩
      · refine ⟨_, h2.sq, ?_⟩
        rw [← r2.length]
        simpa using hn
  | _ => cases e
theorem ii_tup {l : Expr} {m : EM} (hl : IE X l m) : II X tg l (iTupM m) := by
  refine PI.imp (pi_tup hl) fun σ H R h => ?_
  obtain ⟨φ, ph, ws, hH, hS, h⟩ := h
  refine tM.bind hH hS h fun w ph1 φ1 H1 v hH1 s1 r1 h => ?_
  obtain ⟨r, ph', e, k⟩ := run_lift h
  unfold tupI at e
  cases r1 with
  | tup hq r =>
    cases e
    refine ⟨_, rfl, ⟨_, SqT.of hq⟩, k φ1 H1 _ hH1 s1 ?_⟩
    intro φ2 ph2 H2 hH2 s2 hc j
    have h2 := SqT.of (K := X.K) (s2.tup _ _ hq)
    have r2 := r.mono s2
    refine ⟨fun w hw2 => ?_, fun hn => ?_⟩
    · obtain ⟨u, eu, ru'⟩ := r2.get hw2
      refine ⟨⟨_, u, h2, eu⟩, fun x H'' hy => ?_⟩
      obtain ⟨rfl, hy⟩ := hy
      have := hy _ h2
      rw [eu] at this; cases this
      exact ⟨hH2, Step.refl, ru'⟩
    · refine ⟨_, h2, ?_⟩
      rw [← r2.length]
      simpa using hn
  | _ => cases e
def rngW (lo : Int) (n : Nat) : List W := (List.range n).map fun i : Nat => .int (lo + ((i : Nat) : Int))
def rng1 (xs : List W) : Po (List W × (PH → Bool)) := fun ph => match xs with
  | [.int j] => if -(2 ^ 62) ≤ j ∧ j < 2 ^ 62 then some ((rngW 0 j.toNat, fun _ => true), ph) else none
  | _ => none
def iR1 (m : AM) : IM := fun σ => bnd (m σ) fun xs => lift (rng1 xs)
theorem rng_it {K : PySem.W.Frag} {lo : Int} {n : Nat} {chk : PH → Bool} {φ : Nat → Addr} {k : Nat} {H : Hp} : ItI K (Itr lo n) (rngW lo n) chk φ k H := by
  intro φ2 ph2 H2 hH2 s2 hc j
  unfold rngW
  refine ⟨fun w hw2 => ?_, fun hn => ?_⟩
  · rw [List.getElem?_map] at hw2
    have hj : j < n := by
      by_cases hj : j < n
      · exact hj
      · rw [List.getElem?_eq_none (by simpa using hj)] at hw2; cases hw2
    rw [List.getElem?_range hj] at hw2
    cases hw2
    refine ⟨hj, fun x H'' hy => ?_⟩
    obtain ⟨rfl, rfl⟩ := hy
    exact ⟨hH2, Step.refl, .int _⟩
  · have : n ≤ j := by simpa using hn
    exact this
theorem ii_range1 {a : Expr} {m : AM} {p : Pos} (hg : Gl X "range") (hm : X.mg "range" = none) (ha : IA X [a] m) (hs : starEach [a] X.env = [(false, eval a X.env)] := by rfl) : II X tg (.Call (.Name "range" p) [a] [] pos) (iR1 m) := by
  refine PI.imp (pi_range1 hg hm ha hs) fun σ H R h => ?_
  obtain ⟨φ, ph, ws, hH, hS, h⟩ := h
  refine tA.bind hH hS h fun xs ph1 φ1 H1 vs hH1 s1 r1 h => ?_
  obtain ⟨r, ph', e, k⟩ := run_lift h
  unfold rng1 at e
  split at e
  · split at e
    · rename_i hc
      cases e
      cases r1 with
      | cons r r' => cases r; cases r'; exact ⟨_, rfl, hc.1, hc.2, k φ1 H1 _ hH1 s1 rng_it⟩
    · cases e
  · cases e
def whN (t : TM) (b : SM) : Nat → SM
  | 0 => fun _ => nop
  | n + 1 => fun σ => bnd (t σ) fun c => if c = true then bnd (b σ) fun f => match f with
      | .nx σ' => whN t b n σ'
      | .ct σ' => whN t b n σ'
      | .bk σ' => pur (.nx σ')
      | .rt w => pur (.rt w)
    else pur (.nx σ)
def Out.isNo {α : Type} : Out α → Bool
  | .no => true
  | _ => false
open Classical in
noncomputable def sWhile (t : TM) (b : SM) : SM := fun σ ph => if h : ∃ n, (whN t b n σ ph).isNo = false then whN t b h.choose σ ph else .no
theorem while_imp {D : Ends} {σ : L2.St} {H : Hp} (h : tS X (sWhile t b) D σ H) : tWhile (tT X t) (tS X b) D σ H := by
  obtain ⟨φ, ph, ws, hH, hS, h⟩ := h
  have ⟨n, h⟩ : ∃ n, (whN t b n ws ph).Run (fun f ph' => ∀ φ' H', RelH X.K φ' ph' H' → Step X.K φ ph.length H φ' ph'.length H' → EndF X D φ' ph' H' f) (XE X φ ph.length H) := by
    unfold sWhile at h
    split at h
    · exact ⟨_, h⟩
    · exact h.elim
  refine ⟨fun m σ2 H2 => ∃ φ2 ph2 ws2, RelH X.K φ2 ph2 H2 ∧ RelS X.K φ2 ph2.length H2 ws2 σ2 ∧
    (whN t b m ws2 ph2).Run (fun f ph' => ∀ φ' H', RelH X.K φ' ph' H' → Step X.K φ2 ph2.length H2 φ' ph'.length H' → EndF X D φ' ph' H' f) (XE X φ2 ph2.length H2), ⟨n, φ, ph, ws, hH, hS, h⟩, ?_⟩
  rintro m σ2 H2 ⟨φ2, ph2, ws2, hH2, hS2, h2⟩
  cases m with
  | zero => exact h2.elim
  | succ m =>
    refine tT.bind hH2 hS2 h2 fun c ph3 φ3 H3 hH3 s3 h3 => ?_
    cases c with
    | false => exact iteF (h3 φ3 H3 hH3 s3 σ2 (hS2.mono s3))
    | true =>
      have h3' : (bnd (b ws2) (fun f => match f with
        | .nx σ' => whN t b m σ'
        | .ct σ' => whN t b m σ'
        | .bk σ' => pur (.nx σ')
        | .rt w => pur (.rt w)) ph3).Run _ _ := h3
      rw [run_bnd] at h3'
      refine iteT ⟨fun σ' H' => ∃ φ' ph'' ws', RelH X.K φ' ph'' H' ∧ RelS X.K φ' ph''.length H' ws' σ' ∧
        (whN t b m ws' ph'').Run (fun f p' => ∀ φ4 H4, RelH X.K φ4 p' H4 → Step X.K φ' ph''.length H' φ4 p'.length H4 → EndF X D φ4 p' H4 f) (XE X φ' ph''.length H'), fun σ' H' q => ⟨m, Nat.lt_succ_self _, q⟩, ?_⟩
      refine ⟨φ3, ph3, ws2, hH3, hS2.mono s3, h3'.mono (fun f ph5 h5 φ5 H5 hH5 s5 => ?_) fun _ _ z => z⟩
      have s25 := s3.trans s5
      cases f with
      | nx ws5 => exact fun σ5 hS5 => ⟨φ5, ph5, ws5, hH5, hS5, h5.mono (fun f p' k φ' H' r' s' => k φ' H' r' (s25.trans s')) fun _ _ z => z.step s5⟩
      | ct ws5 => exact fun σ5 hS5 => ⟨φ5, ph5, ws5, hH5, hS5, h5.mono (fun f p' k φ' H' r' s' => k φ' H' r' (s25.trans s')) fun _ _ z => z.step s5⟩
      | bk ws5 => exact fun σ5 hS5 => h5 φ5 H5 hH5 s25 σ5 hS5
      | rt w => exact fun v hv => h5 φ5 H5 hH5 s25 v hv
theorem is_while (hp : PassesOwn (model X.prog X.w) X.A X.env X.xe) (hc : IT X c t) (hb : ISs X body b) : IS X (.While c body [] pos) (sWhile t b) :=
  PS.imp (ps_while hp hc hb) fun _ _ _ h => while_imp h
end
end IL
namespace IL
open PySem PySem.Spec PyProof.Rows L2
def aNil : AM := fun _ => pur []
def aCons (e : EM) (r : AM) : AM := fun σ => bnd (e σ) fun w => bnd (r σ) fun ws => pur (w :: ws)
def newT (ws : List W) : Po W := fun ph => if ws.length ≤ sizeLine then some (.tup ws, ph) else none
def newL (ws : List W) : Po W := fun ph => if ws.length ≤ sizeLine then some (.ref ph.length, ph ++ [.lst ws]) else none
def eTup (a : AM) : EM := fun σ => bnd (a σ) fun ws => lift (newT ws)
def eLst (a : AM) : EM := fun σ => bnd (a σ) fun ws => lift (newL ws)
section
variable {X : Cx} {e : Expr} {es : List Expr} {m : EM} {a : AM} {pos : Pos}
theorem ia_nil : IA X [] aNil := PA.imp pa_nil fun σ H Q h => by
  obtain ⟨φ, ph, ws, hH, hS, h⟩ := h
  exact h φ H [] hH Step.refl .nil
theorem ia_cons (he : IE X e m) (hr : IA X es a) (hs : starEach (e :: es) X.env = (false, eval e X.env) :: starEach es X.env := by rfl) : IA X (e :: es) (aCons m a) := PA.imp (pa_cons he hr hs) fun σ H Q h => by
  obtain ⟨φ, ph, ws, hH, hS, h⟩ := h
  refine tM.bind hH hS h fun w ph1 φ1 H1 v hH1 s1 r1 h => tA.bind hH1 (hS.mono s1) h fun ys ph2 φ2 H2 vs hH2 s2 r2 h => ?_
  exact h φ2 H2 _ hH2 (s1.trans s2) (.cons (r1.mono s2) r2)
theorem ie_tup {x1 : Nat} (h : IA X es a) : IE X (.Tuple es x1 pos) (eTup a) := PE.imp (pe_tup h) fun σ H Q h => by
  obtain ⟨φ, ph, ws, hH, hS, h⟩ := h
  refine tA.bind hH hS h fun xs ph1 φ1 H1 vs hH1 s1 r1 h => ?_
  obtain ⟨w, ph', e, k⟩ := run_lift h
  unfold newT at e
  split at e
  · rename_i hz
    cases e
    refine ⟨by rw [← r1.length]; exact hz, fun p hp => ?_⟩
    exact k φ1 _ _ (hH1.tup hp) (s1.trans (step_tup hp)) (.tup upd_same (r1.mono (step_tup hp)))
  · cases e
theorem new_list {K : PySem.W.Frag} {φ : Nat → Addr} {ph : PH} {H : Hp} {p : Addr} {ws : List W} {vs : List V} (hH : RelH K φ ph H) (r : RelWs K φ ph.length H ws vs) (hp : H p = none) :
    RelH K (ext φ ph.length p) (ph ++ [.lst ws]) (upd H p (.lst vs)) ∧ Step K φ ph.length H (ext φ ph.length p) (ph ++ [PO.lst ws]).length (upd H p (.lst vs)) ∧ RelW K (ext φ ph.length p) (ph ++ [PO.lst ws]).length (upd H p (.lst vs)) (.ref ph.length) (.ref p) := by
  have hl : (ph ++ [PO.lst ws]).length = ph.length + 1 := by simp
  rw [hl]
  have s := step_new (K := K) (φ := φ) (n := ph.length) (o := HO.lst vs) hp
  refine ⟨hH.new hp ⟨vs, upd_same, r.mono s⟩, s, ?_⟩
  have q : RelW K (ext φ ph.length p) (ph.length + 1) (upd H p (.lst vs)) (.ref ph.length) (.ref (ext φ ph.length p ph.length)) := .ref (Nat.lt_succ_self _)
  rw [ext_eq] at q
  exact q
theorem ie_lst (h : IA X es a) : IE X (.List es pos) (eLst a) := PE.imp (pe_lst h) fun σ H Q h => by
  obtain ⟨φ, ph, ws, hH, hS, h⟩ := h
  refine tA.bind hH hS h fun xs ph1 φ1 H1 vs hH1 s1 r1 h => ?_
  obtain ⟨w, ph', e, k⟩ := run_lift h
  unfold newL at e
  split at e
  · rename_i hz
    cases e
    refine ⟨by rw [← r1.length]; exact hz, fun p hp => ?_⟩
    obtain ⟨q1, q2, q3⟩ := new_list hH1 r1 hp
    exact k _ _ _ q1 (s1.trans q2) q3
  · cases e
end
def eCall (f : List W → Mo W) (a : AM) : EM := fun σ => bnd (a σ) f
def fEnd : Fl → Mo W
  | .rt w => pur w
  | .nx _ => pur .non
  | _ => nop
def fM (body : SM) (n np : Nat) (args : List W) : Mo W := if args.length = np then bnd (body (args.map some ++ List.replicate (n - args.length) none)) fEnd else nop
theorem fM_len {body : SM} {n np : Nat} {xs : List W} {ph : PH} (h : xs.length ≠ np) : fM body n np xs ph = .no := by
  unfold fM
  rw [if_neg h]
  rfl
def CXW (P : Program) (w : World) : CXT := fun l H s E e s' => ∃ C H', Flew P w l H s C H' e s' ∧ E (.ref C) none H'
def spM (K : PySem.W.Frag) (mg : Str → Option Value) (np : Nat) (f : List W → Mo W) : Sp := fun vs H Q E => vs.length = np ∧ ∃ φ ph args, RelH K φ ph H ∧ RelWs K φ ph.length H args vs ∧ (f args ph).Run (fun w ph' =>
  ∀ φ' H' v, RelH K φ' ph' H' → Step K φ ph.length H φ' ph'.length H' → RelW K φ' ph'.length H' w v → Q v H') (fun x ph' =>
  ∀ φ' H' C, RelH K φ' ph' H' → Step K φ ph.length H φ' ph'.length H' → mg x.cls = some (.ref C) → x.fs = [] → E (.ref C) none H')
section
variable {X : Cx} {k : Nat} {f : Addr} {fd : FuncData} {ps : List Str} {fm : List W → Mo W} {x : Str} {p pos : Pos} {e : Expr} {es : List Expr} {a : AM}
theorem run_fnx {CX : CXT} {sp : Sp} {E : XK} {pins : List (Addr × Obj)} {σ : L2.St} {H : Hp} {s : Shared} {Q : VK} {us : List Value} {vs : List V} (F : FnOk X.prog X.w X.K X.mg X.base CX k f fd ps sp) (hr : Room k X.A) (hb : Binds X.K fd ps [])
    (I : Inv X pins σ H s) (r : Vals vs us) (h : sp vs H Q E) (hx : ∀ e s', CX X.stack H s E e s' → X.xe e s') : wpAny (model X.prog X.w) X.A (call (.ref f) us) (EP X pins σ Q) X.xe s := by
  have hl : (us ++ []).length = ps.length := by rw [List.append_nil, ← r.length]; exact F.len _ _ _ _ h
  have hbb := hb s us I.kIn hl
  rw [List.append_nil] at hbb
  refine wpAny_call (codeAny_mono (F.run X.A X.stack s H ⟨us, []⟩ us vs Q E hr I.env0 hbb r h) fun r s' hq => ?_)
  cases r with
  | error e => exact hx e s' hq
  | ok fl =>
    cases fl with
    | ret u => exact I.after hq
    | _ => exact False.elim hq
theorem ie_call (F : FnOk X.prog X.w X.K X.mg X.base (CXW X.prog X.w) k f fd ps (spM X.K X.mg ps.length fm)) (hl : ∀ {xs : List W} {ph : PH}, xs.length ≠ ps.length → fm xs ph = .no) (hr : Room k X.A) (hg : Gl X x) (hm : X.mg x = some (.ref f))
    (hk : PySem.W.keepIn X.K (.ref f) = true) (hb : Binds X.K fd ps []) (ha : IA X (e :: es) a) (hdb : (x == ("__debug__" : Str)) = false := by decide) (he : starEach (e :: es) X.env = (false, eval e X.env) :: starEach es X.env := by rfl) (hpl : (backTo pos (starEach es X.env)).any (·.1) = false := by rfl) :
    IE X (.Call (.Name x p) (e :: es) [] pos) (eCall fm a) := by
  intro pins s σ H Q I h
  obtain ⟨φ, ph, ws, hH, hS, h⟩ := h
  have hA : tA X a σ H (fun vs H1 => ∃ φ1 ph1 xs, RelH X.K φ1 ph1 H1 ∧ RelWs X.K φ1 ph1.length H1 xs vs ∧ (fm xs ph1).Run (fun w ph' => ∀ φ' H' v, RelH X.K φ' ph' H' → Step X.K φ1 ph1.length H1 φ' ph'.length H' → RelW X.K φ' ph'.length H' w v → Q v H') (XE X φ1 ph1.length H1)) :=
    tA.bind hH hS h fun xs ph1 φ1 H1 vs hH1 s1 r1 h => ⟨φ1, ph1, xs, hH1, r1, h.mono (fun w ph' k φ' H' v r' s' q => k φ' H' v r' (s1.trans s') q) fun _ _ z => z⟩
  refine wpAny_Call_Name_kw (ld_glob I hg hm (PySem.W.callWith_K (h₀ := X.base) I.ok.mod.kin hk (thn (ha pos pins s σ H _ I hA) fun us s1 ⟨vs, H1, I1, r, q⟩ => ⟨I1.kIn, ?_⟩) he hpl) hdb)
  obtain ⟨φ1, ph1, xs, hH1, r1, h1⟩ := q
  have hlen : vs.length = ps.length := by
    rw [← r1.length]
    by_cases z : xs.length = ps.length
    · exact z
    · rw [hl z] at h1; exact h1.elim
  refine run_fnx (E := fun c _ H' => ∃ x ph' φ', fm xs ph1 = .ex x ph' ∧ RelH X.K φ' ph' H' ∧ Step X.K φ1 ph1.length H1 φ' ph'.length H' ∧ ∃ C, c = .ref C ∧ X.mg x.cls = some (.ref C) ∧ x.fs = []) F hr hb I1 r ⟨hlen, φ1, ph1, xs, hH1, r1, ?_⟩ fun e s' hx => ?_
  · cases q : fm xs ph1 with
    | ok w ph' => rw [q] at h1; exact h1
    | ex x ph' => exact fun φ' H' C hr hs hm hf => ⟨x, ph', φ', rfl, hr, hs, C, rfl, hm, hf⟩
    | no => rw [q] at h1; exact h1
  · obtain ⟨C, H', hfl, x, ph', φ', ef, hr', hs', C', ec, hm', hf'⟩ := hx
    cases ec
    rw [ef] at h1
    exact h1 φ' H' e s' hr' hs' ⟨C, hm', hf', .inr ⟨pins, σ, H1, s1, I1, hfl⟩⟩
end
section
variable {P : Program} {w : World} {K : PySem.W.Frag} {mg : Str → Option Value} {base : Heap}
theorem hide_ok {H' : Hp} {h : Heap} {fr : List Addr} (hok : HOk P w H' h) (hf : ∀ b ∈ fr, H' b = none) : HOk P w H' (PySem.W.hideAll h fr) := fun a o e => by
  refine (hok a o e).stay (fun b u hb q => PySem.W.hideAll_get _ q fun hm => ?_) (fun _ q => q) fun _ _ q => q
  have := hf b hm
  rcases hb with z | z
  · rw [z, e] at this; cases this
  · rw [z] at this; cases this
theorem frs_cons {env : Env} {l : List Env} (hf : env.frame = some env.locals) : frs (env :: l) = env.locals :: frs l := by
  unfold frs
  rw [List.filterMap_cons, hf]
theorem leave_made {X : Cx} {C : Addr} {H' : Hp} {e : Value} {s' : Shared} {E : Value → Shared → Prop} (hst : X.stack = X.env :: X.outer) (hf : X.env.frame = some X.env.locals) (hex : X.ex = []) (hm : Made X C H' e s') :
    wpAny (model X.prog X.w) X.A (leaving X.env e) (fun _ s'' => Flew X.prog X.w X.outer X.H₀ X.s₀ C H' e s'') E s' := by
  obtain ⟨pins, σ, s, vs, h', a, rfl, rfl, I, hx⟩ := hm
  have sf := I.stkFree
  have hl := I.stack
  rw [hst] at sf hl
  have hin : ∀ env ∈ X.env :: X.outer, ∀ b, env.frame = some b → b ∈ frs (X.env :: X.outer) := fun env he b hb => List.mem_filterMap.mpr ⟨env, he, hb⟩
  have noX : ∀ b : Addr, b ∉ X.ex := fun b z => by rw [hex] at z; exact nomatch z
  have out : ∀ b o, X.s₀.heap.get? b = some o → b ∉ X.fs → b ∉ frs (X.env :: X.outer) := fun b o e hb hm => by
    rw [frs_cons hf] at hm
    rcases List.mem_cons.mp hm with z | z
    · exact absurd (Nat.lt_of_lt_of_le (Heap.lt_size e) I.ok.above) (by rw [z]; exact Nat.lt_irrefl _)
    · exact hb z
  refine wpAny_leaves_madeW (base := PySem.W.hideAll s.heap (frs (X.env :: X.outer))) (h := s.heap) (by rw [I.ok.frames, hst]) hf (fun b o q => PySem.W.of_hideAll _ q) (PySem.W.funFrames_hide hl hin) hx fun h'' t f1 f2 f3 f4 => ?_
  refine ⟨a, .ref t, _, rfl, I.os, I.bare, f1, hide_ok I.hok sf, ⟨fun b o e n hb => PySem.W.hideAll_get _ (I.base.keep b o e n hb (noX b)) (out b o e hb), fun b o e n hb => ?_, fun b o e n => I.base.free b o e n (noX b), fun b o e hb => ?_, I.base.tups, I.base.frzs, I.base.tbls⟩⟩
  · obtain ⟨sl, e1⟩ := I.base.slot b o e n hb (noX b)
    obtain ⟨_, o', ho, hd⟩ := I.ok.funs.mem hb
    rw [e] at ho
    cases ho
    obtain ⟨sl2, e2⟩ := f4 b _ (hx.keeps b _ e1) hd
    exact ⟨sl2, e2⟩
  · obtain ⟨o', e1⟩ := I.base.there b o e (noX b)
    exact ⟨o', PySem.W.hideAll_get _ e1 (out b o e hb)⟩
theorem leave_flew {X : Cx} {C : Addr} {H' H0 : Hp} {e : Value} {s s' : Shared} {pins : List (Addr × Obj)} {σ : L2.St} {E : Value → Shared → Prop} (hst : X.stack = X.env :: X.outer) (hf : X.env.frame = some X.env.locals) (hex : X.ex = []) (I : Inv X pins σ H0 s)
    (hm : Flew X.prog X.w X.stack H0 s C H' e s') : wpAny (model X.prog X.w) X.A (leaving X.env e) (fun _ s'' => Flew X.prog X.w X.outer X.H₀ X.s₀ C H' e s'') E s' := by
  obtain ⟨a, a0, B, rfl, ho, hbare, hfl, hok, u⟩ := hm
  rw [hst] at hfl u
  have noX : ∀ b : Addr, b ∉ X.ex := fun b z => by rw [hex] at z; exact nomatch z
  have out : ∀ b o, X.s₀.heap.get? b = some o → b ∉ X.fs → b ∉ frs (X.env :: X.outer) := fun b o e hb hm => by
    rw [frs_cons hf] at hm
    rcases List.mem_cons.mp hm with z | z
    · exact absurd (Nat.lt_of_lt_of_le (Heap.lt_size e) I.ok.above) (by rw [z]; exact Nat.lt_irrefl _)
    · exact hb z
  refine wpAny_leaves_onW (by rw [I.ok.frames, hst]) hf hfl fun h'' f1 f4 => ?_
  refine ⟨a, a0, B, rfl, ho.trans I.os, hbare, f1, hok, ⟨fun b o e n hb => u.keep b o (I.base.keep b o e n hb (noX b)) (I.base.free b o e n (noX b)) (out b o e hb), fun b o e n hb => ?_, fun b o e n => ?_, fun b o e hb => ?_,
    fun b xs e => u.tups b xs (I.base.tups b xs e), fun b ob xs e => u.frzs b ob xs (I.base.frzs b ob xs e), fun b ps e => ?_⟩⟩
  · obtain ⟨sl, e1⟩ := I.base.slot b o e n hb (noX b)
    obtain ⟨_, o', ho', hd⟩ := I.ok.funs.mem hb
    rw [e] at ho'
    cases ho'
    obtain ⟨sl2, e2⟩ := u.slot b _ e1 (I.base.free b o e n (noX b)) (by rw [frs_cons hf]; exact List.mem_cons_of_mem _ hb)
    obtain ⟨sl3, e3⟩ := f4 b _ e2 hd
    exact ⟨sl3, e3⟩
  · obtain ⟨o', e1⟩ := I.base.there b o e (noX b)
    exact u.free b o' e1 (I.base.free b o e n (noX b))
  · obtain ⟨o', e1⟩ := I.base.there b o e (noX b)
    exact u.there b o' e1 (out b o e hb)
  · obtain ⟨m1, e1⟩ := I.base.tbls b ps e
    obtain ⟨m2, e2⟩ := u.tbls b _ e1
    exact ⟨m1 ++ m2, by rw [e2, Array.append_assoc]⟩
theorem fun_il {x qual : Str} {st : Stmt} {f : Addr} {fd : FuncData} {N ps : List Str} {k : Nat} {body : SM} (F : Fun K x qual st f fd) (S : FnScope N ps (defScope st))
    (hbody : ∀ (cdv : Value) (A : Around) (outer : List Env) (s : Shared) (H : Hp) (E : XK), Room k (A.deeper (envOfC qual (defScope st) s.heap.objs.size f cdv)) →
      ISs (cxOf (CXW P w) P w K mg base N qual (defScope st) f cdv A outer s H E) (defBody st) body) : FnOk P w K mg base (CXW P w) (k + 1) f fd ps (spM K mg ps.length (fM body N.length ps.length)) := by
  obtain ⟨oc, od, kV, doc, pm, an, cdv, ct, osl, rfl, lk, hcd⟩ := F.ex
  refine fn_of lk hcd S (fun vs H Q E h => h.1) fun A outer s H vs Q E hr h => ?_
  obtain ⟨hl, φ, ph, args, hH, ra, h⟩ := h
  refine ⟨_, hbody cdv A outer s H E hr, ?_⟩
  have hla : args.length = vs.length := ra.length
  unfold fM at h
  rw [if_pos (hla.trans hl), run_bnd, hla] at h
  refine ⟨φ, ph, _, hH, RelS.start (N.length - vs.length) ra, h.mono (fun fl ph' h φ1 H1 hH1 s1 => ?_) fun x ph' h φ' H' e s' r' st' th => ?_⟩
  · cases fl with
    | rt w => exact fun v rv => h φ1 H1 v hH1 s1 rv
    | nx σ' => exact fun σ1 hS1 => h φ1 H1 .non hH1 s1 .non
    | bk σ' => exact h.elim
    | ct σ' => exact h.elim
  · obtain ⟨C, hm, hfs, th⟩ := th
    have hE := h φ' H' C r' st' hm hfs
    have key : wpAny (model P w) (A.deeper (envOfC qual (defScope st) s.heap.objs.size f cdv)) (leaving (envOfC qual (defScope st) s.heap.objs.size f cdv) e) (fun _ s'' => Flew P w outer H s C H' e s'') (fun e' s'' => CXW P w outer H s E e' s'') s' := by
      rcases th with th | ⟨pins, σ, H0, s0, I0, th⟩
      · exact leave_made (X := cxOf (CXW P w) P w K mg base N qual (defScope st) f cdv A outer s H E) rfl rfl rfl th
      · exact leave_flew (X := cxOf (CXW P w) P w K mg base N qual (defScope st) f cdv A outer s H E) rfl rfl rfl I0 th
    exact wpAny_mono key (fun _ s'' q => ⟨C, H', q, hE⟩) fun _ _ q => q
end
theorem fl_ints {K : PySem.W.Frag} {φ : Nat → Addr} {n : Nat} {H : Hp} : ∀ (ns : List Int), RelWs K φ n H (ns.map W.int) (ns.map V.int)
  | [] => .nil
  | n :: ns => .cons (.int n) (fl_ints ns)
theorem law_sp {K : PySem.W.Frag} {mg : Str → Option Value} {H : Hp} {a : Addr} {ns : List Int} {fm : List W → Mo W} (hO : Only H) (hS : SqL K H a (ns.map V.int)) (h : ∃ ph', fm [.fl (ns.map W.int)] [] = .ok (.bl true) ph') :
    spM K mg 1 fm [.ref a] H (fun v _ => v = .bl true) fun _ _ _ => False := by
  obtain ⟨ph', e⟩ := h
  have hf : FrzL K H a (ns.map V.int) := by
    rcases hS with h | h
    · rcases h with h | h
      · rcases hO a with z | ⟨o, xs, z⟩
        · rw [z] at h; cases h
        · rw [z] at h; cases h
      · exact .inl h
    · exact .inr h
  refine ⟨rfl, fun _ => 0, [], [.fl (ns.map W.int)], ⟨fun i o e => by simp at e, fun i j hi => absurd hi (by simp)⟩, .cons (.fl hf (fl_ints ns)) .nil, ?_⟩
  rw [e]
  intro φ' H' v _ _ r
  cases r
  rfl
end IL
namespace IL
open PySem PySem.Spec PyProof.Rows L2
theorem OpR.or {X : Cx} {f : Value → Value → Sem Value} {r r' : R2} (h : OpR X f r) (h' : OpR X f r') : OpR X f (fun x y H Q => r x y H Q ∨ r' x y H Q) := by
  intro pins s σ H x y v u Q I rx ry q
  rcases q with q | q
  · exact h pins s σ H x y v u Q I rx ry q
  · exact h' pins s σ H x y v u Q I rx ry q
theorem OpI.inl {K : PySem.W.Frag} {r r' : R2} {f : W → W → Po W} (h : OpI K r f) : OpI K (fun x y H Q => r x y H Q ∨ r' x y H Q) f := fun hH rx ry e k => .inl (h hH rx ry e k)
theorem OpI.inr {K : PySem.W.Frag} {r r' : R2} {f : W → W → Po W} (h : OpI K r' f) : OpI K (fun x y H Q => r x y H Q ∨ r' x y H Q) f := fun hH rx ry e k => .inr (h hH rx ry e k)
def seqW (w : W) (ph : PH) : Option (List W) := match w with
  | .tup ws => some ws
  | .fl ws => some ws
  | .ref i => match ph[i]? with
    | some (.lst ws) => some ws
    | _ => none
  | _ => none
theorem seqW_rel {K : PySem.W.Frag} {φ : Nat → Addr} {ph : PH} {H : Hp} {w : W} {v : V} {ws : List W} (hH : RelH K φ ph H) (r : RelW K φ ph.length H w v) (e : seqW w ph = some ws) :
    ∃ a vs, v = .ref a ∧ (SqL K H a vs ∨ SqT K H a vs) ∧ RelWs K φ ph.length H ws vs := by
  unfold seqW at e
  cases r with
  | tup h r => cases e; exact ⟨_, _, rfl, .inr (SqT.of h), r⟩
  | fl h r => cases e; exact ⟨_, _, rfl, .inl h.sq, r⟩
  | ref hi =>
    simp only at e
    split at e
    · rename_i ws' hw
      cases e
      obtain ⟨vs, hv, r⟩ := hH.hp _ _ hw
      exact ⟨_, vs, rfl, .inl (SqL.of hv), r⟩
    · cases e
  | _ => cases e
theorem atI_rel {K : PySem.W.Frag} {φ : Nat → Addr} {n : Nat} {H : Hp} {ws : List W} {vs : List V} {i : Int} {w : W} (r : RelWs K φ n H ws vs) (e : atI ws i = some w) : ∃ v, atI vs i = some v ∧ RelW K φ n H w v := by
  unfold atI at e ⊢
  rw [r.length] at e
  cases q : ixN vs.length i with
  | none => rw [q] at e; cases e
  | some j =>
    rw [q] at e
    exact r.get e
def ixW : W → W → Po W := fun x y ph => match y with
  | .int i => match x with
    | .str z => if z.length ≤ sizeLine then (atI z.cps.toList i).map fun c => (.str ⟨#[c]⟩, ph) else none
    | x => (seqW x ph).bind fun ws => (atI ws i).map fun w => (w, ph)
  | _ => none
theorem ixW_i {K : PySem.W.Frag} : OpI K (rIx K) ixW := by
  intro φ ph H x y vx vy w ph' Q hH rx ry e k
  unfold ixW at e
  cases ry with
  | int i =>
    cases rx with
    | str z =>
      simp only at e
      split at e
      · rename_i hz
        cases q : atI z.cps.toList i with
        | none => rw [q] at e; cases e
        | some c =>
          rw [q] at e
          cases e
          exact .inr (.inr ⟨z, i, c, rfl, rfl, hz, q, k φ H _ hH Step.refl (.str _)⟩)
      · cases e
    | _ =>
      all_goals
        first
          | (cases e; done)
          | (rename_i h r
             simp only [seqW, Option.bind] at e
             cases q : atI _ i with
             | none => rw [q] at e; cases e
             | some c =>
               rw [q] at e
               cases e
               obtain ⟨v, ev, rv⟩ := atI_rel r q
               first
                 | exact .inr (.inl ⟨_, _, i, v, rfl, rfl, SqT.of h, ev, k φ H _ hH Step.refl rv⟩)
                 | exact .inl ⟨_, _, i, v, rfl, rfl, h.sq, ev, k φ H _ hH Step.refl rv⟩)
          | (rename_i hi
             simp only [seqW] at e
             split at e
             · rename_i ws' hw
               simp only [Option.bind] at e
               cases q : atI ws' i with
               | none => rw [q] at e; cases e
               | some c =>
                 rw [q] at e
                 cases e
                 obtain ⟨vs, hv, r⟩ := hH.hp _ _ hw
                 obtain ⟨v, ev, rv⟩ := atI_rel r q
                 exact .inl ⟨_, _, i, v, rfl, rfl, SqL.of hv, ev, k φ H _ hH Step.refl rv⟩
             · cases e)
  | _ => cases e
section
variable {X : Cx} {a b : Expr} {ma mb : EM} {pos : Pos}
end
def CallI (K : PySem.W.Frag) (r : List V → Hp → VK → Prop) (f : List W → Po W) : Prop := ∀ {φ : Nat → Addr} {ph : PH} {H : Hp} {xs : List W} {vs : List V} {w : W} {ph' : PH} {Q : VK}, RelH K φ ph H → RelWs K φ ph.length H xs vs → f xs ph = some (w, ph') →
  (∀ φ' H' v, RelH K φ' ph' H' → Step K φ ph.length H φ' ph'.length H' → RelW K φ' ph'.length H' w v → Q v H') → r vs H Q
def eCallB (f : List W → Po W) (a : AM) : EM := fun σ => bnd (a σ) fun xs => lift (f xs)
section
variable {X : Cx} {x : Str} {p pos : Pos} {e : Expr} {es : List Expr} {t : AM} {id T : String} {r : List V → Hp → VK → Prop} {f : List W → Po W}
theorem call_imp (hi : CallI X.K r f) {σ : L2.St} {H : Hp} {Q : VK} (h : tM X (eCallB f t) σ H Q) : tCB r (tA X t) σ H Q := by
  obtain ⟨φ, ph, ws, hH, hS, h⟩ := h
  refine tA.bind hH hS h fun xs ph1 φ1 H1 vs hH1 s1 r1 h => ?_
  obtain ⟨w, ph', e, k⟩ := run_lift h
  exact hi hH1 r1 e fun φ2 H2 v hH2 s2 r2 => k φ2 H2 v hH2 (s1.trans s2) r2
theorem ie_callB (hc : CallR X (.builtin id) r) (hi : CallI X.K r f) (hg : Gl X x) (hm : X.mg x = none) (hv : bootBuiltins x = some (.builtin id)) (ha : IA X (e :: es) t) (hn : x ≠ "__name__" := by decide) (hdb : (x == ("__debug__" : Str)) = false := by decide)
    (he : starEach (e :: es) X.env = (false, eval e X.env) :: starEach es X.env := by rfl) (hpl : (backTo pos (starEach es X.env)).any (·.1) = false := by rfl) : IE X (.Call (.Name x p) (e :: es) [] pos) (eCallB f t) :=
  PE.imp (pe_callB hc hg hm hv ha hn hdb he hpl) fun _ _ _ h => call_imp hi h
theorem ie_callTy (hc : CallR X (.type T) r) (hi : CallI X.K r f) (hg : Gl X x) (hm : X.mg x = none) (hv : bootBuiltins x = some (.type T)) (ha : IA X (e :: es) t) (hn : x ≠ "__name__" := by decide) (hdb : (x == ("__debug__" : Str)) = false := by decide)
    (he : starEach (e :: es) X.env = (false, eval e X.env) :: starEach es X.env := by rfl) (hpl : (backTo pos (starEach es X.env)).any (·.1) = false := by rfl) : IE X (.Call (.Name x p) (e :: es) [] pos) (eCallB f t) :=
  PE.imp (pe_callTy hc hg hm hv ha hn hdb he hpl) fun _ _ _ h => call_imp hi h
end
theorem CallR.or {X : Cx} {f : Value} {r r' : List V → Hp → VK → Prop} (h : CallR X f r) (h' : CallR X f r') : CallR X f (fun xs H Q => r xs H Q ∨ r' xs H Q) := by
  intro pins s σ H xs us Q I rx q
  rcases q with q | q
  · exact h pins s σ H xs us Q I rx q
  · exact h' pins s σ H xs us Q I rx q
def lenW : List W → Po W := fun xs ph => match xs with
  | [.str z] => if z.length ≤ sizeLine then some (.int z.length, ph) else none
  | [w] => (seqW w ph).map fun ws => (.int ws.length, ph)
  | _ => none
abbrev rLen (K : PySem.W.Frag) : List V → Hp → VK → Prop := fun xs H Q => (∃ p ys, xs = [.ref p] ∧ (SqL K H p ys ∨ SqT K H p ys) ∧ Q (.int ys.length) H) ∨ (∃ z, xs = [.str z] ∧ z.length ≤ sizeLine ∧ Q (.int z.length) H)
theorem lenW_i {K : PySem.W.Frag} : CallI K (rLen K) lenW := by
  intro φ ph H xs vs w ph' Q hH r e k
  unfold lenW at e
  split at e
  · split at e
    · rename_i hz
      cases e
      cases r with
      | cons r r' => cases r; cases r'; exact .inr ⟨_, rfl, hz, k φ H _ hH Step.refl (.int _)⟩
    · cases e
  · rename_i w0 hne
    cases r with
    | cons r r' =>
      cases r'
      cases q : seqW w0 ph with
      | none => rw [q] at e; cases e
      | some ws =>
        rw [q] at e
        cases e
        obtain ⟨a, ys, rfl, hs, rs⟩ := seqW_rel hH r q
        exact .inl ⟨a, ys, rfl, hs, by rw [← rs.length]; exact k φ H _ hH Step.refl (.int _)⟩
  · cases e
theorem call_lenW {X : Cx} : CallR X (.builtin "len") (rLen X.K) := CallR.or call_len_seq call_len_str
def MtI (K : PySem.W.Frag) (T : String) (r : V → List V → Hp → VK → Prop) (f : W → List W → Po W) : Prop := ∀ {φ : Nat → Addr} {ph : PH} {H : Hp} {x : W} {xs : List W} {vx : V} {vs : List V} {w : W} {ph' : PH} {Q : VK},
  RelH K φ ph H → RelW K φ ph.length H x vx → RelWs K φ ph.length H xs vs → f x xs ph = some (w, ph') →
  (∀ φ' H' v, RelH K φ' ph' H' → Step K φ ph.length H φ' ph'.length H' → RelW K φ' ph'.length H' w v → Q v H') → r vx vs H Q
def TyI (K : PySem.W.Frag) (T : String) (ty : W → PH → Bool) : Prop := ∀ {φ : Nat → Addr} {ph : PH} {H : Hp} {x : W} {vx : V}, RelH K φ ph H → RelW K φ ph.length H x vx → ty x ph = true → tyV K T vx H
def chkT (b : PH → Bool) : Po Unit := fun ph => if b ph = true then some ((), ph) else none
def eMeth (ty : W → PH → Bool) (f : W → List W → Po W) (o : EM) (a : AM) : EM := fun σ => bnd (o σ) fun x => bnd (lift (chkT (ty x))) fun _ => bnd (a σ) fun xs => lift (f x xs)
def isL (w : W) (ph : PH) : Bool := match w with
  | .ref i => match ph[i]? with
    | some (.lst _) => true
    | _ => false
  | .fl _ => true
  | _ => false
theorem isL_i {K : PySem.W.Frag} : TyI K "list" isL := by
  intro φ ph H x vx hH rx e
  unfold isL at e
  cases rx with
  | ref hi =>
    simp only at e
    split at e
    · rename_i ws' hw
      obtain ⟨vs, hv, r⟩ := hH.hp _ _ hw
      exact .inl ⟨rfl, vs, SqL.of hv⟩
    · cases e
  | fl h r => exact .inl ⟨rfl, _, h.sq⟩
  | _ => cases e
section
variable {X : Cx} {o e : Expr} {es : List Expr} {mo : EM} {t : AM} {name : Str} {apos cpos : Pos} {T id : String} {r : V → List V → Hp → VK → Prop} {ty : W → PH → Bool} {f : W → List W → Po W}
theorem meth_imp (ht : TyI X.K T ty) (hi : MtI X.K T r f) {σ : L2.St} {H : Hp} {Q : VK} (h : tM X (eMeth ty f mo t) σ H Q) : tBM X.K T r (tM X mo) (tA X t) σ H Q := by
  obtain ⟨φ, ph, ws, hH, hS, h⟩ := h
  refine tM.bind hH hS h fun x ph1 φ1 H1 v hH1 s1 r1 h => ?_
  rw [run_bnd] at h
  obtain ⟨_, ph2, e2, h⟩ := run_lift h
  unfold chkT at e2
  split at e2
  · rename_i hy
    cases e2
    refine ⟨ht hH1 r1 hy, tA.bind hH1 (hS.mono s1) h fun xs ph2 φ2 H2 vs hH2 s2 r2 h => ?_⟩
    obtain ⟨w, ph', e, k⟩ := run_lift h
    exact hi hH2 (r1.mono s2) r2 e fun φ3 H3 v hH3 s3 r3 => k φ3 H3 v hH3 ((s1.trans s2).trans s3) r3
  · cases e2
theorem ie_bm (pa : PlainAttrs T) (slot : Slot T name id) (hty : typeOf (.builtin id) = pure (.type "method_descriptor")) (hm : MtR X id r) (ht : TyI X.K T ty) (hi : MtI X.K T r f) (ho : IE X o mo) (ha : IA X (e :: es) t)
    (hbase : attributeBase o name X.env (eval o X.env) = eval o X.env := by rfl)
    (hfew : ((backTo cpos (starEach (e :: es) X.env)).all (fun x => !x.1) && (backToKw cpos (keywordEach [] X.env)).all (fun x => x.1.isSome)
      && decide ((e :: es).length + ([] : List Keyword).length + (if ([] : List Keyword).isEmpty then 0 else 1) < 30)) = true := by rfl)
    (hline : (apos.endLine == cpos.line) = true := by rfl) (hs : starEach (e :: es) X.env = (false, eval e X.env) :: starEach es X.env := by rfl) (hplain : (backTo cpos (starEach es X.env)).any (·.1) = false := by rfl) :
    IE X (.Call (.Attribute o name apos) (e :: es) [] cpos) (eMeth ty f mo t) :=
  PE.imp (pe_bm pa slot hty hm ho ha hbase hfew hline hs hplain) fun _ _ _ h => meth_imp ht hi h
theorem ie_bm0 (pa : PlainAttrs T) (slot : Slot T name id) (hty : typeOf (.builtin id) = pure (.type "method_descriptor")) (hm : MtR X id r) (ht : TyI X.K T ty) (hi : MtI X.K T r f) (ho : IE X o mo)
    (hbase : attributeBase o name X.env (eval o X.env) = eval o X.env := by rfl) (hline : (apos.endLine == cpos.line) = true := by rfl) : IE X (.Call (.Attribute o name apos) [] [] cpos) (eMeth ty f mo aNil) := by
  refine PE.imp (pe_bm0 pa slot hty hm ho hbase hline) fun σ H Q h => ?_
  obtain ⟨φ, ph, ws, hH, hS, h⟩ := h
  refine tM.bind hH hS h fun x ph1 φ1 H1 v hH1 s1 r1 h => ?_
  rw [run_bnd] at h
  obtain ⟨_, ph2, e2, h⟩ := run_lift h
  unfold chkT at e2
  split at e2
  · rename_i hy
    cases e2
    refine ⟨ht hH1 r1 hy, ?_⟩
    obtain ⟨w, ph', e, k⟩ := run_lift h
    exact hi hH1 r1 .nil e fun φ3 H3 v hH3 s3 r3 => k φ3 H3 v hH3 (s1.trans s3) r3
  · cases e2
end
theorem put_list {K : PySem.W.Frag} {φ : Nat → Addr} {ph : PH} {H : Hp} {i : Nat} {ws : List W} {vs : List V} (hH : RelH K φ ph H) (hi : i < ph.length) (r : RelWs K φ ph.length H ws vs) :
    RelH K φ (ph.set i (.lst ws)) (upd H (φ i) (.lst vs)) ∧ Step K φ ph.length H φ (ph.set i (.lst ws)).length (upd H (φ i) (.lst vs)) := by
  obtain ⟨y, ey, my⟩ := hH.at hi
  have s := step_set (K := K) (φ := φ) (n := ph.length) (y := HO.lst vs) ey my
  rw [List.length_set]
  exact ⟨hH.put hi ⟨vs, upd_same, r.mono s⟩, s⟩
def appendW : W → List W → Po W := fun x xs ph => match x, xs with
  | .ref i, [y] => match ph[i]? with
    | some (.lst ws) => if ws.length < sizeLine then some (.non, ph.set i (.lst (ws ++ [y]))) else none
    | _ => none
  | _, _ => none
theorem appendW_i {K : PySem.W.Frag} : MtI K "list" rAppend appendW := by
  intro φ ph H x xs vx vs w ph' Q hH rx rs e k
  unfold appendW at e
  split at e
  · rename_i i y
    split at e
    · rename_i ws hw
      split at e
      · rename_i hz
        cases e
        cases rx with
        | ref hi =>
          cases rs with
          | cons ry rr =>
            cases rr
            obtain ⟨us, hv, r⟩ := hH.hp _ _ hw
            obtain ⟨q1, q2⟩ := put_list hH hi (r.append (.cons ry .nil))
            exact ⟨_, us, _, rfl, rfl, hv, by rw [← r.length]; exact hz, k φ _ _ q1 q2 .non⟩
      · cases e
    · cases e
  · cases e
def clearW : W → List W → Po W := fun x xs ph => match x, xs with
  | .ref i, [] => match ph[i]? with
    | some (.lst _) => some (.non, ph.set i (.lst []))
    | _ => none
  | _, _ => none
theorem clearW_i {K : PySem.W.Frag} : MtI K "list" rClear clearW := by
  intro φ ph H x xs vx vs w ph' Q hH rx rs e k
  unfold clearW at e
  split at e
  · rename_i i
    split at e
    · rename_i ws hw
      cases e
      cases rx with
      | ref hi =>
        cases rs
        obtain ⟨us, hv, r⟩ := hH.hp _ _ hw
        obtain ⟨q1, q2⟩ := put_list hH hi (ws := []) (vs := []) .nil
        exact ⟨_, us, rfl, rfl, hv, k φ _ _ q1 q2 .non⟩
    · cases e
  · cases e
end IL
namespace IL
open PySem PySem.Spec PyProof.Rows L2
def negW : W → Po W := fun x => match x with
  | .int i => ret (.int (-i))
  | _ => nono
theorem negW_i {K : PySem.W.Frag} : UnI K (rU fun i => .int (-i)) negW := by
  intro φ ph H x vx w ph' Q hH rx e k
  unfold negW at e
  split at e
  · cases e; cases rx
    exact ⟨_, rfl, k φ H _ hH Step.refl (.int _)⟩
  · cases e
def subW : W → W → Po W := iop fun i j => i - j
theorem subW_i {K : PySem.W.Frag} : OpI K (rI0 fun i j => .int (i - j)) subW := iop_i
def modW : W → W → Po W := iopC (fun _ j => decide (j ≠ 0)) fun i j => i.fmod j
theorem modW_i {K : PySem.W.Frag} : OpI K (rI (fun _ j => j ≠ 0) fun i j => .int (i.fmod j)) modW := iopC_i fun i j h => by simpa using h
def CDivB (i j : Int) : Prop := j ≠ 0 ∧ j.natAbs < 2 ^ 64
theorem op_fdivB {X : Cx} : OpR X (binaryOp .FloorDiv) (rI CDivB fun i j => .int (i.fdiv j)) := opI fun i j _ _ _ _ _ hc q => floordiv_int hc.1 q (.inl (PyProof.noPylong_of_log2 (by
  have h0 : j.natAbs ≠ 0 := by have := hc.1; omega
  have := (Nat.log2_lt h0).mpr hc.2
  omega)))
def divW : W → W → Po W := iopC (fun _ j => decide (j ≠ 0) && decide (j.natAbs < 2 ^ 64)) fun i j => i.fdiv j
theorem divW_i {K : PySem.W.Frag} : OpI K (rI CDivB fun i j => .int (i.fdiv j)) divW := iopC_i fun i j h => by
  rw [Bool.and_eq_true] at h
  exact ⟨of_decide_eq_true h.1, of_decide_eq_true h.2⟩
def ltW : W → W → Po W := icmp fun i j => decide (i < j)
def leW : W → W → Po W := icmp fun i j => decide (i ≤ j)
def gtW : W → W → Po W := icmp fun i j => decide (j < i)
def geW : W → W → Po W := icmp fun i j => decide (j ≤ i)
def mulC (i j : Int) : Bool := (decide (-(2 ^ 64) < i) && decide (i < 2 ^ 64)) || (decide (-(2 ^ 64) < j) && decide (j < 2 ^ 64))
def mulW : W → W → Po W := fun x y => match x, y with
  | .int i, .int j => if mulC i j = true then ret (.int (i * j)) else nono
  | _, _ => nono
theorem mulW_i {K : PySem.W.Frag} : OpI K (rI CMul fun i j => .int (i * j)) mulW := by
  intro φ ph H x y vx vy w ph' Q hH rx ry e k
  unfold mulW at e
  split at e
  · split at e
    · rename_i hc
      cases e; cases rx; cases ry
      refine ⟨_, _, rfl, rfl, ?_, k φ H _ hH Step.refl (.int _)⟩
      unfold mulC at hc
      simp only [Bool.or_eq_true, Bool.and_eq_true, decide_eq_true_eq] at hc
      exact hc
    · cases e
  · cases e
def addW : W → W → Po W := fun x y ph => match x, y with
  | .int i, .int j => some (.int (i + j), ph)
  | .str i, .str j => if i.length + j.length ≤ sizeLine then some (.str (i ++ j), ph) else none
  | .ref a, .ref b => match ph[a]?, ph[b]? with
    | some (.lst xs), some (.lst ys) => if xs.length + ys.length ≤ sizeLine then some (.ref ph.length, ph ++ [.lst (xs ++ ys)]) else none
    | _, _ => none
  | .tup xs, .tup ys => if xs ≠ [] ∧ xs.length + ys.length ≤ sizeLine then some (.tup (xs ++ ys), ph) else none
  | _, _ => none
abbrev rAddW (K : PySem.W.Frag) : R2 := fun x y H Q => ((rI0 fun i j => .int (i + j)) x y H Q ∨ ∃ i j, x = .str i ∧ y = .str j ∧ i.length + j.length ≤ sizeLine ∧ Q (.str (i ++ j)) H) ∨ (rCat x y H Q ∨ rCatT K x y H Q)
theorem op_addW {X : Cx} : OpR X (binaryOp .Add) (rAddW X.K) := OpR.or (OpR.or op_add op_add_str) (OpR.or op_cat op_catT)
theorem addW_i {K : PySem.W.Frag} : OpI K (rAddW K) addW := by
  intro φ ph H x y vx vy w ph' Q hH rx ry e k
  unfold addW at e
  split at e
  · cases e; cases rx; cases ry
    exact .inl (.inl ⟨_, _, rfl, rfl, k φ H _ hH Step.refl (.int _)⟩)
  · split at e
    · rename_i hz
      cases e; cases rx; cases ry
      exact .inl (.inr ⟨_, _, rfl, rfl, hz, k φ H _ hH Step.refl (.str _)⟩)
    · cases e
  · split at e
    · rename_i xs ys hx hy
      split at e
      · rename_i hz
        cases e
        cases rx; cases ry
        obtain ⟨us, hu, ru⟩ := hH.hp _ _ hx
        obtain ⟨vs, hv, rv⟩ := hH.hp _ _ hy
        refine .inr (.inl ⟨_, _, us, vs, rfl, rfl, hu, hv, by rw [← ru.length, ← rv.length]; exact hz, fun p hp => ?_⟩)
        obtain ⟨q1, q2, q3⟩ := new_list hH (ru.append rv) hp
        exact k _ _ _ q1 q2 q3
      · cases e
    · cases e
  · split at e
    · rename_i xs ys hz
      cases e
      cases rx with
      | tup hx rx =>
        cases ry with
        | tup hy ry =>
          rename_i a us b vs
          refine .inr (.inr ⟨a, b, us, vs, rfl, rfl, SqT.of hx, SqT.of hy, ?_, by rw [← rx.length, ← ry.length]; exact hz.2, fun he => ?_, fun hn p hp => ?_⟩)
          · rintro rfl
            cases rx
            exact hz.1 rfl
          · subst he
            cases ry
            refine k φ H _ hH Step.refl ?_
            rw [List.append_nil]
            exact .tup hx rx
          · exact k φ _ _ (hH.tup hp) (step_tup hp) (.tup upd_same ((rx.append ry).mono (step_tup hp)))
    · cases e
  · cases e
def isNW : W → W → Po W := fun x y => match y with
  | .non => ret (.bl (decide (x = .non)))
  | _ => nono
def notNW : W → W → Po W := fun x y => match y with
  | .non => ret (.bl (!decide (x = .non)))
  | _ => nono
theorem non_iff {K : PySem.W.Frag} {φ : Nat → Addr} {n : Nat} {H : Hp} {x : W} {v : V} (r : RelW K φ n H x v) : decide (x = .non) = decide (v = .non) := by
  cases r <;> simp
theorem isNW_i {K : PySem.W.Frag} : OpI K (fun x y H Q => y = .non ∧ Q (.bl (decide (x = .non))) H) isNW := by
  intro φ ph H x y vx vy w ph' Q hH rx ry e k
  unfold isNW at e
  split at e
  · cases e; cases ry
    exact ⟨rfl, by rw [← non_iff rx]; exact k φ H _ hH Step.refl (.bl _)⟩
  · cases e
theorem notNW_i {K : PySem.W.Frag} : OpI K (fun x y H Q => y = .non ∧ Q (.bl (!decide (x = .non))) H) notNW := by
  intro φ ph H x y vx vy w ph' Q hH rx ry e k
  unfold notNW at e
  split at e
  · cases e; cases ry
    exact ⟨rfl, by rw [← non_iff rx]; exact k φ H _ hH Step.refl (.bl _)⟩
  · cases e
def intW : List W → Po W := fun xs => match xs with
  | [.int i] => ret (.int i)
  | [.bl b] => ret (.int (if b then 1 else 0))
  | _ => nono
theorem intW_i {K : PySem.W.Frag} : CallI K (fun xs H Q => (∃ i, xs = [.int i] ∧ Q (.int i) H) ∨ ∃ k, xs = [.bl k] ∧ Q (.int (if k then 1 else 0)) H) intW := by
  intro φ ph H xs vs w ph' Q hH r e k
  unfold intW at e
  split at e
  · cases e
    cases r with
    | cons r r' => cases r; cases r'; exact .inl ⟨_, rfl, k φ H _ hH Step.refl (.int _)⟩
  · cases e
    cases r with
    | cons r r' => cases r; cases r'; exact .inr ⟨_, rfl, k φ H _ hH Step.refl (.int _)⟩
  · cases e
def absW : List W → Po W := fun xs => match xs with
  | [.int i] => ret (.int (if i < 0 then -i else i))
  | _ => nono
end IL
namespace IL
open PySem PySem.Spec PyProof.Rows L2
def kindW (w : W) (ph : PH) : Option String := match w with
  | .non => some "NoneType"
  | .bl _ => some "bool"
  | .int _ => some "int"
  | .str _ => some "str"
  | .tup _ => some "tuple"
  | .fl _ => some "list"
  | .ref i => match ph[i]? with
    | some (.lst _) => some "list"
    | some (.dct _) => some "dict"
    | none => none
  | .exc .. => none
def subK (t c : String) : Bool := t == c || (t == "bool" && c == "int")
def isP (c : String) (w : W) : Po W := fun ph => match kindW w ph with
  | some t => some (.bl (subK t c), ph)
  | none => none
def eIs (c : String) (m : EM) : EM := fun σ => bnd (m σ) fun w => lift (isP c w)
inductive KindV (K : PySem.W.Frag) (H : Hp) : V → String → Prop where
  | non : KindV K H .non "NoneType"
  | bl (x : Bool) : KindV K H (.bl x) "bool"
  | int (i : Int) : KindV K H (.int i) "int"
  | str (x : Str) : KindV K H (.str x) "str"
  | lst {a : Addr} {xs : List V} (e : SqL K H a xs) : KindV K H (.ref a) "list"
  | tup {a : Addr} {xs : List V} (e : SqT K H a xs) : KindV K H (.ref a) "tuple"
  | dk {a : Addr} {kvs : List (Key × V)} (e : H a = some (.dK kvs)) : KindV K H (.ref a) "dict"
  | dt {a : Addr} {kvs : List (List Key × V)} (e : H a = some (.dT kvs)) : KindV K H (.ref a) "dict"
theorem kindW_v {K : PySem.W.Frag} {φ : Nat → Addr} {ph : PH} {H : Hp} {w : W} {v : V} {t : String} (hH : RelH K φ ph H) (r : RelW K φ ph.length H w v) (e : kindW w ph = some t) : KindV K H v t := by
  unfold kindW at e
  cases r with
  | non => cases e; exact .non
  | bl b => cases e; exact .bl b
  | int b => cases e; exact .int b
  | str b => cases e; exact .str b
  | tup h r => cases e; exact .tup (SqT.of h)
  | fl h r => cases e; exact .lst h.sq
  | ref hi =>
    simp only at e
    split at e
    · rename_i ws hw
      cases e
      obtain ⟨vs, hv, _⟩ := hH.hp _ _ hw
      exact .lst (SqL.of hv)
    · rename_i ws hw
      cases e
      rcases hH.hp _ _ hw with ⟨kvs, q, _⟩ | ⟨kvs, q, _⟩
      · exact .dk q
      · exact .dt q
    · cases e
  | exc => cases e
def Kits (K : PySem.W.Frag) (c : String) : Prop := ∀ t ∈ ["NoneType", "bool", "int", "str", "list", "tuple", "dict"], PySem.W.kitOne K (.type t) (.type c) = some (subK t c)
def rIs (K : PySem.W.Frag) (c : String) : List V → Hp → VK → Prop := fun xs H Q => ∃ x t, xs = [x, .ty c] ∧ KindV K H x t ∧ Q (.bl (subK t c)) H
theorem call_is {X : Cx} {c : String} (hk : Kits X.K c) : CallR X (.builtin "isinstance") (rIs X.K c) := by
  intro pins s σ H xs us Q I r h
  obtain ⟨x, t, rfl, kv, q⟩ := h
  obtain ⟨u, u2, rfl, rx, rc⟩ := Vals.two r
  obtain rfl : u2 = Value.type c := rc
  have fin : ∀ tk, EP X pins σ Q (.bool (subK t c)) { s with toks := tk } := fun tk => ⟨.bl _, H, I.tok tk, rfl, q⟩
  cases kv with
  | non => cases (show u = Value.none from rx); exact PySem.W.kia_one PySem.W.kitx_none I.kIn True.intro (hk _ (by decide)) (fun z => nomatch z) fin
  | bl y => cases (show u = Value.bool y from rx); exact PySem.W.kia_one PySem.W.kitx_bool I.kIn True.intro (hk _ (by decide)) (fun z => nomatch z) fin
  | int i => obtain ⟨t, rfl⟩ := (show ∃ t, u = Value.int i t from rx); exact PySem.W.kia_one PySem.W.kitx_int I.kIn True.intro (hk _ (by decide)) (fun z => nomatch z) fin
  | str y => obtain ⟨t, rfl⟩ := (show ∃ t, u = Value.str y t from rx); exact PySem.W.kia_one PySem.W.kitx_str I.kIn True.intro (hk _ (by decide)) (fun z => nomatch z) fin
  | @lst a ys e =>
    cases (show u = Value.ref a from rx)
    obtain ⟨its, _, ⟨o, n, h1, h2, _⟩, _⟩ := I.list e
    exact PySem.W.kia_one PySem.W.kitx_list I.kIn ⟨_, h1, h2⟩ (hk _ (by decide)) (fun z => nomatch z) fin
  | @tup a ys e =>
    cases (show u = Value.ref a from rx)
    obtain ⟨its, _, ⟨o, h1, h2, _⟩, _⟩ := I.tuple e
    exact PySem.W.kia_one PySem.W.kitx_tuple I.kIn ⟨_, h1, h2⟩ (hk _ (by decide)) (fun z => nomatch z) fin
  | @dk a kvs e =>
    cases (show u = Value.ref a from rx)
    obtain ⟨_, _, vs, _, ob, _, _, h1, h2, _⟩ := dk_of I.hok e
    exact PySem.W.kia_one PySem.W.kitx_dict I.kIn ⟨_, h1, h2.1⟩ (hk _ (by decide)) (fun z => nomatch z) fin
  | @dt a kvs e =>
    cases (show u = Value.ref a from rx)
    obtain ⟨_, _, xs, _, ob, _, _, h1, h2, _⟩ := dt_of I.hok e
    exact PySem.W.kia_one PySem.W.kitx_dict I.kIn ⟨_, h1, h2.1⟩ (hk _ (by decide)) (fun z => nomatch z) fin
section
variable {X : Cx} {e : Expr} {m : EM} {p p2 pos : Pos}
theorem ie_is {c : Str} {cn : String} (hk : Kits X.K cn) (hv : bootBuiltins c = some (.type cn)) (hg : Gl X "isinstance") (hm : X.mg "isinstance" = none) (hgc : Gl X c) (hmc : X.mg c = none) (he : IE X e m)
    (hn : c ≠ "__name__" := by decide) (hd : (c == ("__debug__" : Str)) = false := by decide)
    (hs : starEach [e, .Name c p2] X.env = [(false, eval e X.env), (false, eval (.Name c p2) X.env)] := by rfl) (hs2 : starEach [.Name c p2] X.env = [(false, eval (.Name c p2) X.env)] := by rfl)
    (hpl : (backTo pos (starEach [.Name c p2] X.env)).any (·.1) = false := by rfl) :
    IE X (.Call (.Name "isinstance" p) [e, .Name c p2] [] pos) (eIs cn m) := by
  refine PE.imp (pe_callB (call_is hk) hg hm PyProof.Rows.boot_isinstance (pa_cons he (pa_cons (pe_bltn (v := .ty cn) hgc hmc hv rfl hn hd) pa_nil (by rw [hs2]; rfl)) (by rw [hs, hs2])) (he := by rw [hs, hs2]) (hpl := hpl)) fun σ H Q h => ?_
  obtain ⟨φ, ph, ws, hH, hS, h⟩ := h
  refine tM.bind hH hS h fun x ph1 φ1 H1 vx hH1 s1 rx h => ?_
  obtain ⟨w, ph', e, k⟩ := run_lift h
  unfold isP at e
  split at e
  · rename_i t ht
    cases e
    exact ⟨vx, t, rfl, kindW_v hH1 rx ht, k φ1 H1 _ hH1 s1 (.bl _)⟩
  · cases e
end
theorem kits_bool {K : PySem.W.Frag} : Kits K "bool" := by
  intro t ht
  simp only [List.mem_cons, List.mem_nil_iff, or_false] at ht
  rcases ht with rfl | rfl | rfl | rfl | rfl | rfl | rfl <;> rfl
theorem kits_list {K : PySem.W.Frag} : Kits K "list" := by
  intro t ht
  simp only [List.mem_cons, List.mem_nil_iff, or_false] at ht
  rcases ht with rfl | rfl | rfl | rfl | rfl | rfl | rfl <;> rfl
theorem kits_tuple {K : PySem.W.Frag} : Kits K "tuple" := by
  intro t ht
  simp only [List.mem_cons, List.mem_nil_iff, or_false] at ht
  rcases ht with rfl | rfl | rfl | rfl | rfl | rfl | rfl <;> rfl
end IL
namespace IL
open PySem PySem.Spec PyProof.Rows L2
def mapO {α β : Type} (f : α → Option β) : List α → Option (List β)
  | [] => some []
  | a :: as => match f a, mapO f as with
    | some b, some bs => some (b :: bs)
    | _, _ => none
def dat (ph : PH) : Nat → W → Option PyData
  | _, .non => some .none
  | _, .bl b => some (.bool b)
  | _, .int i => some (.int i)
  | _, .str x => if PyData.strOk x = true then some (.str x) else none
  | n + 1, .tup ws => (mapO (dat ph n) ws).map .tuple
  | n + 1, .fl ws => (mapO (dat ph n) ws).map .list
  | n + 1, .ref i => match ph[i]? with
    | some (.lst ws) => (mapO (dat ph n) ws).map .list
    | _ => none
  | _, _ => none
section
variable {X : Cx} {pins : List (Addr × Obj)} {σ : L2.St} {H : Hp} {s : Shared} {φ : Nat → Addr} {ph : PH}
def RdD (s : Shared) (n : Nat) (u : Value) (d : PyData) : Prop := (∃ as, Reads s.heap u d as) ∧ d.canLay0 = true ∧ d.depth ≤ n
theorem dats_reads {n : Nat} (ih : ∀ {w : W} {v : V} {u : Value} {d : PyData}, RelW X.K φ ph.length H w v → RelV v u → dat ph n w = some d → RdD s n u d) :
    ∀ {ws : List W} {vs : List V} {us : List Value} {ds : List PyData}, RelWs X.K φ ph.length H ws vs → Vals vs us → mapO (dat ph n) ws = some ds →
      (∃ as, ReadsAll s.heap us ds as) ∧ PyData.canLayAll0 ds = true ∧ PyData.depthAll ds ≤ n
  | _, _, _, _, .nil, .nil, e => by cases e; exact ⟨⟨_, .nil⟩, rfl, Nat.zero_le _⟩
  | w :: ws, _, _, ds, .cons h r, .cons hv rv, e => by
    unfold mapO at e
    split at e
    · rename_i b bs e1 e2
      cases e
      obtain ⟨⟨as, r1⟩, c1, d1⟩ := ih h hv e1
      obtain ⟨⟨bs', r2⟩, c2, d2⟩ := dats_reads ih r rv e2
      refine ⟨⟨_, .cons r1 r2⟩, ?_, ?_⟩
      · simp only [PyData.canLayAll0, c1, c2, Bool.and_self]
      · simp only [PyData.depthAll]; omega
    · cases e
theorem dat_reads (I : Inv X pins σ H s) (hH : RelH X.K φ ph H) : ∀ (n : Nat) {w : W} {v : V} {u : Value} {d : PyData}, RelW X.K φ ph.length H w v → RelV v u → dat ph n w = some d → RdD s n u d := by
  have seqs : ∀ (n : Nat) (ih : ∀ {w : W} {v : V} {u : Value} {d : PyData}, RelW X.K φ ph.length H w v → RelV v u → dat ph n w = some d → RdD s n u d) {ws : List W} {vs : List V} {d : PyData} {a : Addr},
      RelWs X.K φ ph.length H ws vs → ((SqL X.K H a vs ∧ (mapO (dat ph n) ws).map PyData.list = some d) ∨ (SqT X.K H a vs ∧ (mapO (dat ph n) ws).map PyData.tuple = some d)) → RdD s (n + 1) (.ref a) d := by
    intro n ih ws vs d a r h
    rcases h with ⟨hq, e⟩ | ⟨hq, e⟩
    · obtain ⟨its, rv, ⟨o, k, h1, h2, h3, h4⟩, _⟩ := I.list hq
      obtain ⟨ds, e1, e2⟩ := Option.map_eq_some_iff.mp e
      subst e2
      obtain ⟨⟨as, r1⟩, c1, d1⟩ := dats_reads ih r rv e1
      refine ⟨⟨_, .list h1 h2 h4 (by simpa using r1)⟩, by simpa only [PyData.canLay0] using c1, ?_⟩
      simp only [PyData.depth]; omega
    · obtain ⟨its, rv, ⟨o, h1, h2, k, h4⟩, _⟩ := I.tuple hq
      obtain ⟨ds, e1, e2⟩ := Option.map_eq_some_iff.mp e
      subst e2
      obtain ⟨⟨as, r1⟩, c1, d1⟩ := dats_reads ih r rv e1
      refine ⟨⟨_, .tuple h1 h2 h4 (by simpa using r1)⟩, by simpa only [PyData.canLay0] using c1, ?_⟩
      simp only [PyData.depth]; omega
  intro n
  induction n with
  | zero =>
    intro w v u d r rv e
    cases r with
    | non => cases rv; cases e; exact ⟨⟨_, .none⟩, rfl, Nat.le_refl _⟩
    | bl b => cases rv; cases e; exact ⟨⟨_, .bool b⟩, rfl, Nat.le_refl _⟩
    | int i => obtain ⟨t, rfl⟩ := rv; cases e; exact ⟨⟨_, .int i t⟩, rfl, Nat.le_refl _⟩
    | str x =>
      obtain ⟨t, rfl⟩ := rv
      unfold dat at e
      split at e
      · rename_i hx; cases e; exact ⟨⟨_, .str x t⟩, by simpa only [PyData.canLay0] using hx, Nat.le_refl _⟩
      · cases e
    | _ => cases e
  | succ n ih =>
    intro w v u d r rv e
    cases r with
    | non => cases rv; cases e; exact ⟨⟨_, .none⟩, rfl, Nat.zero_le _⟩
    | bl b => cases rv; cases e; exact ⟨⟨_, .bool b⟩, rfl, Nat.zero_le _⟩
    | int i => obtain ⟨t, rfl⟩ := rv; cases e; exact ⟨⟨_, .int i t⟩, rfl, Nat.zero_le _⟩
    | str x =>
      obtain ⟨t, rfl⟩ := rv
      unfold dat at e
      split at e
      · rename_i hx; cases e; exact ⟨⟨_, .str x t⟩, by simpa only [PyData.canLay0] using hx, Nat.zero_le _⟩
      · cases e
    | tup h r => cases rv; exact seqs n ih r (.inr ⟨SqT.of h, e⟩)
    | exc => unfold dat at e; cases e
    | fl h r => cases rv; exact seqs n ih r (.inl ⟨h.sq, e⟩)
    | ref hi =>
      cases rv
      unfold dat at e
      split at e
      · rename_i ws hw
        obtain ⟨vs, hv, r⟩ := hH.hp _ _ hw
        exact seqs n ih r (.inl ⟨SqL.of hv, e⟩)
      · cases e
end
def eqD (ph : PH) (x y : W) : Option Bool := match dat ph 40 x, dat ph 40 y with
  | some a, some b => some (PyData.eqv a b)
  | _, _ => none
def eqW : W → W → Po W := fun x y ph => (eqD ph x y).map fun b => (.bl b, ph)
def neW : W → W → Po W := fun x y ph => (eqD ph x y).map fun b => (.bl (!b), ph)
def rD (K : PySem.W.Frag) (f : Bool → Bool) : R2 := fun x y H Q => ∃ φ ph wx wy b, RelH K φ ph H ∧ RelW K φ ph.length H wx x ∧ RelW K φ ph.length H wy y ∧ eqD ph wx wy = some b ∧ Q (.bl (f b)) H
theorem eqD_some {ph : PH} {x y : W} {b : Bool} (h : eqD ph x y = some b) : ∃ dx dy, dat ph 40 x = some dx ∧ dat ph 40 y = some dy ∧ b = PyData.eqv dx dy := by
  unfold eqD at h
  split at h
  · rename_i dx dy h1 h2
    cases h
    exact ⟨dx, dy, h1, h2, rfl⟩
  · cases h
theorem op_eqW {X : Cx} (hu : X.A.units + 64 < cLine) : OpR X (compareOp .Eq) (rD X.K fun b => b) := by
  intro pins s σ H x y v u Q I rx ry h
  obtain ⟨φ, ph, wx, wy, b, hH, r1, r2, e, q⟩ := h
  obtain ⟨dx, dy, e1, e2, rfl⟩ := eqD_some e
  obtain ⟨⟨as, k1⟩, c1, l1⟩ := dat_reads I hH 40 r1 rx e1
  obtain ⟨⟨bs, k2⟩, c2, l2⟩ := dat_reads I hH 40 r2 ry e2
  exact SeqAt.compareEq_reads k1 k2 c1 c2 (by omega) ⟨.bl _, H, I, rfl, q⟩
theorem op_neW {X : Cx} (hu : X.A.units + 64 < cLine) : OpR X (compareOp .NotEq) (rD X.K fun b => !b) := by
  intro pins s σ H x y v u Q I rx ry h
  obtain ⟨φ, ph, wx, wy, b, hH, r1, r2, e, q⟩ := h
  obtain ⟨dx, dy, e1, e2, rfl⟩ := eqD_some e
  obtain ⟨⟨as, k1⟩, c1, l1⟩ := dat_reads I hH 40 r1 rx e1
  obtain ⟨⟨bs, k2⟩, c2, l2⟩ := dat_reads I hH 40 r2 ry e2
  exact SeqAt.compareNe_reads k1 k2 c1 c2 (by omega) ⟨.bl _, H, I, rfl, q⟩
theorem eqW_i {K : PySem.W.Frag} : OpI K (rD K fun b => b) eqW := by
  intro φ ph H x y vx vy w ph' Q hH rx ry e k
  obtain ⟨b, e1, e2⟩ := Option.map_eq_some_iff.mp e
  cases e2
  exact ⟨φ, ph, x, y, b, hH, rx, ry, e1, k φ H _ hH Step.refl (.bl _)⟩
theorem neW_i {K : PySem.W.Frag} : OpI K (rD K fun b => !b) neW := by
  intro φ ph H x y vx vy w ph' Q hH rx ry e k
  obtain ⟨b, e1, e2⟩ := Option.map_eq_some_iff.mp e
  cases e2
  exact ⟨φ, ph, x, y, b, hH, rx, ry, e1, k φ H _ hH Step.refl (.bl _)⟩
def inD (ph : PH) (x y : W) : Option Bool := match seqW y ph, dat ph 40 x with
  | some ws, some dx => (mapO (dat ph 40) ws).map fun ds => ds.any fun d => PyData.eqv d dx
  | _, _ => none
def inW : W → W → Po W := fun x y ph => (inD ph x y).map fun b => (.bl b, ph)
def ninW : W → W → Po W := fun x y ph => (inD ph x y).map fun b => (.bl (!b), ph)
def rInD (K : PySem.W.Frag) (f : Bool → Bool) : R2 := fun x y H Q => ∃ φ ph wx wy b, RelH K φ ph H ∧ RelW K φ ph.length H wx x ∧ RelW K φ ph.length H wy y ∧ inD ph wx wy = some b ∧ Q (.bl (f b)) H
open Classical in
/-- the answer of one item, read off the heap -/
noncomputable def ansOf (s : Shared) (dx : PyData) (u : Value) : Bool := if h : ∃ d, RdD s 40 u d then PyData.eqv h.choose dx else false
theorem ansOf_eq {s : Shared} {dx d : PyData} {u : Value} (h : RdD s 40 u d) : ansOf s dx u = PyData.eqv d dx := by
  unfold ansOf
  have hx : ∃ d, RdD s 40 u d := ⟨d, h⟩
  rw [dif_pos hx]
  obtain ⟨⟨as, r⟩, c, _⟩ := h
  obtain ⟨⟨as', r'⟩, c', _⟩ := hx.choose_spec
  rw [SeqAt.Reads.unique _ _ _ _ _ c' r' r]
section
variable {X : Cx} {pins : List (Addr × Obj)} {σ : L2.St} {H : Hp} {s : Shared} {φ : Nat → Addr} {ph : PH}
theorem ans_all (I : Inv X pins σ H s) (hH : RelH X.K φ ph H) {dx : PyData} : ∀ {ws : List W} {vs : List V} {us : List Value} {ds : List PyData}, RelWs X.K φ ph.length H ws vs → Vals vs us → mapO (dat ph 40) ws = some ds →
    (us.any (ansOf s dx) = ds.any fun d => PyData.eqv d dx) ∧ ∀ u ∈ us, ∃ d, RdD s 40 u d
  | _, _, _, _, .nil, .nil, e => by cases e; exact ⟨rfl, fun _ h => nomatch h⟩
  | w :: ws, _, _, ds, .cons h r, .cons hv rv, e => by
    unfold mapO at e
    split at e
    · rename_i b bs e1 e2
      cases e
      have q := dat_reads I hH 40 h hv e1
      obtain ⟨r1, r2⟩ := ans_all I hH (dx := dx) r rv e2
      refine ⟨by rw [List.any_cons, List.any_cons, r1, ansOf_eq q], fun u hu => ?_⟩
      rcases List.mem_cons.mp hu with rfl | hu
      · exact ⟨_, q⟩
      · exact r2 u hu
    · cases e
theorem in_core (I : Inv X pins σ H s) (hH : RelH X.K φ ph H) {wx wy : W} {x y : V} {v u : Value} {b : Bool} (hu : X.A.units + 64 < cLine) (r1 : RelW X.K φ ph.length H wx x) (r2 : RelW X.K φ ph.length H wy y) (rx : RelV x v) (ry : RelV y u) (e : inD ph wx wy = some b) :
    ∃ (a : Addr) (its : List Value) (f : Value → Bool), u = .ref a ∧ (s.heap.IsList a its.toArray ∨ s.heap.IsTuple a its.toArray) ∧ (∀ z, z ∈ its.toArray → SeqAt.EqAt X.A.in1 s z v (f z)) ∧ its.toArray.any f = b := by
  unfold inD at e
  split at e
  · rename_i ws dx hs hd
    obtain ⟨ds, e1, e2⟩ := Option.map_eq_some_iff.mp e
    obtain ⟨a, vs, rfl, hq, rs⟩ := seqW_rel hH r2 hs
    cases ry
    obtain ⟨⟨as, k1⟩, c1, l1⟩ := dat_reads I hH 40 r1 rx hd
    have fin : ∀ {its : List Value}, Vals vs its → (∀ z, z ∈ its.toArray → SeqAt.EqAt X.A.in1 s z v (ansOf s dx z)) ∧ its.toArray.any (ansOf s dx) = b := fun {its} rv => by
      obtain ⟨q1, q2⟩ := ans_all I hH (dx := dx) rs rv e1
      refine ⟨fun z hz => ?_, by rw [show its.toArray.any (ansOf s dx) = its.any (ansOf s dx) by simp, q1, e2]⟩
      obtain ⟨d, hd⟩ := q2 z (by simpa using hz)
      rw [ansOf_eq hd]
      obtain ⟨⟨bs, k2⟩, c2, l2⟩ := hd
      intro prog w E Q hQ
      exact SeqAt.eqBoolOverData prog w _ E s z v d dx bs as Q k2 k1 c2 c1 (by show X.A.units + 1 + _ < _; omega) hQ
    rcases hq with hq | hq
    · obtain ⟨its, rv, pl, _⟩ := I.list hq
      obtain ⟨f1, f2⟩ := fin rv
      exact ⟨a, its, _, rfl, .inl pl.isList, f1, f2⟩
    · obtain ⟨its, rv, pl, _⟩ := I.tuple hq
      obtain ⟨f1, f2⟩ := fin rv
      exact ⟨a, its, _, rfl, .inr pl, f1, f2⟩
  · cases e
end
theorem op_inW {X : Cx} (hu : X.A.units + 64 < cLine) : OpR X (compareOp .In) (rInD X.K fun b => b) := by
  intro pins s σ H x y v u Q I rx ry h
  obtain ⟨φ, ph, wx, wy, b, hH, r1, r2, e, q⟩ := h
  obtain ⟨a, its, f, rfl, hq, hf, hb⟩ := in_core I hH hu r1 r2 rx ry e
  subst hb
  rcases hq with hq | hq
  · exact SeqAt.in_listAt f hq hf ⟨.bl _, H, I, rfl, q⟩
  · exact SeqAt.in_tupleAt f hq hf ⟨.bl _, H, I, rfl, q⟩
theorem op_ninW {X : Cx} (hu : X.A.units + 64 < cLine) : OpR X (compareOp .NotIn) (rInD X.K fun b => !b) := by
  intro pins s σ H x y v u Q I rx ry h
  obtain ⟨φ, ph, wx, wy, b, hH, r1, r2, e, q⟩ := h
  obtain ⟨a, its, f, rfl, hq, hf, hb⟩ := in_core I hH hu r1 r2 rx ry e
  subst hb
  rcases hq with hq | hq
  · exact SeqAt.notIn_listAt f hq hf ⟨.bl _, H, I, rfl, q⟩
  · exact SeqAt.notIn_tupleAt f hq hf ⟨.bl _, H, I, rfl, q⟩
theorem inW_i {K : PySem.W.Frag} : OpI K (rInD K fun b => b) inW := by
  intro φ ph H x y vx vy w ph' Q hH rx ry e k
  obtain ⟨b, e1, e2⟩ := Option.map_eq_some_iff.mp e
  cases e2
  exact ⟨φ, ph, x, y, b, hH, rx, ry, e1, k φ H _ hH Step.refl (.bl _)⟩
theorem ninW_i {K : PySem.W.Frag} : OpI K (rInD K fun b => !b) ninW := by
  intro φ ph H x y vx vy w ph' Q hH rx ry e k
  obtain ⟨b, e1, e2⟩ := Option.map_eq_some_iff.mp e
  cases e2
  exact ⟨φ, ph, x, y, b, hH, rx, ry, e1, k φ H _ hH Step.refl (.bl _)⟩
end IL
namespace IL
open PySem PySem.Spec PyProof.Rows L2
def closBody (env : Env) (x : Str × NameKind) (s : List (Str × Addr)) : Sem (ForInStep (List (Str × Addr))) :=
  if (x.2 == NameKind.free) = true then do
    let a ← cellOf env x.1
    pure (ForInStep.yield ((x.1, a) :: s))
  else pure (ForInStep.yield s)
theorem clos_aux (env : Env) : ∀ (names : List (Str × NameKind)) (acc : List (Str × Addr)), (∀ y ∈ names, y.2 = .free → ∃ c, env.cells.lookup y.1 = some c) →
    ∃ cl, (forIn names acc (closBody env) : Sem (List (Str × Addr))) = pure cl ∧ (∀ x c, cl.lookup x = some c → acc.lookup x = some c ∨ (env.cells.lookup x = some c ∧ (x, NameKind.free) ∈ names)) ∧
      (∀ x, ((∃ c, acc.lookup x = some c) ∨ (x, NameKind.free) ∈ names) → ∃ c, cl.lookup x = some c)
  | [], acc, _ => ⟨acc, rfl, fun x c h => .inl h, fun x h => h.elim id fun z => nomatch z⟩
  | (n, k) :: r, acc, h => by
    by_cases hk : k = .free
    · subst hk
      obtain ⟨c, hc⟩ := h (n, .free) List.mem_cons_self rfl
      obtain ⟨cl, e, h1, h2⟩ := clos_aux env r ((n, c) :: acc) fun y hy => h y (List.mem_cons_of_mem _ hy)
      refine ⟨cl, ?_, fun x c' hx => ?_, fun x hx => h2 x ?_⟩
      · rw [List.forIn_cons]
        have eb : closBody env (n, .free) acc = pure (ForInStep.yield ((n, c) :: acc)) := by
          unfold closBody
          rw [if_pos (by rfl)]
          unfold cellOf
          rw [hc]
          rfl
        rw [eb]
        exact e
      · rcases h1 x c' hx with z | z
        · rw [List.lookup_cons] at z
          cases q : x == n with
          | true =>
            rw [q] at z
            cases z
            have : x = n := eq_of_beq q
            subst this
            exact .inr ⟨hc, List.mem_cons_self⟩
          | false => rw [q] at z; exact .inl z
        · exact .inr ⟨z.1, List.mem_cons_of_mem _ z.2⟩
      · rcases hx with ⟨c', hx⟩ | hx
        · rw [List.lookup_cons]
          cases q : x == n with
          | true => exact .inl ⟨c, rfl⟩
          | false => exact .inl ⟨c', hx⟩
        · rcases List.mem_cons.mp hx with z | z
          · cases z
            exact .inl ⟨c, by rw [List.lookup_cons]; simp⟩
          · exact .inr z
    · obtain ⟨cl, e, h1, h2⟩ := clos_aux env r acc fun y hy => h y (List.mem_cons_of_mem _ hy)
      refine ⟨cl, ?_, fun x c' hx => ?_, fun x hx => h2 x ?_⟩
      · rw [List.forIn_cons]
        have eb : closBody env (n, k) acc = pure (ForInStep.yield acc) := by
          unfold closBody
          rw [if_neg (by simpa using hk)]
        rw [eb]
        exact e
      · rcases h1 x c' hx with z | z
        · exact .inl z
        · exact .inr ⟨z.1, List.mem_cons_of_mem _ z.2⟩
      · rcases hx with hx | hx
        · exact .inl hx
        · rcases List.mem_cons.mp hx with z | z
          · cases z; exact absurd rfl hk
          · exact .inr z
theorem clos_ok {scope : Scope} {env : Env} (h : ∀ y ∈ scope.names, y.2 = .free → ∃ c, env.cells.lookup y.1 = some c) :
    ∃ cl, closureFor scope env = pure cl ∧ (∀ x c, cl.lookup x = some c → env.cells.lookup x = some c ∧ (x, NameKind.free) ∈ scope.names) ∧ (∀ x, (x, NameKind.free) ∈ scope.names → ∃ c, cl.lookup x = some c) := by
  obtain ⟨cl, e, h1, h2⟩ := clos_aux env scope.names [] h
  refine ⟨cl, ?_, fun x c hx => ?_, fun x hx => h2 x (.inr hx)⟩
  · unfold closureFor
    show (forIn scope.names [] (closBody env) >>= fun s => pure s) = pure cl
    rw [e]
    rfl
  · rcases h1 x c hx with z | z
    · cases z
    · exact z
def blk (X : Cx) (N : List Str) (scope : Scope) (cl : List (Str × Addr)) (C : Addr) (s₀ : Shared) (H₀ : Hp) (ex : List Addr) : Cx :=
  { X with N := N, s₀ := s₀, H₀ := H₀, env := compEnvC scope cl C X.env, outer := X.stack, stack := X.stack, ex := ex, fn := fun _ => false, pn := [], xe := fun _ _ => False }
def capV (cap : List (Option Nat)) (σ : L2.St) : L2.St := cap.map fun o => o.bind fun i => (σ[i]?).join
def tComp (wi : TI) (cap : List (Option Nat)) (g : TG) (tc : TT) (te : TE) : TE := fun σ H Q => wi σ H fun J H1 => ∀ D, H1 D = none → ∃ W : Nat → Nat → L2.St → Hp → Prop, (∃ m, W 0 m (capV cap σ) (upd H1 D (.lst []))) ∧
  ∀ i m σ2 H2, W i m σ2 H2 → (J.stop i H2 ∧ Q (.ref D) H2) ∨ (J.go i H2 ∧ ∀ x H3, J.yld i H2 x H3 → g x σ2 H3 fun σ4 H4 => tc σ4 H4 fun b H5 =>
    if b = true then te σ4 H5 fun v H6 => ∃ xs, H6 D = some (.lst xs) ∧ xs.length < sizeLine ∧ ∃ m', m' < m ∧ W (i + 1) m' σ4 (upd H6 D (.lst (xs ++ [v]))) else ∃ m', m' < m ∧ W (i + 1) m' σ4 H5)
def PF (X : Cx) (ifs : List Expr) (t : TT) : Prop :=
  ∀ (pins : List (Addr × Obj)) (s : Shared) (σ : L2.St) (H : Hp) (Q : Bool → Hp → Prop), Inv X pins σ H s → t σ H Q →
    wpAny (model X.prog X.w) X.A (forIn ifs true fun c r => if r = true then do let ok ← isTrue c X.env (eval c X.env); pure (ForInStep.yield ok) else pure (ForInStep.yield r)) (TP X pins σ Q) X.xe s
theorem pf_nil {X : Cx} : PF X [] (fun _ H Q => Q true H) := fun pins s σ H Q I h => wpAny_tests_nil ⟨H, I, h⟩
theorem pf_one {X : Cx} {c : Expr} {t : TT} (h : PT X c t) : PF X [c] t := fun pins s σ H Q I q => wpAny_tests_one (h pins s σ H Q I q)
end IL
namespace IL
open PySem PySem.Spec PyProof.Rows L2
theorem lookup_relabel_free {env : Env} {x : Str} : ∀ {names : List (Str × NameKind)}, names.lookup x = some .free →
    (names.map fun (n, k) => if (k == NameKind.free && env.scope.kind == .function && env.kindOf n == some .cell) then (n, NameKind.cell) else (n, k)).lookup x = some .cell ∨
    (names.map fun (n, k) => if (k == NameKind.free && env.scope.kind == .function && env.kindOf n == some .cell) then (n, NameKind.cell) else (n, k)).lookup x = some .free
  | [], h => by cases h
  | (n, k) :: r, h => by
    rw [List.map_cons]
    cases q : x == n with
    | true =>
      rw [List.lookup_cons, q] at h
      cases h
      by_cases hc : (NameKind.free == NameKind.free && env.scope.kind == .function && env.kindOf n == some .cell) = true
      · left
        show List.lookup x ((if (NameKind.free == NameKind.free && env.scope.kind == .function && env.kindOf n == some .cell) = true then (n, NameKind.cell) else (n, NameKind.free)) :: _) = _
        rw [if_pos hc, List.lookup_cons, q]
      · right
        show List.lookup x ((if (NameKind.free == NameKind.free && env.scope.kind == .function && env.kindOf n == some .cell) = true then (n, NameKind.cell) else (n, NameKind.free)) :: _) = _
        rw [if_neg hc, List.lookup_cons, q]
    | false =>
      rw [List.lookup_cons, q] at h
      have ih := lookup_relabel_free (env := env) h
      show List.lookup x ((if (k == NameKind.free && env.scope.kind == .function && env.kindOf n == some .cell) = true then (n, NameKind.cell) else (n, k)) :: _) = _ ∨ List.lookup x ((if (k == NameKind.free && env.scope.kind == .function && env.kindOf n == some .cell) = true then (n, NameKind.cell) else (n, k)) :: _) = _
      by_cases hc : (k == NameKind.free && env.scope.kind == .function && env.kindOf n == some .cell) = true
      · rw [if_pos hc, List.lookup_cons, q]; exact ih
      · rw [if_neg hc, List.lookup_cons, q]; exact ih
theorem relabel_back {env : Env} {x : Str} {k' : NameKind} (hk' : k' = .cell ∨ k' = .free) : ∀ {names : List (Str × NameKind)}, (∀ y ∈ names, y.2 ≠ .cell) →
    (names.map fun (n, k) => if (k == NameKind.free && env.scope.kind == .function && env.kindOf n == some .cell) then (n, NameKind.cell) else (n, k)).lookup x = some k' → names.lookup x = some .free
  | [], _, h => by cases h
  | (n, k) :: r, hc, h => by
    have h' : List.lookup x ((if (k == NameKind.free && env.scope.kind == .function && env.kindOf n == some .cell) = true then (n, NameKind.cell) else (n, k)) :: r.map _) = some k' := h
    rw [List.lookup_cons]
    cases q : x == n with
    | true =>
      by_cases hb : (k == NameKind.free && env.scope.kind == .function && env.kindOf n == some .cell) = true
      · simp only [Bool.and_eq_true] at hb
        have : k = .free := by simpa using hb.1.1
        rw [this]
      · rw [if_neg hb, List.lookup_cons, q] at h'
        cases h'
        rcases hk' with z | z
        · exact absurd z (hc (n, k') List.mem_cons_self)
        · rw [z]
    | false =>
      refine relabel_back (env := env) hk' (names := r) (fun y hy => hc y (List.mem_cons_of_mem _ hy)) ?_
      by_cases hb : (k == NameKind.free && env.scope.kind == .function && env.kindOf n == some .cell) = true
      · rw [if_pos hb, List.lookup_cons, q] at h'; exact h'
      · rw [if_neg hb, List.lookup_cons, q] at h'; exact h'
theorem mem_lookup {x : Str} {k : NameKind} : ∀ {names : List (Str × NameKind)}, names.lookup x = some k → (x, k) ∈ names
  | [], h => by cases h
  | (n, j) :: r, h => by
    rw [List.lookup_cons] at h
    cases q : x == n with
    | true => rw [q] at h; cases h; rw [eq_of_beq q]; exact List.mem_cons_self
    | false => rw [q] at h; exact List.mem_cons_of_mem _ (mem_lookup h)
structure Cap (X : Cx) (N : List Str) (cap : List (Option Nat)) (scope : Scope) : Prop where
  len : cap.length = N.length
  at_ : ∀ (i j : Nat) (x : Str), N[i]? = some x → cap[i]? = some (some j) → X.N[j]? = some x ∧ scope.names.lookup x = some .free ∧ (X.env.kindOf x = some .cell ∨ X.env.kindOf x = some .free)
  free : ∀ y ∈ scope.names, y.2 = .free → X.env.kindOf y.1 = some .cell ∨ X.env.kindOf y.1 = some .free
  cell : ∀ y ∈ scope.names, y.2 ≠ .cell
  kind : scope.kind = .function
  loc : ∀ y ∈ scope.names, y.2 = .local → scope.names.lookup y.1 = some .local
section
variable {X : Cx} {pins : List (Addr × Obj)} {σ : L2.St} {H : Hp} {s : Shared} {N : List Str} {cap : List (Option Nat)} {scope : Scope} {cl : List (Str × Addr)} {fp : List Addr}
theorem blk_inv (I : Inv X pins σ H s) (c : Cap X N cap scope) (hcl : ∀ x c, cl.lookup x = some c → X.env.cells.lookup x = some c ∧ (x, NameKind.free) ∈ scope.names) (hcl2 : ∀ x, (x, NameKind.free) ∈ scope.names → ∃ c, cl.lookup x = some c)
    (hf : ∀ b ∈ fp, b < s.heap.objs.size ∧ b ≠ X.env.locals ∧ b ∉ X.fs ∧ (b ∈ X.ex ∨ X.s₀.heap.objs.size ≤ b) ∧ (∀ x c, X.env.cells.lookup x = some c → c ≠ b)) {h₁ : Heap} {m : Str → Option Value} {tk : Nat}
    (hns : h₁.Ns s.heap.objs.size m) (hk : ∀ b o, s.heap.get? b = some o → h₁.get? b = some o) : Inv (blk X N scope cl s.heap.objs.size s H fp) [] (capV cap σ) H { s with heap := h₁, toks := tk } := by
  have memF : ∀ {x : Str}, ((blk X N scope cl s.heap.objs.size s H fp).env.kindOf x = some .cell ∨ (blk X N scope cl s.heap.objs.size s H fp).env.kindOf x = some .free) → scope.names.lookup x = some .free := fun {x} hx => by
    rcases hx with hx | hx
    · exact relabel_back (env := X.env) (.inl rfl) c.cell hx
    · exact relabel_back (env := X.env) (.inr rfl) c.cell hx
  have ok : (blk X N scope cl s.heap.objs.size s H fp).Ok :=
    { mod := I.ok.mod
      kind := c.kind
      glob := I.ok.glob
      blt := I.ok.blt
      above := Nat.le_refl _
      inj := fun x y d h1 h2 => I.ok.inj x y d (hcl x d h1).1 (hcl y d h2).1
      has := fun x hx => hcl2 x (mem_lookup (memF hx))
      cab := fun x d hz => nomatch hz
      hd := I.ok.hd
      frames := I.ok.frames
      stk := .inl rfl
      exf := fun b hb => ⟨Nat.ne_of_lt (hf b hb).1, fun x d hd => (hf b hb).2.2.2.2 x d (hcl x d hd).1⟩
      bs := I.bs
      bsz := Nat.le_trans I.ok.bsz I.sz
      noex := fun b o e hb => by
        rcases (hf b hb).2.2.2.1 with z | z
        · exact I.ok.noex b o e z
        · exact absurd (Nat.lt_of_lt_of_le (Heap.lt_size (I.ok.bs b o e).1) z) (Nat.lt_irrefl _)
      exfs := fun b hb hz => by
        rcases List.mem_cons.mp (I.stkSub b hz) with e | e
        · exact (hf b hb).2.1 e
        · exact (hf b hb).2.2.1 e
      funs := I.stack
      frf := I.stkFree }
  refine ⟨ok, rfl, I.bare, Un.kept hk, ⟨m, hns, fun i x v e1 e2 _ => ?_⟩, fun x d e => ?_, I.hok.fresh (Nat.le_refl _), fun x d e => I.freeC x d (hcl x d e).1, (fun p hp => nomatch hp), I.hok.kept hk, ?_⟩
  · unfold capV at e2
    rw [List.getElem?_map] at e2
    cases q : cap[i]? with
    | none => rw [q] at e2; cases e2
    | some o =>
      rw [q] at e2
      cases o with
      | none => cases e2
      | some j =>
        have e3 : (σ[j]?).join = some v := Option.some.inj e2
        have e4 : σ[j]? = some (some v) := by
          cases z : σ[j]? with
          | none => rw [z] at e3; cases e3
          | some w => rw [z] at e3; exact congrArg some e3
        obtain ⟨h1, h2, h3⟩ := c.at_ i j x e1 q
        obtain ⟨m0, _, hl⟩ := I.loc
        obtain ⟨u, ru, lk⟩ := hl j x v h1 e4 (.inr h3)
        refine ⟨u, ru, ?_⟩
        rcases lk with ⟨z, _⟩ | ⟨_, d, hd, hcell⟩
        · rcases h3 with z' | z' <;> (rw [z] at z'; cases z')
        · obtain ⟨d', hd'⟩ := hcl2 x (mem_lookup h2)
          have e5 := (hcl x d' hd').1
          rw [hd] at e5
          cases e5
          obtain ⟨ob, ho, hdta⟩ := hcell
          exact .inr ⟨lookup_relabel_free (env := X.env) h2, d, hd', ob, hk _ _ ho, hdta⟩
  · obtain ⟨v, ob, ho, hdta⟩ := I.cell x d (hcl x d e).1
    exact ⟨v, ob, hk _ _ ho, hdta⟩
  · show (capV cap σ).length = N.length
    unfold capV
    rw [List.length_map]
    exact c.len
theorem Un.but {fs ex : List Addr} {H H' : Hp} {h h1 h2 : Heap} {C : Addr} (u : Un fs ex H H' h h1) (sb : ∀ b, b ≠ C → h2.get? b = h1.get? b) (hC : h.get? C = none) : Un fs ex H H' h h2 := by
  have ne : ∀ b o, h.get? b = some o → b ≠ C := fun b o e z => by rw [z, hC] at e; cases e
  exact ⟨fun b o e n h1 h2 => (sb b (ne b o e)).trans (u.keep b o e n h1 h2), fun b o e n h1 h2 => by
    obtain ⟨sl, q⟩ := u.slot b o e n h1 h2
    exact ⟨sl, (sb b (ne b o e)).trans q⟩, u.free, fun b o e h1 => by
    obtain ⟨o', q⟩ := u.there b o e h1
    exact ⟨o', (sb b (ne b o e)).trans q⟩, u.tups, u.frzs, u.tbls⟩
theorem blk_out {σ' : L2.St} {H' : Hp} {s' : Shared} {h' : Heap} (I : Inv X pins σ H s) (J : Inv (blk X N scope cl s.heap.objs.size s H fp) [] σ' H' s') (sb : Heap.SameBut s.heap.objs.size s'.heap h')
    (hf : ∀ b ∈ fp, FpOk X pins H b) : Inv X pins σ H' { s' with heap := h' } := by
  have hC : H' s.heap.objs.size = none := J.free
  refine I.call' (ch := fp) J.os (Un.but J.base sb.2 (Heap.get?_none_of_le (Nat.le_refl _))) (fun a o e => ?_) J.bare fun b hb => ⟨(hf b hb).2.2.2.1, (hf b hb).2.1, (hf b hb).2.2.2.2.1, (hf b hb).2.2.2.2.2⟩
  refine (J.hok a o e).stay (fun b u hb q => (sb.2 b ?_).trans q) (fun _ q => q) fun _ _ q => q
  rintro rfl
  rcases hb with z | z
  · rw [← z, hC] at e; cases e
  · rw [hC] at z; cases z
end
end IL
namespace IL
open PySem PySem.Spec PyProof.Rows L2
section
variable {prog : Program} {w : World} {A : Around} {R : Result → Shared → Prop} {s : Shared}
theorem comp_loop {elt target iter : Expr} {ifs : List Expr} {scope : Scope} {pos : Pos} {it acc : Value} {env : Env} (J : Nat → Shared → Prop)
    (turn : ∀ k s, J k s → wpAny (model prog w) A (pyNext it) (fun r s1 => match r with
      | none => R (.ok .next) s1
      | some v => wpAny (model prog w) A (letOwnedTupleGo target it v) (fun _ s2 => wpAny (model prog w) A (assign target env v) (fun _ s3 =>
          wpAny (model prog w) A (forIn ifs true fun c r => if r = true then do let ok ← isTrue c env (eval c env); pure (ForInStep.yield ok) else pure (ForInStep.yield r)) (fun ok s4 =>
            if ok = true then wpAny (model prog w) A (eval elt env) (fun x s5 => wpAny (model prog w) A (call (.builtin "list.append") [acc, x]) (fun _ s6 => ∃ j, j < k ∧ J j s6) (fun _ _ => False) s5) (fun _ _ => False) s4
            else ∃ j, j < k ∧ J j s4) (fun _ _ => False) s3) (fun _ _ => False) s2) (fun _ _ => False) s1) (fun _ _ => False) s)
    (k : Nat) (h : J k s) : codeAny (model prog w) A (.compLoop (.ListComp elt [⟨target, iter, ifs, 0⟩] scope pos) 0 it acc env) R s := by
  have no : ∀ {E : Value → Shared → Prop} (e : Value) (s : Shared), False → E e s := fun _ _ z => z.elim
  refine codeAny_loop (c := .compLoop (.ListComp elt [⟨target, iter, ifs, 0⟩] scope pos) 0 it acc env) rfl J (fun k s hJ => ?_) k h
  show wpAny (model prog w) A ((compTurn (.ListComp elt [⟨target, iter, ifs, 0⟩] scope pos) 0 it acc env).onRaise fun x => do noteFrame x env; theTreesLotGoes x) _ _ s
  refine wpAny_noted ?_
  rw [compTurn_list]
  refine wpAny_bind (wpAny_standAt (wpAny_bind (wpAny_mono (turn k s hJ) (fun r s1 h1 => ?_) no)))
  cases r with
  | none => exact wpAny_pure h1
  | some v =>
    refine wpAny_bind (wpAny_mono h1 (fun _ s2 h2 => wpAny_bind (wpAny_mono h2 (fun _ s3 h3 => wpAny_bind (wpAny_mono h3 (fun ok s4 h4 => ?_) no)) no)) no)
    cases ok with
    | false => exact wpAny_pure ⟨rfl, h4⟩
    | true => exact wpAny_bind (wpAny_bind (wpAny_mono h4 (fun x s5 h5 => wpAny_bind (wpAny_mono h5 (fun _ s6 h6 => wpAny_pure (wpAny_pure ⟨rfl, h6⟩)) no)) no))
end
section
variable {X : Cx} {tg iter elt : Expr} {ifs : List Expr} {scope : Scope} {pos : Pos} {N : List Str} {cap : List (Option Nat)} {wi : TI} {g : TG} {tc : TT} {te : TE}
theorem comp_core {use : Option (Value → Sem Unit)} {Q' : Value → Shared → Prop} {pins : List (Addr × Obj)} {s : Shared} {σ : L2.St} {H : Hp} {Q : VK} {p0 : Pos} (hc : X.calm = true) (c : Cap X N cap scope) (hi : PI X tg iter wi) (hg : ∀ cl C s₀ H₀ ex, PG (blk X N scope cl C s₀ H₀ ex) tg g) (ht : ∀ cl C s₀ H₀ ex, PF (blk X N scope cl C s₀ H₀ ex) ifs tc)
    (he : ∀ cl C s₀ H₀ ex, PE (blk X N scope cl C s₀ H₀ ex) elt te) (hs : ∀ x, foldedSetIterable iter X.env x = pure x) (I : Inv X pins σ H s) (h : tComp wi cap g tc te σ H Q)
    (fin : ∀ (s3 s6 : Shared) (H3 H6 : Hp) (fp : List Addr) (σ6 : L2.St) (cl : List (Str × Addr)) (D : Addr), Inv X pins σ H3 s3 → (∀ b ∈ fp, FpOk X pins H3 b) → Inv (blk X N scope cl s3.heap.objs.size s3 H3 fp) [] σ6 H6 s6 → Q (.ref D) H6 →
      compPost (model X.prog X.w) X.A X.xe use Q' (.ref D) s3.heap.objs.size (.ok .next) s6) :
    wpAny (model X.prog X.w) X.A (comprehension (.ListComp elt [⟨tg, iter, ifs, 0⟩] scope pos) scope X.env p0 (newList []) false (eval iter X.env) use) Q' X.xe s := by
  obtain ⟨cl, hclos, hcl, hcl2⟩ := clos_ok (scope := scope) (env := X.env) fun y hy hf => I.ok.has y.1 (c.free y hy hf)
  refine wpAny_comprehension_free (use := use) rfl hs hclos c.kind c.loc (wpAny_mono (hi pins s σ H _ I h) (fun v s1 h1 => wpAny_mono h1 (fun itv s2 h2 => ?_) fun _ _ z => z) fun _ _ z => z)
  obtain ⟨it, fp, tn, J, H2, rfl, I2, T, st2, f2, h2⟩ := h2
  refine wpAny_newObj_type (wpAny_newFunctionEnv c.cell (by intro y hy; simp at hy) (fun h₁ hns hsb => ?_) c.kind)
  have hD : H2 s2.heap.objs.size = none := I2.fresh
  obtain ⟨W, ⟨m0, w0⟩, turn⟩ := h2 s2.heap.objs.size hD
  have I3 := I2.lnew (its := []) (ys := []) (t' := s2.toks) .nil (Nat.zero_le _)
  have fp3 : ∀ b ∈ fp, FpOk X pins (upd H2 s2.heap.objs.size (.lst [])) b := fun b hb => by
    obtain ⟨a1, a2⟩ := f2 b hb
    refine ⟨?_, a2⟩
    obtain ⟨o, ho, _⟩ := T.obj 0 _ st2 b hb
    rw [upd_ne (Nat.ne_of_lt (Heap.lt_size ho))]
    exact a1
  have lt3 : ∀ b ∈ fp, b < s2.heap.objs.size := fun b hb => by
    obtain ⟨o, ho, _⟩ := T.obj 0 _ st2 b hb
    exact Heap.lt_size ho
  revert hns hsb
  generalize hs3 : ({ s2 with heap := s2.heap.push { cls := .type "list", data := .seq ([] : List Value).toArray }, toks := s2.toks } : Shared) = s3 at I3
  intro hns hsb
  have e3h : s3.heap = s2.heap.push { cls := .type "list", data := .seq ([] : List Value).toArray } := by rw [← hs3]
  have e3 : s3.heap.objs.size = s2.heap.objs.size + 1 := by rw [e3h, Heap.size_push]
  have k23 : ∀ b o, s2.heap.get? b = some o → s3.heap.get? b = some o := fun b o e => by rw [e3h]; exact Heap.get?_push_of_some _ e
  have k34 : ∀ b o, s3.heap.get? b = some o → h₁.get? b = some o := fun b o e => hsb.extBut b o (Nat.ne_of_lt (Heap.lt_size e)) (Heap.get?_push_of_some _ e)
  have hnsC : h₁.Ns s3.heap.objs.size (fun x => ([] : List (Str × Value)).reverse.lookup x) := hns
  have I4 := blk_inv (fp := fp) (tk := s3.toks + ([] : List (Str × Value)).length) I3 c hcl hcl2 (fun b hb => ⟨by rw [e3]; exact Nat.lt_succ_of_lt (lt3 b hb), (fp3 b hb).2.1, (fp3 b hb).2.2.1, (fp3 b hb).2.2.2.1, (fp3 b hb).2.2.2.2.1⟩) hnsC k34
  have loop : ∀ s4 : Shared, s4 = { s3 with heap := h₁, toks := s3.toks + ([] : List (Str × Value)).length } →
      codeAny (model X.prog X.w) X.A (.compLoop (.ListComp elt [⟨tg, iter, ifs, 0⟩] scope pos) 0 (.ref it) (.ref s2.heap.objs.size) (compEnvC scope cl s3.heap.objs.size X.env))
        (compPost (model X.prog X.w) X.A X.xe use Q' (.ref s2.heap.objs.size) s3.heap.objs.size) s4 := by
    rintro s4 rfl
    refine comp_loop (fun m s => ∃ i σ2 H2', Inv (blk X N scope cl s3.heap.objs.size s3 (upd H2 s2.heap.objs.size (.lst [])) fp) [] σ2 H2' s ∧ tn i s.heap ∧ (∀ b ∈ fp, H2' b = none) ∧ W i m σ2 H2') ?_ m0
      ⟨0, capV cap σ, _, I4, T.keep _ _ _ st2 fun b hb o e => k34 b o (k23 b o e), fun b hb => (fp3 b hb).1, w0⟩
    rintro k s5 ⟨i, σ5, H5, I5, st5, fr5, w5⟩
    have fok : ∀ {H' : Hp} {ps : List (Addr × Obj)}, (∀ b ∈ fp, H' b = none) → (∀ p ∈ ps, ∀ b ∈ fp, p.1 ≠ b) → ∀ b ∈ fp, FpOk (blk X N scope cl s3.heap.objs.size s3 (upd H2 s2.heap.objs.size (.lst [])) fp) ps H' b := fun {H' ps} hn hp b hb =>
      ⟨hn b hb, (fun z => by have q := lt3 b hb; have z' : b = s3.heap.objs.size := z; rw [z', e3] at q; exact absurd q (Nat.not_lt.mpr (Nat.le_succ _))), I5.ok.exfs b hb, .inl hb, fun x d hd => (fp3 b hb).2.2.2.2.1 x d (hcl x d hd).1, fun p hp' => hp p (by simpa [blk] using hp') b hb⟩
    rcases turn i k σ5 H5 w5 with ⟨stop, qn⟩ | ⟨go, step⟩
    · refine wpAny_mono (T.done (blk X N scope cl s3.heap.objs.size s3 (upd H2 s2.heap.objs.size (.lst [])) fp) rfl rfl rfl hc i [] s5 σ5 H5 _ I5 (fok fr5 (fun _ z => nomatch z)) st5 stop) (fun r s6 hr => ?_) fun _ _ z => z
      obtain ⟨rfl, I6⟩ := hr
      exact fin s3 s6 _ H5 fp σ5 cl _ I3 fp3 I6 qn
    · refine wpAny_mono (T.item (blk X N scope cl s3.heap.objs.size s3 (upd H2 s2.heap.objs.size (.lst [])) fp) rfl rfl rfl hc i [] s5 σ5 H5 _ I5 (fok fr5 (fun _ z => nomatch z)) st5 go) (fun r s6 hr => ?_) fun _ _ z => z
      obtain ⟨u, rfl, h6⟩ := hr
      refine wpAny_mono h6 (fun _ s7 ⟨x, H7, I7, rx, y7, st7, fr7⟩ => ?_) fun _ _ z => z
      have I7' := I7.pinned (fok fr7 (fun _ z => nomatch z)) (T.obj _ _ st7)
      have back : ∀ {σ8 : L2.St} {H8 : Hp} {s8 : Shared}, Inv (blk X N scope cl s3.heap.objs.size s3 (upd H2 s2.heap.objs.size (.lst [])) fp) ([] ++ pinsAt fp s7.heap) σ8 H8 s8 →
          Inv (blk X N scope cl s3.heap.objs.size s3 (upd H2 s2.heap.objs.size (.lst [])) fp) [] σ8 H8 s8 ∧ tn (i + 1) s8.heap ∧ ∀ b ∈ fp, H8 b = none := fun {σ8 H8 s8} I8 => by
        refine ⟨I8.unpinned, T.keep _ _ _ st7 fun b hb o e => (I8.pin (b, o) (List.mem_append_right _ (List.mem_append_right _ (mem_pinsAt hb e)))).1, fun b hb => ?_⟩
        obtain ⟨o, e, d⟩ := T.obj _ _ st7 b hb
        exact (I8.pin (b, o) (List.mem_append_right _ (List.mem_append_right _ (mem_pinsAt hb e)))).2.1
      refine thn (hg cl _ _ _ fp _ s7 σ5 H7 x u _ I7' rx (step x H7 y7)) fun _ s8 ⟨σ8, H8, I8, q8⟩ => ?_
      refine thn (ht cl _ _ _ fp _ s8 σ8 H8 _ I8 q8) fun ok s9 ⟨H9, I9, q9⟩ => ?_
      cases ok with
      | false =>
        obtain ⟨m', hm, w9⟩ := q9
        obtain ⟨a1, a2, a3⟩ := back I9
        exact ⟨m', hm, i + 1, σ8, H9, a1, a2, a3, w9⟩
      | true =>
        refine thn (he cl _ _ _ fp _ s9 σ8 H9 _ I9 q9) fun y s10 ⟨v10, H10, I10, r10, xs, hx, hz, m', hm, w10⟩ => ?_
        refine thn (mt_append (X := blk X N scope cl s3.heap.objs.size s3 (upd H2 s2.heap.objs.size (.lst [])) fp) _ s10 σ8 H10 (.ref s2.heap.objs.size) [v10] (.ref s2.heap.objs.size) [y] (fun _ H' => W (i + 1) m' σ8 H') I10 rfl (.cons r10 .nil) ⟨_, xs, _, rfl, rfl, hx, hz, w10⟩) fun _ s11 ⟨_, H11, I11, _, w11⟩ => ?_
        obtain ⟨a1, a2, a3⟩ := back I11
        exact ⟨m', hm, i + 1, σ8, H11, a1, a2, a3, w11⟩
  exact codeAny_compStart_list (loop _ rfl) (T.self _ 0 _ _ _ (T.keep _ _ _ st2 fun b hb o e => k34 b o (k23 b o e)) (loop _ rfl))
theorem pe_comp (hc : X.calm = true) (c : Cap X N cap scope) (hi : PI X tg iter wi) (hg : ∀ cl C s₀ H₀ ex, PG (blk X N scope cl C s₀ H₀ ex) tg g) (ht : ∀ cl C s₀ H₀ ex, PF (blk X N scope cl C s₀ H₀ ex) ifs tc)
    (he : ∀ cl C s₀ H₀ ex, PE (blk X N scope cl C s₀ H₀ ex) elt te) (hs : ∀ x, foldedSetIterable iter X.env x = pure x := by intro _; rfl) : PE X (.ListComp elt [⟨tg, iter, ifs, 0⟩] scope pos) (tComp wi cap g tc te) := by
  intro pins s σ H Q I h
  rw [eval_ListComp]
  refine comp_core hc c hi hg ht he hs I h fun s3 s6 H3 H6 fp σ6 cl D I3 fp3 I6 q => ?_
  obtain ⟨m6, hn6, _⟩ := I6.loc
  exact ⟨m6, hn6, fun h' sb => ⟨.ref D, H6, blk_out I3 I6 sb fp3, rfl, q⟩⟩
theorem ps_comp {i : Nat} {x : Str} {pos' pos2 : Pos} (hN : X.N.Nodup) (hi' : X.N[i]? = some x) (hx : X.env.scope.names.lookup x = some .local) (hsw : swapsWith (.ListComp elt [⟨tg, iter, ifs, 0⟩] scope pos) (some (.Name x pos')) pos2.line X.env = pure true)
    (hc : X.calm = true) (c : Cap X N cap scope) (hi : PI X tg iter wi) (hg : ∀ cl C s₀ H₀ ex, PG (blk X N scope cl C s₀ H₀ ex) tg g) (ht : ∀ cl C s₀ H₀ ex, PF (blk X N scope cl C s₀ H₀ ex) ifs tc)
    (he : ∀ cl C s₀ H₀ ex, PE (blk X N scope cl C s₀ H₀ ex) elt te) (hs : ∀ x, foldedSetIterable iter X.env x = pure x := by intro _; rfl) :
    PS X (.Assign [.Name x pos'] (.ListComp elt [⟨tg, iter, ifs, 0⟩] scope pos) pos2) (tAsg (tComp wi cap g tc te) (gName i)) := by
  intro pins s σ H D I h
  rw [exec_Assign_Name_used x pos' _ pos2 hsw]
  refine wpAny_bind (wpAny_standAt (wpAny_bind ?_))
  show wpAny (model X.prog X.w) X.A (comprehension (.ListComp elt [⟨tg, iter, ifs, 0⟩] scope pos) scope X.env _ (newList []) false (eval iter X.env) (some (assign (.Name x pos') X.env)) >>= fun _ => pure ()) _ _ s
  refine wpAny_bind (comp_core hc c hi hg ht he hs I h fun s3 s6 H3 H6 fp σ6 cl Dl I3 fp3 I6 q => ?_)
  obtain ⟨m6, hn6, _⟩ := I6.loc
  have hn6' : s6.heap.Ns s3.heap.objs.size m6 := hn6
  have I7 : Inv X pins σ H6 s6 := blk_out (h' := s6.heap) I3 I6 ⟨rfl, fun _ _ => rfl⟩ fp3
  refine wpAny_assign_Name (store_ok2 I7 hN hi' (.inl hx) (v := .ref Dl) rfl (fun s8 I8 h8 => ?_) (.inr hx))
  obtain ⟨a, sb8, ha⟩ := h8
  have fresh : H6 s3.heap.objs.size = none := I6.free
  have neL : s3.heap.objs.size ≠ X.env.locals := Nat.ne_of_gt I3.lt
  have neC : ∀ y d, X.env.cells.lookup y = some d → d ≠ s3.heap.objs.size := fun y d e => by
    obtain ⟨v, o, ho, _⟩ := I3.cell y d e
    exact Nat.ne_of_lt (Heap.lt_size ho)
  have neP : ∀ p ∈ X.pn ++ pins, p.1 ≠ s3.heap.objs.size := fun p hp => Nat.ne_of_lt (Heap.lt_size (I3.pin p hp).1)
  have neA : s3.heap.objs.size ≠ a := by
    rcases ha with z | z
    · rw [z]; exact neL
    · exact Ne.symm (neC x a z)
  refine ⟨m6, hn6'.sameBut sb8 neA, fun h' sb => wpAny_pure (wpAny_pure ⟨_, H6, ?_, q⟩)⟩
  exact I8.turned (t' := s8.toks) (fun b o hb e => (sb.2 b hb).trans e) fresh neL (.inr I3.sz) neC neP
end
end IL
namespace IL
open PySem PySem.Spec PyProof.Rows L2
def capP (cap : List (Option Nat)) (σ : PSt) : PSt := cap.map fun o => o.bind fun i => (σ[i]?).join
def noEx {α : Type} (m : Mo α) : Mo α := fun ph => match m ph with
  | .ok a ph' => .ok a ph'
  | _ => .no
theorem run_noEx {α : Type} {m : Mo α} {ph : PH} {N : α → PH → Prop} {E E' : XC → PH → Prop} (h : (noEx m ph).Run N E) : (m ph).Run N E' := by
  unfold noEx at h
  cases e : m ph with
  | ok a ph' => rw [e] at h; exact h
  | ex x ph' => rw [e] at h; exact h.elim
  | no => rw [e] at h; exact h
def compG (chk : PH → Bool) (g : GM) (c : TM) (e : EM) (L : Nat) : List W → PSt → Mo Unit
  | [], _ => fun ph => if chk ph = true then .ok () ph else .no
  | x :: xs, σ => fun ph => if chk ph = true then bnd (noEx (g x σ)) (fun σ1 => bnd (noEx (c σ1)) fun t => if t = true then bnd (noEx (e σ1)) fun w => bnd (lift (appendW (.ref L) [w])) fun _ => compG chk g c e L xs σ1 else compG chk g c e L xs σ1) ph else .no
def eComp (im : IM) (cap : List (Option Nat)) (g : GM) (c : TM) (e : EM) : EM := fun σ => bnd (im σ) fun r ph => bnd (compG r.2 g c e ph.length r.1 (capP cap σ)) (fun _ => pur (.ref ph.length)) (ph ++ [.lst []])
section
variable {K : PySem.W.Frag} {φ : Nat → Addr} {n : Nat} {H : Hp}
theorem RelS.cap {ws : PSt} {σ : L2.St} (h : RelS K φ n H ws σ) : ∀ (cap : List (Option Nat)), RelS K φ n H (capP cap ws) (capV cap σ)
  | [] => .nil
  | o :: r => by
    have ih := RelS.cap h r
    unfold capP capV at ih ⊢
    rw [List.map_cons, List.map_cons]
    cases o with
    | none => exact .nn ih
    | some i =>
      cases q : ws[i]? with
      | none => simp only [Option.bind_some, q, Option.join_none]; exact .nn ih
      | some o =>
        cases o with
        | none => simp only [Option.bind_some, q, Option.join_some]; exact .nn ih
        | some w =>
          obtain ⟨v, ev, rv⟩ := h.get q
          simp only [Option.bind_some, q, ev, Option.join_some]
          exact .sm rv ih
theorem append_some {L : Nat} {w u : W} {ph ph' : PH} (h : appendW (.ref L) [w] ph = some (u, ph')) : ∃ ws, ph[L]? = some (.lst ws) ∧ ws.length < sizeLine ∧ ph' = ph.set L (.lst (ws ++ [w])) := by
  unfold appendW at h
  simp only at h
  split at h
  · rename_i ws hw
    split at h
    · rename_i hz
      cases h
      exact ⟨ws, hw, hz, rfl⟩
    · cases h
  · cases h
end
def tM0 (K : PySem.W.Frag) (m : EM) : TE := fun σ H Q => ∃ φ ph ws, RelH K φ ph H ∧ RelS K φ ph.length H ws σ ∧ (m ws ph).Run (fun w ph' =>
  ∀ φ' H' v, RelH K φ' ph' H' → Step K φ ph.length H φ' ph'.length H' → RelW K φ' ph'.length H' w v → Q v H') (fun _ _ => False)
def tT0 (K : PySem.W.Frag) (m : TM) : TT := fun σ H Q => ∃ φ ph ws, RelH K φ ph H ∧ RelS K φ ph.length H ws σ ∧ (m ws ph).Run (fun b ph' =>
  ∀ φ' H', RelH K φ' ph' H' → Step K φ ph.length H φ' ph'.length H' → Q b H') (fun _ _ => False)
def tG0 (K : PySem.W.Frag) (g : GM) : TG := fun v σ H Q => ∃ φ ph ws w, RelH K φ ph H ∧ RelS K φ ph.length H ws σ ∧ RelW K φ ph.length H w v ∧ (g w ws ph).Run (fun ws' ph' =>
  ∀ φ' H' σ', RelH K φ' ph' H' → Step K φ ph.length H φ' ph'.length H' → RelS K φ' ph'.length H' ws' σ' → Q σ' H') (fun _ _ => False)
section
variable {X : Cx} {e : Expr}
theorem e0 {m : EM} (h : IE X e m) : PE X e (tM0 X.K m) := PE.imp h fun _ _ _ ⟨φ, ph, ws, a, b, c⟩ => ⟨φ, ph, ws, a, b, c.mono (fun _ _ z => z) fun _ _ z => z.elim⟩
theorem t0 {m : TM} (h : IT X e m) : PT X e (tT0 X.K m) := PT.imp h fun _ _ _ ⟨φ, ph, ws, a, b, c⟩ => ⟨φ, ph, ws, a, b, c.mono (fun _ _ z => z) fun _ _ z => z.elim⟩
theorem g0 {g : GM} (h : IG X e g) : PG X e (tG0 X.K g) := PG.imp h fun _ _ _ _ ⟨φ, ph, ws, w, a, b, r, c⟩ => ⟨φ, ph, ws, w, a, b, r, c.mono (fun _ _ z => z) fun _ _ z => z.elim⟩
end
section
variable {X : Cx} {tg iter elt : Expr} {ifs : List Expr} {scope : Scope} {pos : Pos} {N : List Str} {cap : List (Option Nat)} {im : IM} {g : GM} {c : TM} {e : EM}
theorem comp_imp {σ : L2.St} {H : Hp} {Q : VK} (h : tM X (eComp im cap g c e) σ H Q) : tComp (tI X im) cap (tG0 X.K g) (tT0 X.K c) (tM0 X.K e) σ H Q := by
  obtain ⟨φ, ph, ws, hH, hS, h⟩ := h
  unfold eComp at h
  rw [run_bnd] at h
  refine ⟨φ, ph, ws, hH, hS, h.mono (fun r ph1 h φ1 H1 J hH1 s1 hJ D hD => ?_) fun _ _ z => z⟩
  obtain ⟨items, chk⟩ := r
  rw [run_bnd] at h
  have nl := new_list (ws := []) (vs := []) hH1 .nil hD
  have hl : (ph1 ++ [PO.lst []]).length = ph1.length + 1 := by simp
  rw [hl] at nl
  obtain ⟨hH2, s2, _⟩ := nl
  refine ⟨fun i m σ2 H2 => ∃ φ2 ph2 ws2, m = (items.drop i).length ∧ RelH X.K φ2 ph2 H2 ∧ RelS X.K φ2 ph2.length H2 ws2 σ2 ∧ Step X.K (ext φ1 ph1.length D) (ph1.length + 1) (upd H1 D (.lst [])) φ2 ph2.length H2 ∧
      (compG chk g c e ph1.length (items.drop i) ws2 ph2).Run (fun _ ph' => ∀ φ' H' v, RelH X.K φ' ph' H' → Step X.K φ2 ph2.length H2 φ' ph'.length H' → RelW X.K φ' ph'.length H' (.ref ph1.length) v → Q v H') (fun _ _ => True),
    ⟨_, ext φ1 ph1.length D, ph1 ++ [PO.lst []], capP cap ws, rfl, hH2, ?_, by rw [hl]; exact Step.refl, ?_⟩, ?_⟩
  · rw [hl]
    exact (RelS.cap ((hS.mono s1).mono s2) cap)
  · exact Out.Run.mono h (fun _ ph' k φ' H' v r' st' rv => k φ' H' v r' ((s1.trans s2).trans (by rw [hl] at st'; exact st')) rv) fun _ _ _ => trivial
  rintro i m σ2 H2 ⟨φ2, ph2, ws2, rfl, hr2, hS2, st2, h4⟩
  have hphi : φ2 ph1.length = D := by rw [st2.eq _ (Nat.lt_succ_self _), ext_eq]
  cases hd : items.drop i with
  | nil =>
    rw [hd] at h4
    unfold compG at h4
    split at h4
    · rename_i hc
      have hn : items[i]? = none := by
        have : items.length ≤ i := by simpa using hd
        simpa using this
      refine .inl ⟨(hJ φ2 _ H2 hr2 (s2.trans st2) hc i).2 hn, h4 φ2 H2 _ hr2 Step.refl ?_⟩
      rw [← hphi]
      exact .ref (Nat.lt_of_lt_of_le (Nat.lt_succ_self _) st2.le)
    · exact h4.elim
  | cons x xs =>
    rw [hd] at h4
    unfold compG at h4
    split at h4
    · rename_i hc
      have hx : items[i]? = some x := by
        have := congrArg (fun l => l[0]?) hd
        simpa using this
      have hxs : items.drop (i + 1) = xs := by
        have := congrArg (fun l => l.drop 1) hd
        simpa [List.drop_drop, Nat.add_comm] using this
      obtain ⟨hgo, hy⟩ := (hJ φ2 _ H2 hr2 (s2.trans st2) hc i).1 x hx
      refine .inr ⟨hgo, fun v H3 y => ?_⟩
      obtain ⟨hH3, s3, rv⟩ := hy v H3 y
      rw [run_bnd] at h4
      refine ⟨φ2, ph2, ws2, x, hH3, hS2.mono s3, rv, (run_noEx h4).mono (fun ws5 ph5 h5 φ5 H5 σ5 hH5 s5 hS5 => ?_) fun _ _ z => z⟩
      rw [run_bnd] at h5
      refine ⟨φ5, ph5, ws5, hH5, hS5, (run_noEx h5).mono (fun t ph6 h6 φ6 H6 hH6 s6 => ?_) fun _ _ z => z⟩
      have s26 := (s3.trans s5).trans s6
      have sall := st2.trans s26
      cases t with
      | false =>
        refine iteF ⟨xs.length, by simp, φ6, ph6, ws5, by rw [hxs], hH6, hS5.mono s6, sall, ?_⟩
        rw [hxs]
        exact Out.Run.mono h6 (fun _ ph' k φ' H' v r' st' q => k φ' H' v r' (s26.trans st') q) fun _ _ z => z
      | true =>
        have h6' : (bnd (noEx (e ws5)) (fun w => bnd (lift (appendW (.ref ph1.length) [w])) fun _ => compG chk g c e ph1.length xs ws5) ph6).Run _ _ := h6
        rw [run_bnd] at h6'
        refine iteT ⟨φ6, ph6, ws5, hH6, hS5.mono s6, (run_noEx h6').mono (fun w7 ph7 h7 φ7 H7 v7 hH7 s7 r7 => ?_) fun _ _ z => z⟩
        rw [run_bnd] at h7
        obtain ⟨u8, ph8, e8, h8⟩ := run_lift h7
        obtain ⟨wsL, hL, hz, rfl⟩ := append_some e8
        have s27 := s26.trans s7
        have sall2 := sall.trans s7
        have hphi7 : φ7 ph1.length = D := by rw [sall2.eq _ (Nat.lt_succ_self _), ext_eq]
        obtain ⟨vs, hv, rvs⟩ := hH7.hp _ _ hL
        have hlt : ph1.length < ph7.length := (List.getElem?_eq_some_iff.mp hL).1
        obtain ⟨q1, q2⟩ := put_list hH7 hlt (rvs.append (.cons r7 .nil))
        rw [hphi7] at hv q1 q2
        refine ⟨vs, hv, by rw [← rvs.length]; exact hz, xs.length, by simp, φ7, _, ws5, by rw [hxs], q1, ((hS5.mono s6).mono s7).mono q2, sall2.trans q2, ?_⟩
        rw [hxs]
        exact Out.Run.mono h8 (fun _ ph' k φ' H' v r' st' q => k φ' H' v r' ((s27.trans q2).trans st') q) fun _ _ z => z
    · exact h4.elim
theorem PF.imp {t t' : TT} (h : PF X ifs t) (k : ∀ σ H Q, t' σ H Q → t σ H Q) : PF X ifs t' := fun pins s σ H Q I q => h pins s σ H Q I (k σ H Q q)
def cTrue : TM := fun _ => pur true
theorem if_nil : PF X [] (tT0 X.K cTrue) := PF.imp pf_nil fun σ H Q h => by
  obtain ⟨φ, ph, ws, hH, hS, h⟩ := h
  exact h φ H hH Step.refl
theorem if_one {cd : Expr} (h : IT X cd c) : PF X [cd] (tT0 X.K c) := pf_one (t0 h)
theorem ie_comp (hc : X.calm = true) (cp : Cap X N cap scope) (hi : II X tg iter im) (hg : ∀ cl C s₀ H₀ ex, IG (blk X N scope cl C s₀ H₀ ex) tg g) (ht : ∀ cl C s₀ H₀ ex, PF (blk X N scope cl C s₀ H₀ ex) ifs (tT0 X.K c))
    (he : ∀ cl C s₀ H₀ ex, IE (blk X N scope cl C s₀ H₀ ex) elt e) (hs : ∀ x, foldedSetIterable iter X.env x = pure x := by intro _; rfl) : IE X (.ListComp elt [⟨tg, iter, ifs, 0⟩] scope pos) (eComp im cap g c e) :=
  PE.imp (pe_comp hc cp hi (fun cl C s₀ H₀ ex => g0 (hg cl C s₀ H₀ ex)) ht (fun cl C s₀ H₀ ex => e0 (he cl C s₀ H₀ ex)) hs) fun _ _ _ h => comp_imp h
theorem is_comp {i : Nat} {x : Str} {pos' pos2 : Pos} (hN : X.N.Nodup) (hi' : X.N[i]? = some x) (hx : X.env.scope.names.lookup x = some .local)
    (hc : X.calm = true) (cp : Cap X N cap scope) (hi : II X tg iter im) (hg : ∀ cl C s₀ H₀ ex, IG (blk X N scope cl C s₀ H₀ ex) tg g) (ht : ∀ cl C s₀ H₀ ex, PF (blk X N scope cl C s₀ H₀ ex) ifs (tT0 X.K c))
    (he : ∀ cl C s₀ H₀ ex, IE (blk X N scope cl C s₀ H₀ ex) elt e) (hsw : swapsWith (.ListComp elt [⟨tg, iter, ifs, 0⟩] scope pos) (some (.Name x pos')) pos2.line X.env = pure true := by rfl) (hs : ∀ x, foldedSetIterable iter X.env x = pure x := by intro _; rfl) :
    IS X (.Assign [.Name x pos'] (.ListComp elt [⟨tg, iter, ifs, 0⟩] scope pos) pos2) (sAsg (eComp im cap g c e) (gN i)) :=
  PS.imp (ps_comp hN hi' hx hsw hc cp hi (fun cl C s₀ H₀ ex => g0 (hg cl C s₀ H₀ ex)) ht (fun cl C s₀ H₀ ex => e0 (he cl C s₀ H₀ ex)) hs) fun D σ H h => by
    obtain ⟨φ, ph, ws, hH, hS, h⟩ := h
    unfold sAsg at h
    rw [run_bnd] at h
    exact comp_imp ⟨φ, ph, ws, hH, hS, h.mono (fun w ph1 h φ1 H1 v hH1 s1 r1 => h φ1 H1 hH1 s1 _ ((hS.mono s1).set r1 i)) fun _ _ z => z⟩
end
end IL
namespace IL
open PySem PySem.Spec PyProof.Rows L2
def gAll : List GM → List W → PSt → Mo PSt
  | [], [], σ => pur σ
  | g :: gs, w :: ws, σ => bnd (g w σ) fun σ' => gAll gs ws σ'
  | _, _, _ => nop
def tGs (X : Cx) (gs : List GM) : TGs := fun vs σ H Q => ∃ φ ph ws xs, RelH X.K φ ph H ∧ RelS X.K φ ph.length H ws σ ∧ RelWs X.K φ ph.length H xs vs ∧ (gAll gs xs ws ph).Run (fun ws' ph' =>
  ∀ φ' H' σ', RelH X.K φ' ph' H' → Step X.K φ ph.length H φ' ph'.length H' → RelS X.K φ' ph'.length H' ws' σ' → Q σ' H') (XE X φ ph.length H)
def gLen (n : Nat) (gs : List GM) : GM := fun w σ => match w with
  | .tup ws => if ws.length = n then gAll gs ws σ else nop
  | _ => nop
section
variable {X : Cx} {tg : Expr} {es : List Expr} {g : GM} {gs : List GM} {pos : Pos}
theorem PGs.imp {t t' : TGs} (h : PGs X es t) (k : ∀ v σ H Q, t' v σ H Q → t v σ H Q) : PGs X es t' := fun pins s σ H v u Q I r q => h pins s σ H v u Q I r (k v σ H Q q)
theorem igs_nil : PGs X [] (tGs X []) := PGs.imp pgs_nil fun vs σ H Q h => by
  obtain ⟨φ, ph, ws, xs, hH, hS, r, h⟩ := h
  cases r with
  | nil => exact ⟨rfl, h φ H σ hH Step.refl hS⟩
  | cons _ _ => exact h.elim
theorem igs_cons {e : Expr} (h1 : IG X e g) (h2 : PGs X es (tGs X gs)) (hs : (assignEach (e :: es) X.env).map (·.2) = assign e X.env :: (assignEach es X.env).map (·.2) := by rfl) : PGs X (e :: es) (tGs X (g :: gs)) :=
  PGs.imp (pgs_cons h1 h2 hs) fun vs σ H Q h => by
    obtain ⟨φ, ph, ws, xs, hH, hS, r, h⟩ := h
    cases r with
    | nil => exact h.elim
    | cons rw' rr =>
      refine ⟨_, _, rfl, tG.bind hH hS rw' h fun ws1 ph1 φ1 H1 σ1 hH1 s1 hS1 h1 => ?_⟩
      exact ⟨φ1, ph1, ws1, _, hH1, hS1, rr.mono s1, h1.mono (fun ws' ph' k φ' H' σ' r' s' q => k φ' H' σ' r' (s1.trans s') q) fun _ _ z => z⟩
theorem ig_tup {k n : Nat} (hc : X.calm = true) (h : PGs X es (tGs X gs)) (hn : (assignEach es X.env).length = n := by rfl) (hst : (assignEach es X.env).findIdx? (·.1) = none := by rfl) : IG X (.Tuple es k pos) (gLen n gs) :=
  PG.imp (pg_tup hc h hn hst) fun v σ H Q h => by
    obtain ⟨φ, ph, ws, w, hH, hS, r, h⟩ := h
    unfold gLen at h
    cases r with
    | tup hq r =>
      simp only at h
      split at h
      · rename_i hl
        exact ⟨_, _, rfl, SqT.of hq, by rw [← r.length]; exact hl, φ, ph, ws, _, hH, hS, r, h⟩
      · exact h.elim
    | _ => exact h.elim
def setW (o i v : W) : Po Unit := fun ph => match o, i with
  | .ref r, .int k => match ph[r]? with
    | some (.lst ws) => match ixN ws.length k with
      | some j => some ((), ph.set r (.lst (ws.set j v)))
      | none => none
    | _ => none
  | _, _ => none
end
def cutW (ws : List W) (lo hi : Option Int) : List W := (ws.drop (HT.sIx ws.length 0 lo)).take (HT.sIx ws.length ws.length hi - HT.sIx ws.length 0 lo)
theorem cut_rel {K : PySem.W.Frag} {φ : Nat → Addr} {n : Nat} {H : Hp} {ws : List W} {vs : List V} (r : RelWs K φ n H ws vs) (lo hi : Option Int) : RelWs K φ n H (cutW ws lo hi) (cutV vs lo hi) := by
  unfold cutW cutV
  rw [r.length]
  exact (r.drop _).take _
def slW (w : W) (lo hi : Option Int) : Po W := fun ph => match w with
  | .tup ws => if HT.sIx ws.length 0 lo = 0 ∧ HT.sIx ws.length ws.length hi = ws.length then none else some (.tup (cutW ws lo hi), ph)
  | .fl ws => some (.ref ph.length, ph ++ [.lst (cutW ws lo hi)])
  | .ref i => match ph[i]? with
    | some (.lst ws) => some (.ref ph.length, ph ++ [.lst (cutW ws lo hi)])
    | _ => none
  | _ => none
abbrev OM := PSt → Mo (Option Int)
def oNone : OM := fun _ => pur none
def oSome (m : EM) : OM := fun σ => bnd (m σ) fun w => lift (match w with
  | .int i => ret (some i)
  | _ => nono)
def eSl (m : EM) (lo hi : OM) : EM := fun σ => bnd (m σ) fun w => bnd (lo σ) fun l => bnd (hi σ) fun h => lift (slW w l h)
def tO (X : Cx) (m : OM) : TO := fun σ H Q => ∃ φ ph ws, RelH X.K φ ph H ∧ RelS X.K φ ph.length H ws σ ∧ (m ws ph).Run (fun o ph' =>
  ∀ φ' H', RelH X.K φ' ph' H' → Step X.K φ ph.length H φ' ph'.length H' → Q o H') (XE X φ ph.length H)
abbrev IO' (X : Cx) (e : Option Expr) (m : OM) : Prop := L2.PO X e (tO X m)
section
variable {X : Cx} {e : Expr} {lo hi : Option Expr} {m : EM} {ml mh : OM} {pos p2 : Pos}
theorem io_none : IO' X none oNone := fun pins s σ H Q I ⟨φ, ph, ws, hH, hS, h⟩ => po_none pins s σ H Q I (h φ H hH Step.refl)
theorem io_some (he : IE X e m) : IO' X (some e) (oSome m) := fun pins s σ H Q I ⟨φ, ph, ws, hH, hS, h⟩ => po_some he pins s σ H Q I (tM.bind hH hS h fun w ph1 φ1 H1 v hH1 s1 r1 h => by
  obtain ⟨o, ph', e, k⟩ := run_lift h
  split at e
  · cases e; cases r1; exact ⟨_, rfl, k φ1 H1 hH1 s1⟩
  · cases e)
theorem tO.bind {β : Type} {m : OM} {σ : L2.St} {H : Hp} {Q : Option Int → Hp → Prop} {φ : Nat → Addr} {ph : PH} {ws : PSt} {f : Option Int → Mo β} {N : β → PH → Prop} (hH : RelH X.K φ ph H) (hS : RelS X.K φ ph.length H ws σ) (h : (bnd (m ws) f ph).Run N (XE X φ ph.length H))
    (k : ∀ b ph1 φ1 H1, RelH X.K φ1 ph1 H1 → Step X.K φ ph.length H φ1 ph1.length H1 → (f b ph1).Run N (XE X φ1 ph1.length H1) → Q b H1) : tO X m σ H Q := by
  rw [run_bnd] at h
  exact ⟨φ, ph, ws, hH, hS, h.mono (fun b ph1 h1 φ1 H1 hH1 s1 => k b ph1 φ1 H1 hH1 s1 (h1.mono (fun _ _ z => z) fun _ _ z => z.step s1)) fun _ _ z => z⟩
theorem ie_sl (he : IE X e m) (hl : IO' X lo ml) (hh : IO' X hi mh) : IE X (.Subscript e (.Slice lo hi none p2) pos) (eSl m ml mh) :=
  PE.imp (pe_slice (SlR.or sl_tup sl_list) he hl hh) fun σ H Q h => by
    obtain ⟨φ, ph, ws, hH, hS, h⟩ := h
    refine tM.bind hH hS h fun w ph1 φ1 H1 v hH1 s1 r1 h => tO.bind hH1 (hS.mono s1) h fun l ph2 φ2 H2 hH2 s2 h => tO.bind hH2 ((hS.mono s1).mono s2) h fun u ph3 φ3 H3 hH3 s3 h => ?_
    obtain ⟨w', ph', e, k⟩ := run_lift h
    have r3 := (r1.mono s2).mono s3
    have s13 := (s1.trans s2).trans s3
    unfold slW at e
    cases r3 with
    | tup hq r =>
      simp only at e
      split at e
      · cases e
      · rename_i hw
        cases e
        refine .inl ⟨_, _, rfl, SqT.of hq, by rw [← r.length]; exact hw, fun p hp => ?_⟩
        exact k φ3 _ _ (hH3.tup hp) (s13.trans (step_tup hp)) (.tup upd_same ((cut_rel r l u).mono (step_tup hp)))
    | fl hq r =>
      cases e
      refine .inr ⟨_, _, rfl, hq.sq, fun p hp => ?_⟩
      obtain ⟨q1, q2, q3⟩ := new_list hH3 (cut_rel r l u) hp
      exact k _ _ _ q1 (s13.trans q2) q3
    | ref hi' =>
      simp only at e
      split at e
      · rename_i ws' hw
        cases e
        obtain ⟨vs, hv, r⟩ := hH3.hp _ _ hw
        refine .inr ⟨_, _, rfl, SqL.of hv, fun p hp => ?_⟩
        obtain ⟨q1, q2, q3⟩ := new_list hH3 (cut_rel r l u) hp
        exact k _ _ _ q1 (s13.trans q2) q3
      · cases e
    | _ => cases e
end
def listW : List W → Po W := fun xs ph => match xs with
  | [w] => match seqW w ph with
    | some ws => some (.ref ph.length, ph ++ [.lst ws])
    | none => none
  | _ => none
theorem listW_i {K : PySem.W.Frag} : CallI K (fun xs H Q => ∃ p ys, xs = [.ref p] ∧ (SqL K H p ys ∨ SqT K H p ys) ∧ ∀ l, H l = none → Q (.ref l) (upd H l (.lst ys))) listW := by
  intro φ ph H xs vs w ph' Q hH r e k
  unfold listW at e
  split at e
  · split at e
    · rename_i w0 ws hw
      cases e
      cases r with
      | cons r r' =>
        cases r'
        obtain ⟨a, ys, rfl, hs, rs⟩ := seqW_rel hH r hw
        refine ⟨a, ys, rfl, hs, fun l hl => ?_⟩
        obtain ⟨q1, q2, q3⟩ := new_list hH rs hl
        exact k _ _ _ q1 q2 q3
    · cases e
  · cases e
def max2W : List W → Po W := fun xs => match xs with
  | [.int i, .int j] => ret (.int (if j > i then j else i))
  | _ => nono
def min2W : List W → Po W := fun xs => match xs with
  | [.int i, .int j] => ret (.int (if j < i then j else i))
  | _ => nono
def eChain (f f' : W → W → Po W) (a b c : EM) : EM := fun σ => bnd (a σ) fun x => bnd (b σ) fun y => bnd (lift (f x y)) fun z => match z with
  | .bl k => if k = true then bnd (c σ) fun u => lift (f' y u) else pur (.bl false)
  | _ => nop
section
variable {X : Cx} {a b c : Expr} {ma mb mc : EM} {pos : Pos} {op op' : CmpOp} {r r' : R2} {f f' : W → W → Po W}
end
end IL
namespace IL
open PySem PySem.Spec PyProof.Rows L2
structure BdL (X : Cx) (N : List Str) (sc : Scope) : Prop where
  hN : X.N = N
  vis : ∀ x, Vis sc x → Vis X.env.scope x
  loc : ∀ x, Loc sc x → Loc X.env.scope x
  gl : ∀ x, sc.names.lookup x = some .globalImplicit → Gl X x
  fn : ∀ x, Loc sc x → X.fn x = true ∨ X.env.scope.names.lookup x = some .local
  nd : N.Nodup
structure BdT (X : Cx) (N : List Str) (sc : Scope) (k : Nat) : Prop extends BdL X N sc where
  calm : X.calm = true
  room : Room k X.A
structure Bd (X : Cx) (N : List Str) (sc : Scope) (k : Nat) : Prop extends BdT X N sc k where
  pass : PassesOwn (model X.prog X.w) X.A X.env X.xe
section
variable {X : Cx} {N : List Str} {sc : Scope} {k : Nat} {pos : Pos}
theorem BdL.var (B : BdL X N sc) (i : Nat) {x : Str} (hN : N[i]? = some x) (hv : Vis sc x) (hd : (x == ("__debug__" : Str)) = false) (hcd : (x == ("__classdict__" : Str)) = false) : IE X (.Name x pos) (eVar i) :=
  ie_var i (hN := by rw [B.hN]; exact hN) (hv := B.vis x hv) (hd := hd) (hcd := hcd)
theorem BdL.name (B : BdL X N sc) (i : Nat) {x : Str} (hN : N[i]? = some x) (hl : Loc sc x) : IG X (.Name x pos) (gN i) :=
  ig_name (by rw [B.hN]; exact B.nd) (by rw [B.hN]; exact hN) (B.loc x hl) (B.fn x hl)
theorem BdL.set (B : BdL X N sc) (i : Nat) {x : Str} {e : Expr} {m : EM} {pos' : Pos} (hN : N[i]? = some x) (hl : Loc sc x) (he : IE X e m) (hs : swapsWith e (some (.Name x pos')) pos.line X.env = pure false := by rfl) : IS X (.Assign [.Name x pos'] e pos) (sAsg m (gN i)) :=
  is_set (by rw [B.hN]; exact B.nd) (by rw [B.hN]; exact hN) (B.loc x hl) he hs (B.fn x hl)
theorem Bd.for_ (B : Bd X N sc k) {iter tg : Expr} {im : IM} {g : GM} {b : SM} {body : List Stmt} (hi : II X tg iter im) (hg : IG X tg g) (hb : ISs X body b) (hs : ∀ x, foldedSetIterable iter X.env x = pure x := by intro _; rfl) : IS X (.For tg iter body [] pos) (sFor im g b) :=
  is_for B.pass B.calm hi hg hb hs
theorem Bd.while_ (B : Bd X N sc k) {c : Expr} {t : TM} {b : SM} {body : List Stmt} (hc : IT X c t) (hb : ISs X body b) : IS X (.While c body [] pos) (sWhile t b) := is_while B.pass hc hb
theorem lookup_relabel_glob {env : Env} {x : Str} : ∀ {names : List (Str × NameKind)}, names.lookup x = some .globalImplicit →
    (names.map fun (n, k) => if (k == NameKind.free && env.scope.kind == .function && env.kindOf n == some .cell) then (n, NameKind.cell) else (n, k)).lookup x = some .globalImplicit
  | [], h => by cases h
  | (n, k) :: r, h => by
    show List.lookup x ((if (k == NameKind.free && env.scope.kind == .function && env.kindOf n == some .cell) = true then (n, NameKind.cell) else (n, k)) :: _) = _
    rw [List.lookup_cons] at h
    cases q : x == n with
    | true =>
      rw [q] at h
      cases h
      have hno : ¬ ((NameKind.globalImplicit == NameKind.free && env.scope.kind == .function && env.kindOf n == some .cell) = true) := by
        rw [show (NameKind.globalImplicit == NameKind.free) = false from rfl, Bool.false_and, Bool.false_and]
        exact Bool.false_ne_true
      rw [if_neg hno, List.lookup_cons, q]
    | false =>
      rw [q] at h
      have ih := lookup_relabel_glob (env := env) h
      split
      · rw [List.lookup_cons, q]; exact ih
      · rw [List.lookup_cons, q]; exact ih
theorem Bd.blk (B : Bd X N sc k) {N' : List Str} {scope : Scope} {cl : List (Str × Addr)} {C : Addr} {s₀ : Shared} {H₀ : Hp} {ex : List Addr} (hc : ∀ y ∈ scope.names, y.2 ≠ .cell) (nd : N'.Nodup) : Bd (blk X N' scope cl C s₀ H₀ ex) N' scope k where
  hN := rfl
  vis := fun x h => by
    rcases h with h | h | h
    · exact .inl (lookup_relabel_local (env := X.env) h)
    · exact absurd rfl (hc _ (mem_lookup h))
    · exact .inr (lookup_relabel_free (env := X.env) h)
  loc := fun x h => by
    rcases h with h | h
    · exact .inl (lookup_relabel_local (env := X.env) h)
    · exact absurd rfl (hc _ (mem_lookup h))
  gl := fun x h => lookup_relabel_glob (env := X.env) h
  calm := B.calm
  room := B.room
  fn := fun x h => by
    rcases h with h | h
    · exact .inr (lookup_relabel_local (env := X.env) h)
    · exact absurd rfl (hc _ (mem_lookup h))
  pass := PassesOwn.never
  nd := nd
def capOk (sc scope : Scope) (N N' : List Str) (cap : List (Option Nat)) : Bool :=
  cap.length == N'.length && (List.range N'.length).all (fun i => match cap[i]? with
    | some (some j) => (match N'[i]? with
      | some x => N[j]? == some x && scope.names.lookup x == some .free && (sc.names.lookup x == some .cell || sc.names.lookup x == some .free)
      | none => false)
    | _ => true) && scope.names.all (fun y => y.2 != .cell && (y.2 != .free || sc.names.lookup y.1 == some .cell || sc.names.lookup y.1 == some .free) && (y.2 != .local || scope.names.lookup y.1 == some .local)) && scope.kind == .function
theorem Bd.cap (hN : X.N = N) (hsc : X.env.scope = sc) {N' : List Str} {scope : Scope} {cap : List (Option Nat)} (h : capOk sc scope N N' cap = true) : Cap X N' cap scope := by
  unfold capOk at h
  simp only [Bool.and_eq_true, List.all_eq_true, beq_iff_eq, bne_iff_ne, Bool.or_eq_true, ne_eq] at h
  obtain ⟨⟨⟨h1, h2⟩, h3⟩, h4⟩ := h
  have hk : ∀ x, X.env.kindOf x = sc.names.lookup x := fun x => by unfold Env.kindOf; rw [hsc]
  refine ⟨h1, fun i j x e1 e2 => ?_, fun y hy hf => ?_, fun y hy => (h3 y hy).1.1, h4, fun y hy hl => ?_⟩
  · have hi : i < N'.length := (List.getElem?_eq_some_iff.mp e1).1
    have := h2 i (List.mem_range.mpr hi)
    rw [e2, e1] at this
    simp only [Bool.and_eq_true, beq_iff_eq, Bool.or_eq_true] at this
    obtain ⟨⟨a1, a2⟩, a3⟩ := this
    rw [hN, hk]
    exact ⟨a1, a2, a3⟩
  · rw [hk]
    rcases (h3 y hy).1.2 with (z | z) | z
    · exact absurd hf z
    · exact .inl z
    · exact .inr z
  · rcases (h3 y hy).2 with z | z
    · exact absurd hl z
    · exact z
end
end IL
namespace IL
open PySem PySem.Spec PyProof.Rows L2
def isStar : Expr → Bool
  | .Starred .. => true
  | _ => false
theorem star_cons {e : Expr} {es : List Expr} {env : Env} (h : isStar e = false) : starEach (e :: es) env = (false, eval e env) :: starEach es env := by
  cases e <;> first | rfl | cases h
def noStars (es : List Expr) : Bool := es.all fun e => !isStar e
theorem any_none {env : Env} {pos : Pos} : ∀ {es : List Expr}, noStars es = true → (backTo pos (starEach es env)).any (·.1) = false
  | [], _ => rfl
  | e :: es, h => by
    unfold noStars at h
    rw [List.all_cons, Bool.and_eq_true] at h
    have h1 : isStar e = false := by simpa using h.1
    rw [star_cons h1]
    show (false || (backTo pos (starEach es env)).any (·.1)) = false
    rw [any_none (es := es) h.2]
    rfl
theorem all_none {env : Env} {pos : Pos} : ∀ {es : List Expr}, noStars es = true → (backTo pos (starEach es env)).all (fun x => !x.1) = true
  | [], _ => rfl
  | e :: es, h => by
    unfold noStars at h
    rw [List.all_cons, Bool.and_eq_true] at h
    have h1 : isStar e = false := by simpa using h.1
    rw [star_cons h1]
    show (!false && (backTo pos (starEach es env)).all (fun x => !x.1)) = true
    rw [all_none (es := es) h.2]
    rfl
section
variable {X : Cx} {e : Expr} {es : List Expr} {m : EM} {a : AM} {pos : Pos}
theorem ia_c (h : isStar e = false) (he : IE X e m) (hr : IA X es a) : IA X (e :: es) (aCons m a) := ia_cons he hr (star_cons h)
end
section
variable {X : Cx} {k : Nat} {f : Addr} {fd : FuncData} {ps : List Str} {fm : List W → Mo W} {x : Str} {p pos : Pos} {e : Expr} {es : List Expr} {a : AM}
theorem ie_cal (hn : noStars (e :: es) = true) (hdb : (x == ("__debug__" : Str)) = false) (F : FnOk X.prog X.w X.K X.mg X.base (CXW X.prog X.w) k f fd ps (spM X.K X.mg ps.length fm)) (hl : ∀ {xs : List W} {ph : PH}, xs.length ≠ ps.length → fm xs ph = .no) (hr : Room k X.A) (hg : Gl X x) (hm : X.mg x = some (.ref f))
    (hk : PySem.W.keepIn X.K (.ref f) = true) (hb : Binds X.K fd ps []) (ha : IA X (e :: es) a) : IE X (.Call (.Name x p) (e :: es) [] pos) (eCall fm a) := by
  unfold noStars at hn
  rw [List.all_cons, Bool.and_eq_true] at hn
  exact ie_call F hl hr hg hm hk hb ha hdb (star_cons (by simpa using hn.1)) (any_none hn.2)
variable {t : AM} {id T : String} {r : List V → Hp → VK → Prop} {fp : List W → Po W}
theorem ie_blt (hns : noStars (e :: es) = true) (hn : x ≠ "__name__") (hdb : (x == ("__debug__" : Str)) = false) (hc : CallR X (.builtin id) r) (hi : CallI X.K r fp) (hg : Gl X x) (hm : X.mg x = none) (hv : bootBuiltins x = some (.builtin id)) (ha : IA X (e :: es) t) : IE X (.Call (.Name x p) (e :: es) [] pos) (eCallB fp t) := by
  unfold noStars at hns
  rw [List.all_cons, Bool.and_eq_true] at hns
  exact ie_callB hc hi hg hm hv ha hn hdb (star_cons (by simpa using hns.1)) (any_none hns.2)
theorem ie_typ (hns : noStars (e :: es) = true) (hn : x ≠ "__name__") (hdb : (x == ("__debug__" : Str)) = false) (hc : CallR X (.type T) r) (hi : CallI X.K r fp) (hg : Gl X x) (hm : X.mg x = none) (hv : bootBuiltins x = some (.type T)) (ha : IA X (e :: es) t) : IE X (.Call (.Name x p) (e :: es) [] pos) (eCallB fp t) := by
  unfold noStars at hns
  rw [List.all_cons, Bool.and_eq_true] at hns
  exact ie_callTy hc hi hg hm hv ha hn hdb (star_cons (by simpa using hns.1)) (any_none hns.2)
end
section
variable {X : Cx} {o e : Expr} {es : List Expr} {mo : EM} {t : AM} {name : Str} {apos cpos : Pos} {T id : String} {r : V → List V → Hp → VK → Prop} {ty : W → PH → Bool} {f : W → List W → Po W}
theorem ie_mth (hns : noStars (e :: es) = true) (hlen : decide ((e :: es).length < 30) = true) (pa : PlainAttrs T) (slot : Slot T name id) (hty : typeOf (.builtin id) = pure (.type "method_descriptor")) (hm : MtR X id r) (ht : TyI X.K T ty) (hi : MtI X.K T r f) (ho : IE X o mo) (ha : IA X (e :: es) t)
    (hbase : attributeBase o name X.env (eval o X.env) = eval o X.env := by rfl) (hline : (apos.endLine == cpos.line) = true := by rfl) : IE X (.Call (.Attribute o name apos) (e :: es) [] cpos) (eMeth ty f mo t) := by
  have hall := all_none (env := X.env) (pos := cpos) hns
  unfold noStars at hns
  rw [List.all_cons, Bool.and_eq_true] at hns
  refine ie_bm pa slot hty hm ht hi ho ha hbase ?_ hline (star_cons (by simpa using hns.1)) (any_none hns.2)
  rw [hall, show (backToKw cpos (keywordEach [] X.env)).all (fun x => x.1.isSome) = true from rfl]
  simpa using hlen
end
end IL
namespace IL
open PySem PySem.Spec PyProof.Rows L2
structure JE (X : Cx) (e : Expr) (m : EM) : Prop where
  h : IE X e m
structure JT (X : Cx) (e : Expr) (m : TM) : Prop where
  h : IT X e m
structure JW (X : Cx) (e : Expr) (m : TM) : Prop where
  h : PW X e (tT X m)
structure JA (X : Cx) (es : List Expr) (m : AM) : Prop where
  h : IA X es m
structure JS (X : Cx) (st : Stmt) (m : SM) : Prop where
  h : IS X st m
structure JB (X : Cx) (st : List Stmt) (m : SM) : Prop where
  h : ISs X st m
structure JG (X : Cx) (e : Expr) (g : GM) : Prop where
  h : IG X e g
structure JGs (X : Cx) (es : List Expr) (gs : List GM) : Prop where
  h : PGs X es (tGs X gs)
structure JI (X : Cx) (tg iter : Expr) (im : IM) : Prop where
  h : II X tg iter im
structure JO (X : Cx) (e : Option Expr) (m : OM) : Prop where
  h : IO' X e m
structure JF (X : Cx) (ifs : List Expr) (c : TM) : Prop where
  h : PF X ifs (tT0 X.K c)
section
variable {X : Cx} {N : List Str} {sc : Scope} {k : Nat} {a b c e o : Expr} {es rest : List Expr} {ma mb mc m mo : EM} {ta tb t : TM} {am : AM} {sa sb : SM} {st : Stmt} {as bs body : List Stmt} {p p2 pos pos' : Pos} {g : GM} {gs : List GM} {im : IM} {tg iter : Expr}
theorem BdL.jvar (B : BdL X N sc) (i : Nat) {x : Str} (hN : N[i]? = some x) (hv : Vis sc x) (hd : (x == ("__debug__" : Str)) = false) (hcd : (x == ("__classdict__" : Str)) = false) : JE X (.Name x pos) (eVar i) := ⟨B.var i hN hv hd hcd⟩
theorem je_int {i : Int} {j : Nat} : JE X (.Constant (.int i) j pos) (eC (.int i)) := ⟨ie_int⟩
theorem je_str {x : Str} {j : Nat} : JE X (.Constant (.str x) j pos) (eC (.str x)) := ⟨ie_str⟩
theorem je_bl {x : Bool} {j : Nat} : JE X (.Constant (.bool x) j pos) (eC (.bl x)) := ⟨ie_bl⟩
theorem je_non {j : Nat} : JE X (.Constant .none j pos) (eC .non) := ⟨ie_non⟩
theorem je_neg (ha : JE X a ma) : JE X (.UnaryOp .USub a pos) (eUn negW ma) := ⟨ie_un un_neg negW_i ha.h⟩
theorem je_add (ha : JE X a ma) (hb : JE X b mb) : JE X (.BinOp a .Add b pos) (eOp addW ma mb) := ⟨ie_op op_addW addW_i ha.h hb.h⟩
theorem je_sub (ha : JE X a ma) (hb : JE X b mb) : JE X (.BinOp a .Sub b pos) (eOp subW ma mb) := ⟨ie_op op_sub subW_i ha.h hb.h⟩
theorem je_mod (ha : JE X a ma) (hb : JE X b mb) : JE X (.BinOp a .Mod b pos) (eOp modW ma mb) := ⟨ie_op op_modN modW_i ha.h hb.h⟩
theorem je_div (ha : JE X a ma) (hb : JE X b mb) : JE X (.BinOp a .FloorDiv b pos) (eOp divW ma mb) := ⟨ie_op op_fdivB divW_i ha.h hb.h⟩
structure Cp (X : Cx) (op : CmpOp) (b : Expr) (f : W → W → Po W) : Prop where
  ex : ∃ r, OpR X (compareOp op) r ∧ OpI X.K r f
  bm : behindInMarks op b = false
theorem cp_lt : Cp X .Lt b ltW := ⟨⟨_, op_lt, icmp_i⟩, nomark _⟩
theorem cp_gt : Cp X .Gt b gtW := ⟨⟨_, op_gt, icmp_i⟩, nomark _⟩
theorem BdT.eq (B : BdT X N sc k) : Cp X .Eq b eqW := ⟨⟨_, op_eqW B.room.units, eqW_i⟩, nomark _⟩
theorem BdT.ne (B : BdT X N sc k) : Cp X .NotEq b neW := ⟨⟨_, op_neW B.room.units, neW_i⟩, nomark _⟩
theorem cp_is : Cp X .Is b isNW := ⟨⟨_, op_isN, isNW_i⟩, nomark _⟩
theorem cp_isn : Cp X .IsNot b notNW := ⟨⟨_, op_notN, notNW_i⟩, nomark _⟩
theorem je_cmp {op : CmpOp} {f : W → W → Po W} (hc : Cp X op b f) (ha : JE X a ma) (hb : JE X b mb) : JE X (.Compare a [op] [b] pos) (eOp f ma mb) := let ⟨_, h1, h2⟩ := hc.ex; ⟨ie_cmp h1 h2 ha.h hb.h hc.bm⟩
theorem jt_cmp {op : CmpOp} {f : W → W → Po W} (hc : Cp X op b f) (ha : JE X a ma) (hb : JE X b mb) : JT X (.Compare a [op] [b] pos) (eT (eOp f ma mb)) := let ⟨_, h1, h2⟩ := hc.ex; ⟨it_cmp h1 h2 ha.h hb.h hc.bm⟩
theorem je_one {op : BoolOp} (ha : JE X a ma) : JE X (.BoolOp op [a] pos) ma := ⟨ie_one ha.h⟩
theorem je_and (ha : JE X a ma) (hb : JE X (.BoolOp .And (b :: rest) pos) mb) : JE X (.BoolOp .And (a :: b :: rest) pos) (eAnd ma mb) := ⟨ie_and ha.h hb.h⟩
theorem jw_one {op : BoolOp} (ha : JT X a ta) : JW X (.BoolOp op [a] pos) ta := ⟨iw_one ha.h⟩
theorem jw_and (ha : JT X a ta) (hb : JW X (.BoolOp .And (b :: rest) pos) tb) : JW X (.BoolOp .And (a :: b :: rest) pos) (tAndM ta tb) := ⟨iw_and ha.h hb.h⟩
theorem jw_or (ha : JT X a ta) (hb : JW X (.BoolOp .Or (b :: rest) pos) tb) : JW X (.BoolOp .Or (a :: b :: rest) pos) (tOrM ta tb) := ⟨iw_or ha.h hb.h⟩
theorem jt_w (h : JW X a ta) : JT X a ta := ⟨h.h.pt⟩
theorem jt_not (ha : JT X a ta) : JT X (.UnaryOp .Not a pos) (tNotM ta) := ⟨it_not ha.h⟩
def plainT : Expr → Bool
  | .Name .. => true | .Call .. => true | .Subscript .. => true | .Constant .. => true | .BinOp .. => true
  | _ => false
theorem jt_tru (hp : plainT a = true) (ha : JE X a ma) : JT X a (eTru ma) := ⟨by
  cases a <;> first | cases hp; done | exact it_tru ha.h⟩
theorem ja_nil : JA X [] aNil := ⟨ia_nil⟩
theorem ja_c (h : isStar e = false) (he : JE X e m) (hr : JA X es am) : JA X (e :: es) (aCons m am) := ⟨ia_c h he.h hr.h⟩
theorem je_tup {x1 : Nat} (h : JA X es am) : JE X (.Tuple es x1 pos) (eTup am) := ⟨ie_tup h.h⟩
theorem je_lst (h : JA X es am) : JE X (.List es pos) (eLst am) := ⟨ie_lst h.h⟩
theorem jo_none : JO X none oNone := ⟨io_none⟩
theorem jo_some (he : JE X e m) : JO X (some e) (oSome m) := ⟨io_some he.h⟩
theorem je_sl {lo hi : Option Expr} {ml mh : OM} (he : JE X e m) (hl : JO X lo ml) (hh : JO X hi mh) : JE X (.Subscript e (.Slice lo hi none p2) pos) (eSl m ml mh) := ⟨ie_sl he.h hl.h hh.h⟩
theorem jb_nil : JB X [] sNext := ⟨iss_nil⟩
theorem jb_cons {rs : List Stmt} (h1 : JS X st sa) (h2 : JB X rs sb) : JB X (st :: rs) (sSeq sa sb) := ⟨iss_cons h1.h h2.h⟩
theorem jb_one (h1 : JS X st sa) : JB X [st] sa := ⟨iss_one h1.h⟩
theorem js_ret (he : JE X e m) : JS X (.Return (some e) pos) (sRet m) := ⟨is_ret he.h⟩
def noComp : Expr → Bool
  | .ListComp .. => false | .SetComp .. => false | .DictComp .. => false
  | _ => true
theorem swaps_no {x : Option Expr} {n : Nat} {env : Env} (h : noComp e = true) : swapsWith e x n env = pure false := by
  cases e <;> first | rfl | cases h
theorem js_expr (hn : noComp e = true) (he : JE X e m) : JS X (.Expr e pos) (sExpr m) := ⟨is_expr he.h (swaps_no hn)⟩
theorem js_if (hc : JT X c t) (ha : JB X as sa) (hb : JB X bs sb) : JS X (.If c as bs pos) (sIf t sa sb) := ⟨is_if hc.h ha.h hb.h⟩
theorem BdL.jset (B : BdL X N sc) (i : Nat) {x : Str} (hN : N[i]? = some x) (hl : Loc sc x) (hn : noComp e = true) (he : JE X e m) : JS X (.Assign [.Name x pos'] e pos) (sAsg m (gN i)) := ⟨B.set i hN hl he.h (swaps_no hn)⟩
theorem js_asg (he : JE X e m) (hg : JG X tg g) (hs : swapsWithSole [tg] e pos.line X.env = pure false := by rfl) (hw : swappedStores [tg] e X.env = pure none := by rfl)
    (h1 : (assignEach [tg] X.env).map (·.2) = [assign tg X.env] := by rfl) : JS X (.Assign [tg] e pos) (sAsg m g) := ⟨is_asg he.h hg.h hs hw h1⟩
theorem BdL.jname (B : BdL X N sc) (i : Nat) {x : Str} (hN : N[i]? = some x) (hl : Loc sc x) : JG X (.Name x pos) (gN i) := ⟨B.name i hN hl⟩
theorem jgs_nil : JGs X [] [] := ⟨igs_nil⟩
theorem jgs_cons (h1 : JG X e g) (h2 : JGs X es gs) (hs : (assignEach (e :: es) X.env).map (·.2) = assign e X.env :: (assignEach es X.env).map (·.2) := by rfl) : JGs X (e :: es) (g :: gs) := ⟨igs_cons h1.h h2.h hs⟩
theorem jg_tup {j n : Nat} (hc : X.calm = true) (h : JGs X es gs) (hn : (assignEach es X.env).length = n := by rfl) (hst : (assignEach es X.env).findIdx? (·.1) = none := by rfl) : JG X (.Tuple es j pos) (gLen n gs) := ⟨ig_tup hc h.h hn hst⟩
theorem Bd.jfor (B : Bd X N sc k) (hi : JI X tg iter im) (hg : JG X tg g) (hb : JB X body sb) (hs : ∀ x, foldedSetIterable iter X.env x = pure x := by intro _; rfl) : JS X (.For tg iter body [] pos) (sFor im g sb) := ⟨B.for_ hi.h hg.h hb.h hs⟩
theorem Bd.jwhile (B : Bd X N sc k) (hc : JT X c t) (hb : JB X body sb) : JS X (.While c body [] pos) (sWhile t sb) := ⟨B.while_ hc.h hb.h⟩
theorem ji_range1 (hg : Gl X "range") (hm : X.mg "range" = none) (hn : isStar a = false) (ha : JA X [a] am) : JI X tg (.Call (.Name "range" p) [a] [] pos) (iR1 am) := ⟨ii_range1 hg hm ha.h (star_cons hn)⟩
theorem je_cal {k : Nat} {f : Addr} {fd : FuncData} {ps : List Str} {fm : List W → Mo W} {x : Str} (hn : noStars (e :: es) = true) (hdb : (x == ("__debug__" : Str)) = false) (F : FnOk X.prog X.w X.K X.mg X.base (CXW X.prog X.w) k f fd ps (spM X.K X.mg ps.length fm)) (hl : ∀ {xs : List W} {ph : PH}, xs.length ≠ ps.length → fm xs ph = .no) (hr : Room k X.A) (hg : Gl X x) (hm : X.mg x = some (.ref f))
    (hk : PySem.W.keepIn X.K (.ref f) = true) (hb : Binds X.K fd ps []) (ha : JA X (e :: es) am) : JE X (.Call (.Name x p) (e :: es) [] pos) (eCall fm am) := ⟨ie_cal hn hdb F hl hr hg hm hk hb ha.h⟩
theorem je_blt {x : Str} {id : String} {r : List V → Hp → VK → Prop} {fp : List W → Po W} (hns : noStars (e :: es) = true) (hn : x ≠ "__name__") (hdb : (x == ("__debug__" : Str)) = false) (hc : CallR X (.builtin id) r) (hi : CallI X.K r fp) (hg : Gl X x) (hm : X.mg x = none) (hv : bootBuiltins x = some (.builtin id)) (ha : JA X (e :: es) am) : JE X (.Call (.Name x p) (e :: es) [] pos) (eCallB fp am) := ⟨ie_blt hns hn hdb hc hi hg hm hv ha.h⟩
theorem je_typ {x : Str} {T : String} {r : List V → Hp → VK → Prop} {fp : List W → Po W} (hns : noStars (e :: es) = true) (hn : x ≠ "__name__") (hdb : (x == ("__debug__" : Str)) = false) (hc : CallR X (.type T) r) (hi : CallI X.K r fp) (hg : Gl X x) (hm : X.mg x = none) (hv : bootBuiltins x = some (.type T)) (ha : JA X (e :: es) am) : JE X (.Call (.Name x p) (e :: es) [] pos) (eCallB fp am) := ⟨ie_typ hns hn hdb hc hi hg hm hv ha.h⟩
theorem je_mth {name : Str} {T id : String} {r : V → List V → Hp → VK → Prop} {ty : W → PH → Bool} {f : W → List W → Po W} (hns : noStars (e :: es) = true) (hlen : decide ((e :: es).length < 30) = true) (pa : PlainAttrs T) (slot : Slot T name id) (hty : typeOf (.builtin id) = pure (.type "method_descriptor")) (hm : MtR X id r) (ht : TyI X.K T ty) (hi : MtI X.K T r f) (ho : JE X o mo) (ha : JA X (e :: es) am)
    (hbase : attributeBase o name X.env (eval o X.env) = eval o X.env := by rfl) (hline : (p.endLine == pos.line) = true := by rfl) : JE X (.Call (.Attribute o name p) (e :: es) [] pos) (eMeth ty f mo am) := ⟨ie_mth hns hlen pa slot hty hm ht hi ho.h ha.h hbase hline⟩
theorem je_mth0 {name : Str} {T id : String} {r : V → List V → Hp → VK → Prop} {ty : W → PH → Bool} {f : W → List W → Po W} (pa : PlainAttrs T) (slot : Slot T name id) (hty : typeOf (.builtin id) = pure (.type "method_descriptor")) (hm : MtR X id r) (ht : TyI X.K T ty) (hi : MtI X.K T r f) (ho : JE X o mo)
    (hbase : attributeBase o name X.env (eval o X.env) = eval o X.env := by rfl) (hline : (p.endLine == pos.line) = true := by rfl) : JE X (.Call (.Attribute o name p) [] [] pos) (eMeth ty f mo aNil) := ⟨ie_bm0 pa slot hty hm ht hi ho.h hbase hline⟩
theorem je_is {c : Str} {cn : String} {p2 : Pos} (hk : Kits X.K cn) (hv : bootBuiltins c = some (.type cn)) (hn : c ≠ "__name__") (hd : (c == ("__debug__" : Str)) = false) (hst : isStar e = false) (hg : Gl X "isinstance") (hm : X.mg "isinstance" = none) (hgc : Gl X c) (hmc : X.mg c = none) (he : JE X e m) :
    JE X (.Call (.Name "isinstance" p) [e, .Name c p2] [] pos) (eIs cn m) := ⟨ie_is hk hv hg hm hgc hmc he.h hn hd (by rw [star_cons hst, star_cons rfl]; rfl) (star_cons rfl) (any_none rfl)⟩
theorem jf_nil : JF X [] cTrue := ⟨if_nil⟩
theorem jf_one (h : JT X c t) : JF X [c] t := ⟨if_one h.h⟩
theorem je_comp {scope : Scope} {ifs : List Expr} {N' : List Str} {cap : List (Option Nat)} (hc : X.calm = true) (cp : Cap X N' cap scope) (hi : JI X tg iter im) (hg : ∀ cl C s₀ H₀ ex, JG (blk X N' scope cl C s₀ H₀ ex) tg g) (ht : ∀ cl C s₀ H₀ ex, JF (blk X N' scope cl C s₀ H₀ ex) ifs t)
    (he : ∀ cl C s₀ H₀ ex, JE (blk X N' scope cl C s₀ H₀ ex) e m) (hs : ∀ x, foldedSetIterable iter X.env x = pure x := by intro _; rfl) : JE X (.ListComp e [⟨tg, iter, ifs, 0⟩] scope pos) (eComp im cap g t m) :=
  ⟨ie_comp hc cp hi.h (fun cl C s₀ H₀ ex => (hg cl C s₀ H₀ ex).h) (fun cl C s₀ H₀ ex => (ht cl C s₀ H₀ ex).h) (fun cl C s₀ H₀ ex => (he cl C s₀ H₀ ex).h) hs⟩
theorem js_comp {scope : Scope} {ifs : List Expr} {N' : List Str} {cap : List (Option Nat)} {i : Nat} {x : Str} (hN : X.N.Nodup) (hi' : X.N[i]? = some x) (hx : X.env.scope.names.lookup x = some .local)
    (hc : X.calm = true) (cp : Cap X N' cap scope) (hi : JI X tg iter im) (hg : ∀ cl C s₀ H₀ ex, JG (blk X N' scope cl C s₀ H₀ ex) tg g) (ht : ∀ cl C s₀ H₀ ex, JF (blk X N' scope cl C s₀ H₀ ex) ifs t)
    (he : ∀ cl C s₀ H₀ ex, JE (blk X N' scope cl C s₀ H₀ ex) e m) (hsw : swapsWith (.ListComp e [⟨tg, iter, ifs, 0⟩] scope p) (some (.Name x pos')) pos.line X.env = pure true) (hs : ∀ x, foldedSetIterable iter X.env x = pure x := by intro _; rfl) :
    JS X (.Assign [.Name x pos'] (.ListComp e [⟨tg, iter, ifs, 0⟩] scope p) pos) (sAsg (eComp im cap g t m) (gN i)) :=
  ⟨is_comp hN hi' hx hc cp hi.h (fun cl C s₀ H₀ ex => (hg cl C s₀ H₀ ex).h) (fun cl C s₀ H₀ ex => (ht cl C s₀ H₀ ex).h) (fun cl C s₀ H₀ ex => (he cl C s₀ H₀ ex).h) hsw hs⟩
end
end IL
namespace IL
open PySem PySem.Spec PyProof.Rows L2 PySem.W Builtin.ObjectAttr Builtin.Getset_descriptor
section
variable {prog : Program} {w : World} {A : Around} {E : Value → Shared → Prop} {s : Shared} {K : PySem.W.Frag} {x C D : Addr}
def excK (K : PySem.W.Frag) (D : Addr) : Bool :=
  findIn K (.ref D) "__getattribute__" == some (some (.builtin "BaseException.__getattribute__")) && findIn K (.ref D) "__getattr__" == some none &&
  findIn K (.ref D) "__class__" == some (some (.builtin "object.__class__")) && specialIn K (.builtin "object.__class__") "__get__" == some (some (.builtin "getset_descriptor.__get__")) && takesIn K (.builtin "object.__class__") == some true &&
  mroIn K D (.type "object") == some true && mroIn K D (.type "BaseException") == some true && (clsIn K D).isSome
structure ExcK (K : PySem.W.Frag) (D : Addr) : Prop where
  ga : findIn K (.ref D) "__getattribute__" = some (some (.builtin "BaseException.__getattribute__"))
  gh : findIn K (.ref D) "__getattr__" = some none
  cl : findIn K (.ref D) "__class__" = some (some (.builtin "object.__class__"))
  cg : specialIn K (.builtin "object.__class__") "__get__" = some (some (.builtin "getset_descriptor.__get__"))
  ct : takesIn K (.builtin "object.__class__") = some true
  mo : mroIn K D (.type "object") = some true
  mb : mroIn K D (.type "BaseException") = some true
  cd : (clsIn K D).isSome = true
theorem ExcK.of (h : excK K D = true) : ExcK K D := by
  unfold excK at h
  simp only [Bool.and_eq_true, beq_iff_eq] at h
  obtain ⟨⟨⟨⟨⟨⟨⟨h1, h2⟩, h3⟩, h4⟩, h5⟩, h6⟩, h7⟩, h8⟩ := h
  exact ⟨h1, h2, h3, h4, h5, h6, h7, h8⟩
end
end IL
namespace IL
open PySem PySem.Spec PyProof.Rows L2
def XTab (K : PySem.W.Frag) (cv : Value) (tb : List (Str × Bool)) : Prop :=
  ∀ c b, tb.lookup c = some b → ∃ C, PySem.W.nsIn K mainGlobals c = some (some (.ref C)) ∧ ExcK K C ∧ PySem.W.kitOne K (.ref C) cv = some b
theorem XTab.nil {K : PySem.W.Frag} {cv : Value} : XTab K cv [] := fun c b e => by cases e
theorem XTab.cons {K : PySem.W.Frag} {cv : Value} {tb : List (Str × Bool)} {c : Str} {b : Bool} {C : Addr} (h1 : PySem.W.nsIn K mainGlobals c = some (some (.ref C))) (h2 : ExcK K C) (h3 : PySem.W.kitOne K (.ref C) cv = some b) (h : XTab K cv tb) :
    XTab K cv ((c, b) :: tb) := fun c' b' e => by
  rw [List.lookup_cons] at e
  split at e
  · rename_i q
    cases e
    rw [beq_iff_eq] at q
    subst q
    exact ⟨C, h1, h2, h3⟩
  · exact h c' b' e
section
variable {X : Cx} {e : Expr} {m : EM} {p p2 pos : Pos} {c : Str} {tb : List (Str × Bool)}
end
def exx {α : Type} (x : XC) : Mo α := fun ph => .ex x ph
section
variable {X : Cx} {e : Expr} {es : List Expr} {a : AM} {np cpos pos : Pos} {x : Str} {C : Addr}
end
end IL
namespace IL
open PySem PySem.Spec PyProof.Rows L2 PySem.W
structure TopF (X : Cx) : Prop where
  st : X.stack = X.env :: X.outer
  fr : X.env.frame = some X.env.locals
  ex : X.ex = []
structure Took (X : Cx) (C a : Addr) (H' : Hp) (B : Heap) (s' : Shared) : Prop where
  ex : ∃ pins σ H s, Inv X pins σ H s ∧ s'.os = s.os ∧ UnB (frs X.stack) H H' s.heap B s'.heap
  bare : AllBare s'.gens
  hok : HOk X.prog X.w H' B
  note : ∀ {A : Around} {E : Value → Shared → Prop} {Q : Unit → Shared → Prop}, A.frames = some X.stack → (∀ h' a0, Heap.HeldW B X.stack a (.ref C) a0 X.env.locals h' → s'.heap.UpToSlots h' → Q () { s' with heap := h' }) →
    wpAny (model X.prog X.w) A (noteFrame (.ref a) X.env) Q E s'
section
variable {X : Cx} {C a : Addr} {H' : Hp} {B : Heap} {s' : Shared} {e : Value}
end
end IL
namespace IL
open PySem PySem.Spec PyProof.Rows L2
section
variable {X : Cx} {pins pins' pn' : List (Addr × Obj)} {σ : L2.St} {H : Hp} {s : Shared} {A' : Around} {xe' : Value → Shared → Prop} {calm' : Bool}
end
def nox {α : Type} (m : Mo α) : Mo α := fun ph => match m ph with
  | .ok a ph' => .ok a ph'
  | _ => .no
theorem RelS.len {K : PySem.W.Frag} {φ : Nat → Addr} {n : Nat} {H : Hp} : ∀ {ws : PSt} {vs : L2.St}, RelS K φ n H ws vs → ws.length = vs.length
  | _, _, .nil => rfl
  | _, _, .sm _ r => by rw [List.length_cons, List.length_cons, RelS.len r]
  | _, _, .nn r => by rw [List.length_cons, List.length_cons, RelS.len r]
theorem RelS.none {K : PySem.W.Frag} {φ : Nat → Addr} {n : Nat} {H : Hp} : ∀ (vs : L2.St), RelS K φ n H (List.replicate vs.length Option.none) vs
  | [] => .nil
  | _ :: vs => .nn (RelS.none vs)
structure HandK (K : PySem.W.Frag) (D : Addr) : Prop where
  ek : ExcK K D
  ty : PySem.W.typeIn K (.ref D) = some (.type "type")
end IL
namespace IL
open PySem PySem.Spec PyProof.Rows L2
def HTab (K : PySem.W.Frag) (D : Addr) (tb : List (Str × Bool)) : Prop :=
  ∀ c b, tb.lookup c = some b → ∃ C, PySem.W.nsIn K mainGlobals c = some (some (.ref C)) ∧ PySem.W.subIn K (.ref C) (.ref D) = some b
theorem HTab.nil {K : PySem.W.Frag} {D : Addr} : HTab K D [] := fun c b e => by cases e
theorem HTab.cons {K : PySem.W.Frag} {D : Addr} {tb : List (Str × Bool)} {c : Str} {b : Bool} {C : Addr} (h1 : PySem.W.nsIn K mainGlobals c = some (some (.ref C))) (h3 : PySem.W.subIn K (.ref C) (.ref D) = some b) (h : HTab K D tb) :
    HTab K D ((c, b) :: tb) := fun c' b' e => by
  rw [List.lookup_cons] at e
  split at e
  · rename_i q
    cases e
    rw [beq_iff_eq] at q
    subst q
    exact ⟨C, h1, h3⟩
  · exact h c' b' e
section
variable {X : Cx}
variable {body suite : List Stmt} {b₀ : Stmt} {c n : Str} {i : Nat} {tb : List (Str × Bool)} {D : Addr} {np hpos pos : Pos} {mb mh : SM}
end
end IL
namespace IL
open PySem PySem.Spec PyProof.Rows L2
theorem fun_ilT {P : Program} {w : World} {K : PySem.W.Frag} {mg : Str → Option Value} {base : Heap} {x qual : Str} {st : Stmt} {f : Addr} {fd : FuncData} {N ps : List Str} {k n np : Nat} {body : SM} (hn : N.length = n) (hp : ps.length = np) (F : Fun K x qual st f fd) (S : FnScope N ps (defScope st))
    (hbody : ∀ {X : Cx}, X.prog = P → X.w = w → X.K = K → X.mg = mg → X.base = base → Bd X N (defScope st) k → TopF X → X.env.scope = defScope st → JB X (defBody st) body) : FnOk P w K mg base (CXW P w) (k + 1) f fd ps (spM K mg np (fM body n np)) := by
  subst hn hp
  exact fun_il F S fun cdv A outer s H E hr => (hbody (X := cxOf (CXW P w) P w K mg base N qual (defScope st) f cdv A outer s H E) rfl rfl rfl rfl rfl ⟨⟨⟨rfl, fun _ z => z, fun _ z => z, fun _ z => z, fun _ _ => .inl rfl, S.nd⟩, rfl, hr⟩, PassesOwn.leaving⟩ ⟨rfl, rfl, rfl⟩ rfl).h
end IL
namespace IL
open PySem PySem.Spec PyProof.Rows L2
def spT (K : PySem.W.Frag) : Sp := fun vs H Q _ => ∃ (a : Addr) (ns : List Int), vs = [.ref a] ∧ ns.length ≤ 63 ∧ Only H ∧ SqL K H a (ns.map V.int) ∧ ∀ H', Q (.bl true) H'
theorem spT_imp {K : PySem.W.Frag} {mg : Str → Option Value} {fm : List W → Mo W} (good : ∀ ns : List Int, ns.length ≤ 63 → ∃ ph', fm [.fl (ns.map W.int)] [] = .ok (.bl true) ph') {vs : List V} {H : Hp} {Q : VK} {E : XK} (h : spT K vs H Q E) : spM K mg 1 fm vs H Q E := by
  obtain ⟨a, ns, rfl, hl, hO, hS, q⟩ := h
  obtain ⟨h1, φ, ph, args, h2, h3, h4⟩ := law_sp (mg := mg) hO hS (good ns hl)
  refine ⟨h1, φ, ph, args, h2, h3, ?_⟩
  cases e : fm args ph with
  | ok w ph' =>
    rw [e] at h4
    intro φ' H' v r1 r2 r3
    have := h4 φ' H' v r1 r2 r3
    subst this
    exact q H'
  | ex x ph' =>
    rw [e] at h4
    exact fun φ' H' C r1 r2 r3 r4 => (h4 φ' H' C r1 r2 r3 r4).elim
  | no => rw [e] at h4; exact h4
theorem walk_il {l : PySem.W.OpenLaw} {q : Program} {loose : List Str} {XP : (Str → Option Value) → Heap → Prop} {YP : World → Heap → Prop} {d : DefRec} {K : Params → PySem.W.Frag} {x : Str} {fm : List W → Mo W} (k : Nat)
    (good : ∀ ns : List Int, ns.length ≤ 63 → ∃ ph', fm [.fl (ns.map W.int)] [] = .ok (.bl true) ph') (hn : l.most = some 63) (hdf : d.params.defaults = []) (hr : Room k callerA) (hY : ∀ (w : World) (h : Heap), YP w h → (K w.params).In h)
    (F : ∀ (w : World) (mg : Str → Option Value) (fa : Addr) (h : Heap), (K w.params).In h → h.Ns mainGlobals mg → mg d.name = some (.ref fa) →
      ∃ fd : FuncData, (∀ (s : Shared) (u : Value), BindsTo s fd ⟨[u], []⟩ [(x, u)]) ∧ ∀ base : Heap, (K w.params).In base → base.Ns mainGlobals mg → FnOk l.prog w (K w.params) mg base (CXW l.prog w) k fa fd [x] (spM (K w.params) mg 1 fm)) :
    PySem.W.WalkO q loose XP YP l.row.toRowW d [] (fun f vs => PySem.call f vs) :=
  L2.walk_of (n := 63) (k := k) (x := x) (CX := fun w => CXW l.prog w) (sp := fun w => spT (K w.params)) hn (by decide) hdf hr hY
    (fun w mg fa h KX G hm => let ⟨fd, b, f⟩ := F w mg fa h KX G hm; ⟨fd, b, fun base i g => FnOk.imp (f base i g) fun _ _ _ _ z => spT_imp good z⟩)
    (fun w H a ns hl hO hS => ⟨a, ns, rfl, hl, hO, hS, fun _ => rfl⟩) fun w H s e s' ⟨_, _, _, z⟩ => z
end IL
namespace IL
open PySem PySem.Spec PyProof.Rows L2
section
variable {X : Cx}
theorem kept_new {h h' : Heap} {o : Obj} (hk : ∀ b x, b ∉ [h.objs.size] → (h.push o).get? b = some x → h'.get? b = some x) : ∀ b x, h.get? b = some x → h'.get? b = some x :=
  fun b x e => hk b x (fun hm => by rw [List.mem_singleton.mp hm] at e; exact Nat.lt_irrefl _ (Heap.lt_size e)) (Heap.get?_push_of_some _ e)
end
def extendW : W → List W → Po W := fun x xs ph => match x, xs with
  | .ref i, [.ref j] => match ph[i]?, ph[j]? with
    | some (.lst ws), some (.lst us) => if ws.length + us.length ≤ sizeLine then some (.non, ph.set i (.lst (ws ++ us))) else none
    | _, _ => none
  | _, _ => none
theorem extendW_i {K : PySem.W.Frag} : MtI K "list" rExtend extendW := by
  intro φ ph H x xs vx vs w ph' Q hH rx rs e k
  unfold extendW at e
  split at e
  · rename_i i j
    split at e
    · rename_i ws us hw hu
      split at e
      · rename_i hz
        cases e
        cases rx with
        | ref hi =>
          cases rs with
          | cons ry rr =>
            cases rr
            cases ry with
            | ref hj =>
              obtain ⟨xs, hv, r⟩ := hH.hp _ _ hw
              obtain ⟨ys, hv', r'⟩ := hH.hp _ _ hu
              obtain ⟨q1, q2⟩ := put_list hH hi (r.append r')
              exact ⟨_, _, xs, ys, rfl, rfl, hv, hv', by rw [← r.length, ← r'.length]; exact hz, k φ _ _ q1 q2 .non⟩
      · cases e
    · cases e
  · cases e
def bothI (w : W) : Po (List W × (PH → Bool)) := fun ph => match w with
  | .tup ws => some ((ws, fun _ => true), ph)
  | w => seqI w ph
def iBoth (m : EM) : IM := fun σ => bnd (m σ) fun w => lift (bothI w)
theorem tI_or {X : Cx} {m : EM} {σ : L2.St} {H : Hp} {R : It → Hp → Prop} (h : tI X (iBoth m) σ H R) : tI X (iSeq m) σ H R ∨ tI X (iTupM m) σ H R := by
  obtain ⟨φ, ph, ws, hH, hS, h⟩ := h
  unfold iBoth at h
  rw [run_bnd] at h
  cases q : m ws ph with
  | no => rw [q] at h; exact h.elim
  | ex x ph' =>
    refine .inl ⟨φ, ph, ws, hH, hS, ?_⟩
    unfold iSeq
    rw [run_bnd, q]
    rw [q] at h
    exact h
  | ok w ph' =>
    rw [q] at h
    have h : (lift (bothI w) ph').Run _ _ := h
    by_cases hw : ∃ us, w = .tup us
    · obtain ⟨us, rfl⟩ := hw
      refine .inr ⟨φ, ph, ws, hH, hS, ?_⟩
      unfold iTupM
      rw [run_bnd, q]
      exact h
    · refine .inl ⟨φ, ph, ws, hH, hS, ?_⟩
      unfold iSeq
      rw [run_bnd, q]
      have e : bothI w = seqI w := by
        funext p
        cases w <;> first | rfl | exact absurd ⟨_, rfl⟩ hw
      rw [e] at h
      exact h
theorem ji_both {X : Cx} {tg e : Expr} {m : EM} (hl : JE X e m) : JI X tg e (iBoth m) := ⟨by
  intro pins s σ H R I h
  rcases tI_or h with h | h
  · exact ii_list hl.h pins s σ H R I h
  · exact ii_tup hl.h pins s σ H R I h⟩
section
variable {X : Cx} {pins : List (Addr × Obj)} {σ : L2.St} {H : Hp} {s : Shared} {h' : Heap}
end
theorem swaps_yes {env : Env} {e : Expr} {gens : List Comprehension} {scope : Scope} {p pos' : Pos} {x : Str} {line : Nat} (hk : env.scope.kind = .function) (hx : env.scope.names.lookup x = some .local) (hl : (pos'.line == p.line) = true)
    (hn : (scope.names.any fun y => y.1 == x && (y.2 == .local || y.2 == .cell)) = false) : swapsWith (.ListComp e gens scope p) (some (.Name x pos')) line env = pure true := by
  have e1 : (env.kindOf x == some .local) = true := by unfold Env.kindOf; rw [hx]; rfl
  have e2 : (env.blockKind == .function) = true := by unfold Env.blockKind; rw [hk]; rfl
  show pure (env.blockKind == .function && env.kindOf x == some .local && pos'.line == p.line && !(scope.names.any fun y => y.1 == x && (y.2 == .local || y.2 == .cell))) = _
  rw [e1, e2, hl, hn]
  rfl
end IL
namespace IL
open PySem PySem.Spec PyProof.Rows L2
def newD : Po W := fun ph => some (.ref ph.length, ph ++ [.dct []])
def eDct : EM := fun _ => lift newD
theorem new_dict {K : PySem.W.Frag} {φ : Nat → Addr} {ph : PH} {H : Hp} {p : Addr} (hH : RelH K φ ph H) (hp : H p = none) :
    RelH K (ext φ ph.length p) (ph ++ [.dct []]) (upd H p (.dK [])) ∧ Step K φ ph.length H (ext φ ph.length p) (ph ++ [PO.dct []]).length (upd H p (.dK [])) ∧ RelW K (ext φ ph.length p) (ph ++ [PO.dct []]).length (upd H p (.dK [])) (.ref ph.length) (.ref p) := by
  have hl : (ph ++ [PO.dct []]).length = ph.length + 1 := by simp
  rw [hl]
  have s := step_new (K := K) (φ := φ) (n := ph.length) (o := HO.dK []) hp
  refine ⟨hH.new hp (.inl ⟨[], upd_same, .nil⟩), s, ?_⟩
  have q : RelW K (ext φ ph.length p) (ph.length + 1) (upd H p (.dK [])) (.ref ph.length) (.ref (ext φ ph.length p ph.length)) := .ref (Nat.lt_succ_self _)
  rw [ext_eq] at q
  exact q
theorem je_dct {X : Cx} {pos : Pos} : JE X (.Dict [] [] pos) eDct := ⟨PE.imp pe_dnewK fun σ H Q h p hp => by
  obtain ⟨φ, ph, ws, hH, hS, h⟩ := h
  obtain ⟨w, ph', e, k⟩ := run_lift h
  cases e
  obtain ⟨q1, q2, q3⟩ := new_dict hH hp
  exact k _ _ _ q1 q2 q3⟩
theorem keyW_inj {a b : Key} (h : keyW a = keyW b) : a = b := by
  cases a <;> cases b <;> simp_all [keyW]
theorem keyWs_inj : ∀ {a b : List Key}, a.map keyW = b.map keyW → a = b
  | [], [], _ => rfl
  | [], _ :: _, e => by simp at e
  | _ :: _, [], e => by simp at e
  | x :: xs, y :: ys, e => by
    rw [List.map_cons, List.map_cons] at e
    injection e with e1 e2
    rw [keyW_inj e1, keyWs_inj e2]
def keyK : W → Option Key
  | .int i => some (.inl i)
  | .str x => some (.inr x)
  | _ => none
def keyT : W → Option (List Key)
  | .tup ws => mapO keyK ws
  | _ => none
theorem keyK_eq {w : W} {k : Key} (h : keyK w = some k) : w = keyW k := by
  cases w <;> simp only [keyK] at h <;> first | (cases h; done) | (cases h; rfl)
theorem keyKs_eq : ∀ {ws : List W} {ks : List Key}, mapO keyK ws = some ks → ws = ks.map keyW
  | [], ks, h => by cases h; rfl
  | w :: ws, ks, h => by
    unfold mapO at h
    split at h
    · rename_i b bs e1 e2
      cases h
      rw [keyK_eq e1, keyKs_eq e2]; rfl
    · cases h
theorem keyT_eq {w : W} {ks : List Key} (h : keyT w = some ks) : w = .tup (ks.map keyW) := by
  cases w <;> simp only [keyT] at h <;> first | (cases h; done) | rw [keyKs_eq h]
theorem key_v {K : PySem.W.Frag} {φ : Nat → Addr} {n : Nat} {H : Hp} {k : Key} {v : V} (r : RelW K φ n H (keyW k) v) : v = kV k := by
  cases k with
  | inl i => cases r; rfl
  | inr x => cases r; rfl
theorem keys_v {K : PySem.W.Frag} {φ : Nat → Addr} {n : Nat} {H : Hp} : ∀ {ks : List Key} {vs : List V}, RelWs K φ n H (ks.map keyW) vs → vs = ks.map kV
  | [], _, r => by cases r; rfl
  | k :: ks, _, r => by
    cases r with
    | cons h r => rw [key_v h, keys_v r]; rfl
theorem keyt_v {K : PySem.W.Frag} {φ : Nat → Addr} {n : Nat} {H : Hp} {ks : List Key} {v : V} (r : RelW K φ n H (.tup (ks.map keyW)) v) : ∃ b, v = .ref b ∧ H b = some (.tup (ks.map kV)) := by
  cases r with
  | tup h r => rw [keys_v r] at h; exact ⟨_, rfl, h⟩
def dgetW (kws : List (W × W)) (k : W) : Option W := (kws.find? fun p => decide (p.1 = k)).map (·.2)
def dputW (kws : List (W × W)) (k w : W) : List (W × W) := if (kws.any fun p => decide (p.1 = k)) = true then kws.map (fun p => if p.1 = k then (p.1, w) else p) else kws ++ [(k, w)]
def ROpt (K : PySem.W.Frag) (φ : Nat → Addr) (n : Nat) (H : Hp) : Option W → Option V → Prop
  | none, none => True
  | some w, some v => RelW K φ n H w v
  | _, _ => False
section
variable {K : PySem.W.Frag} {φ : Nat → Addr} {n : Nat} {H : Hp}
theorem dec_eq {a b : Key} : decide (keyW a = keyW b) = decide (a = b) := by
  rw [decide_eq_decide]; exact ⟨keyW_inj, fun e => by rw [e]⟩
theorem decT_eq {a b : List Key} : decide (W.tup (a.map keyW) = W.tup (b.map keyW)) = decide (a = b) := by
  rw [decide_eq_decide]; exact ⟨fun e => keyWs_inj (W.tup.inj e), fun e => by rw [e]⟩
theorem RelD.val (k : Key) : ∀ {kws : List (W × W)} {kvs : List (Key × V)}, RelD K φ n H kws kvs → ROpt K φ n H (dgetW kws (keyW k)) (valV kvs k)
  | _, _, .nil => trivial
  | _, _, .cons (k := j) (w := w) (v := v) h r => by
    unfold dgetW
    rw [List.find?_cons]
    by_cases e : j = k
    · rw [decide_eq_true (congrArg keyW e), valV_pos (p := (j, v)) e]; exact h
    · rw [decide_eq_false (fun z => e (keyW_inj z)), valV_neg (p := (j, v)) e]
      exact RelD.val k r
theorem RelT.val (k : List Key) : ∀ {kws : List (W × W)} {kvs : List (List Key × V)}, RelT K φ n H kws kvs → ROpt K φ n H (dgetW kws (.tup (k.map keyW))) (valV kvs k)
  | _, _, .nil => trivial
  | _, _, .cons (k := j) (w := w) (v := v) h r => by
    unfold dgetW
    rw [List.find?_cons]
    by_cases e : j = k
    · rw [decide_eq_true (by rw [e]), valV_pos (p := (j, v)) e]; exact h
    · rw [decide_eq_false (fun z => e (keyWs_inj (W.tup.inj z))), valV_neg (p := (j, v)) e]
      exact RelT.val k r
theorem RelD.len : ∀ {kws : List (W × W)} {kvs : List (Key × V)}, RelD K φ n H kws kvs → kws.length = kvs.length
  | _, _, .nil => rfl
  | _, _, .cons _ r => by rw [List.length_cons, List.length_cons, RelD.len r]
theorem RelT.len : ∀ {kws : List (W × W)} {kvs : List (List Key × V)}, RelT K φ n H kws kvs → kws.length = kvs.length
  | _, _, .nil => rfl
  | _, _, .cons _ r => by rw [List.length_cons, List.length_cons, RelT.len r]
theorem RelD.any (k : Key) : ∀ {kws : List (W × W)} {kvs : List (Key × V)}, RelD K φ n H kws kvs → (kws.any fun p => decide (p.1 = keyW k)) = kvs.any fun p => decide (p.1 = k)
  | _, _, .nil => rfl
  | _, _, .cons (k := j) _ r => by
    rw [List.any_cons, List.any_cons, RelD.any k r]
    show (decide (keyW j = keyW k) || _) = (decide (j = k) || _)
    rw [dec_eq]
theorem RelT.any (k : List Key) : ∀ {kws : List (W × W)} {kvs : List (List Key × V)}, RelT K φ n H kws kvs → (kws.any fun p => decide (p.1 = .tup (k.map keyW))) = kvs.any fun p => decide (p.1 = k)
  | _, _, .nil => rfl
  | _, _, .cons (k := j) _ r => by
    rw [List.any_cons, List.any_cons, RelT.any k r]
    show (decide (W.tup (j.map keyW) = W.tup (k.map keyW)) || _) = (decide (j = k) || _)
    rw [decT_eq]
theorem RelD.repl (k : Key) {w : W} {v : V} (q : RelW K φ n H w v) : ∀ {kws : List (W × W)} {kvs : List (Key × V)}, RelD K φ n H kws kvs → RelD K φ n H (kws.map fun p => if p.1 = keyW k then (p.1, w) else p) (kvs.map fun p => if p.1 = k then (p.1, v) else p)
  | _, _, .nil => .nil
  | _, _, .cons (k := j) h r => by
    rw [List.map_cons, List.map_cons]
    by_cases e : j = k
    · rw [if_pos (show keyW j = keyW k by rw [e]), if_pos (show j = k from e)]; exact .cons q (RelD.repl k q r)
    · rw [if_neg (show ¬ keyW j = keyW k from fun z => e (keyW_inj z)), if_neg (show ¬ j = k from e)]; exact .cons h (RelD.repl k q r)
theorem RelT.repl (k : List Key) {w : W} {v : V} (q : RelW K φ n H w v) : ∀ {kws : List (W × W)} {kvs : List (List Key × V)}, RelT K φ n H kws kvs → RelT K φ n H (kws.map fun p => if p.1 = .tup (k.map keyW) then (p.1, w) else p) (kvs.map fun p => if p.1 = k then (p.1, v) else p)
  | _, _, .nil => .nil
  | _, _, .cons (k := j) h r => by
    rw [List.map_cons, List.map_cons]
    by_cases e : j = k
    · rw [if_pos (show W.tup (j.map keyW) = W.tup (k.map keyW) by rw [e]), if_pos (show j = k from e)]; exact .cons q (RelT.repl k q r)
    · rw [if_neg (show ¬ W.tup (j.map keyW) = W.tup (k.map keyW) from fun z => e (keyWs_inj (W.tup.inj z))), if_neg (show ¬ j = k from e)]; exact .cons h (RelT.repl k q r)
theorem RelD.snoc (k : Key) {w : W} {v : V} (q : RelW K φ n H w v) : ∀ {kws : List (W × W)} {kvs : List (Key × V)}, RelD K φ n H kws kvs → RelD K φ n H (kws ++ [(keyW k, w)]) (kvs ++ [(k, v)])
  | _, _, .nil => .cons q .nil
  | _, _, .cons h r => .cons h (RelD.snoc k q r)
theorem RelT.snoc (k : List Key) {w : W} {v : V} (q : RelW K φ n H w v) : ∀ {kws : List (W × W)} {kvs : List (List Key × V)}, RelT K φ n H kws kvs → RelT K φ n H (kws ++ [(.tup (k.map keyW), w)]) (kvs ++ [(k, v)])
  | _, _, .nil => .cons q .nil
  | _, _, .cons h r => .cons h (RelT.snoc k q r)
theorem RelD.put (k : Key) {w : W} {v : V} (q : RelW K φ n H w v) {kws : List (W × W)} {kvs : List (Key × V)} (r : RelD K φ n H kws kvs) : RelD K φ n H (dputW kws (keyW k) w) (putK kvs k v) := by
  unfold dputW putK
  rw [r.any k]
  by_cases e : (kvs.any fun kv => decide (kv.1 = k)) = true
  · rw [if_pos e, if_pos e]; exact r.repl k q
  · rw [if_neg e, if_neg e]; exact r.snoc k q
theorem RelT.put (k : List Key) {w : W} {v : V} (q : RelW K φ n H w v) {kws : List (W × W)} {kvs : List (List Key × V)} (r : RelT K φ n H kws kvs) : RelT K φ n H (dputW kws (.tup (k.map keyW)) w) (putK kvs k v) := by
  unfold dputW putK
  rw [r.any k]
  by_cases e : (kvs.any fun kv => decide (kv.1 = k)) = true
  · rw [if_pos e, if_pos e]; exact r.repl k q
  · rw [if_neg e, if_neg e]; exact r.snoc k q
end
section
variable {X : Cx} {pins : List (Addr × Obj)} {σ : L2.St} {H : Hp} {s : Shared} {a : Addr}
theorem inv_kt (I : Inv X pins σ H s) (e : H a = some (.dK [])) : Inv X pins σ (upd H a (.dT [])) s := by
  obtain ⟨z, hd, vs, rel, o, es, ep, h1, h2, h3, h4, h5, h6⟩ := dk_of I.hok e
  cases rel
  have he : es.toList = [] := by
    generalize es.toList = l at h5
    cases h5; rfl
  exact I.write (x := a) (e := a) (h' := s.heap) (t' := s.toks) (o := .dT []) (by rw [e]; trivial) (.inl rfl) (fun _ _ _ q => q) ⟨o, h1⟩ ⟨Nat.zero_le _, hd, [], .nil, o, es, ep, h1, h2, h3, by rw [he]; rfl, List.nodup_nil⟩
theorem inv_tk (I : Inv X pins σ H s) (e : H a = some (.dT [])) : Inv X pins σ (upd H a (.dK [])) s := by
  obtain ⟨z, hd, xs, rel, o, es, ep, h1, h2, h3, h4, h5, h6⟩ := dt_of I.hok e
  cases rel
  have he : es = #[] := by
    have : es.toList = [] := h4
    simpa using this
  subst he
  exact I.write (x := a) (e := a) (h' := s.heap) (t' := s.toks) (o := .dK []) (by rw [e]; trivial) (.inl rfl) (fun _ _ _ q => q) ⟨o, h1⟩ ⟨Nat.zero_le _, hd, [], .nil, o, #[], ep, h1, h2, h3, fun x hx => by simp at hx, .nil, List.nodup_nil⟩
theorem upd_back {o u : HO} (e : H a = some o) : upd (upd H a u) a o = H := by
  rw [upd_upd]
  funext b
  unfold upd
  split
  · rename_i q; rw [q, e]
  · rfl
end
def DGetE (H : Hp) (a : Addr) (y : V) (o : Option V) : Prop := DGet H a y o ∨ (o = none ∧ ((H a = some (.dK []) ∧ ∃ (k : List Key) (b : Addr), y = .ref b ∧ H b = some (.tup (k.map kV))) ∨ (H a = some (.dT []) ∧ ∃ k : Key, y = kV k)))
def DPutE (H : Hp) (a : Addr) (y v : V) (H' : Hp) : Prop := DPut H a y v H' ∨ (H a = some (.dK []) ∧ ∃ (k : List Key) (b : Addr), y = .ref b ∧ H b = some (.tup (k.map kV)) ∧ H' = upd H a (.dT [(k, v)])) ∨ (H a = some (.dT []) ∧ ∃ k : Key, y = kV k ∧ H' = upd H a (.dK [(k, v)]))
section
variable {X : Cx}
theorem op_din (hu : X.A.units + 1 < cLine) : OpR X (compareOp .In) (fun y x H Q => ∃ a o, x = .ref a ∧ DGetE H a y o ∧ Q (.bl o.isSome) H) := by
  intro pins s σ H y x u v Q I ry rx h
  obtain ⟨a, o, rfl, g, q⟩ := h
  cases rx
  rcases g with g | ⟨rfl, ⟨e, k, b, ey, eb⟩ | ⟨e, k, ey⟩⟩
  · exact d_in hu I g ry fun s3 I3 => ⟨.bl o.isSome, H, I3, rfl, q⟩
  · subst ey
    have g : DGet (upd H a (.dT [])) a (.ref b) none := .inr ⟨[], k, b, .inl upd_same, rfl, by rw [upd_ne (ne_of eb e (fun z => nomatch z))]; exact eb, rfl⟩
    exact d_in hu (inv_kt I e) g ry fun s3 I3 => ⟨.bl false, H, by have := inv_tk I3 upd_same; rwa [upd_back e] at this, rfl, q⟩
  · subst ey
    have g : DGet (upd H a (.dK [])) a (kV k) none := .inl ⟨[], k, .inl upd_same, rfl, rfl⟩
    exact d_in hu (inv_tk I e) g ry fun s3 I3 => ⟨.bl false, H, by have := inv_kt I3 upd_same; rwa [upd_back e] at this, rfl, q⟩
theorem op_dnin (hu : X.A.units + 1 < cLine) : OpR X (compareOp .NotIn) (fun y x H Q => ∃ a o, x = .ref a ∧ DGetE H a y o ∧ Q (.bl (!o.isSome)) H) := by
  intro pins s σ H y x u v Q I ry rx h
  obtain ⟨a, o, rfl, g, q⟩ := h
  cases rx
  rcases g with g | ⟨rfl, ⟨e, k, b, ey, eb⟩ | ⟨e, k, ey⟩⟩
  · exact d_notIn hu I g ry fun s3 I3 => ⟨.bl (!o.isSome), H, I3, rfl, q⟩
  · subst ey
    have g : DGet (upd H a (.dT [])) a (.ref b) none := .inr ⟨[], k, b, .inl upd_same, rfl, by rw [upd_ne (ne_of eb e (fun z => nomatch z))]; exact eb, rfl⟩
    exact d_notIn hu (inv_kt I e) g ry fun s3 I3 => ⟨.bl true, H, by have := inv_tk I3 upd_same; rwa [upd_back e] at this, rfl, q⟩
  · subst ey
    have g : DGet (upd H a (.dK [])) a (kV k) none := .inl ⟨[], k, .inl upd_same, rfl, rfl⟩
    exact d_notIn hu (inv_tk I e) g ry fun s3 I3 => ⟨.bl true, H, by have := inv_kt I3 upd_same; rwa [upd_back e] at this, rfl, q⟩
theorem set_dict (hu : X.A.units + 1 < cLine) : PSet X (fun o i v H Q => ∃ a H', o = .ref a ∧ DPutE H a i v H' ∧ Q H') := by
  intro pins s σ H o i v ov iv u Q I ro ri rv h
  obtain ⟨a, H', rfl, g, q⟩ := h
  cases ro
  rcases g with g | ⟨e, k, b, ey, eb, eH⟩ | ⟨e, k, ey, eH⟩
  · exact d_setItem hu I g ri rv fun s3 I3 => ⟨H', I3, q⟩
  · subst ey eH
    have g : DPut (upd H a (.dT [])) a (.ref b) v (upd (upd H a (.dT [])) a (.dT (putK [] k v))) := .inr ⟨[], k, b, upd_same, rfl, by rw [upd_ne (ne_of eb e (fun z => nomatch z))]; exact eb, by decide, rfl⟩
    refine d_setItem hu (inv_kt I e) g ri rv fun s3 I3 => ⟨_, ?_, q⟩
    rw [upd_upd] at I3
    exact I3
  · subst ey eH
    have g : DPut (upd H a (.dK [])) a (kV k) v (upd (upd H a (.dK [])) a (.dK (putK [] k v))) := .inl ⟨[], k, upd_same, rfl, by decide, rfl⟩
    refine d_setItem hu (inv_tk I e) g ri rv fun s3 I3 => ⟨_, ?_, q⟩
    rw [upd_upd] at I3
    exact I3
theorem ix_dict (hu : X.A.units + 1 < cLine) : IxR X (fun x y H Q => ∃ a v, x = .ref a ∧ DGet H a y (some v) ∧ Q v H) := by
  intro value slice pins s σ H x y v u Q I rx ry h hs
  obtain ⟨a, w, rfl, g, q⟩ := h
  cases rx
  have hT := dict_typeIs I g
  unfold subscriptTail
  refine wpAny_bind ?_
  rw [getitemInPython_of_ne hT.not_modules]
  refine wpAny_bind (wpAny_specialOf hT PySem.F.slot_dict_getitem.lookup ?_)
  have fin : wpAny (model X.prog X.w) X.A (subscripted slice false (.ref a) u) (fun r s₃ => wpAny (model X.prog X.w) X.A (letTemporaryGo value (.ref a) r >>= fun _ => pure r) (EP X pins σ Q) X.xe s₃) X.xe s := by
    rw [hs]
    exact wpAny_operating (d_getItem hu I g ry fun w' s3 I3 rw' => wpAny_bind (wpAny_letTemporaryGo (wpAny_pure ⟨w, H, I3, rw', q⟩)))
  first
    | exact wpAny_pure (wpAny_bind fin)
    | exact wpAny_bind (wpAny_pure (wpAny_bind fin))
    | exact wpAny_bind fin
end
def isT : W → Bool
  | .tup _ => true
  | _ => false
def okKey (kws : List (W × W)) (x : W) : Bool := ((keyK x).isSome && kws.all fun p => !isT p.1) || ((keyT x).isSome && kws.all fun p => isT p.1)
def dctAt (y : W) (ph : PH) : Option (Nat × List (W × W)) := match y with
  | .ref i => match ph[i]? with
    | some (.dct kws) => some (i, kws)
    | _ => none
  | _ => none
section
variable {K : PySem.W.Frag} {φ : Nat → Addr} {ph : PH} {H : Hp}
theorem RelD.noT {kws : List (W × W)} {kvs : List (Key × V)} {n : Nat} (r : RelD K φ n H kws kvs) (h : kws.all (fun p => isT p.1) = true) : kws = [] ∧ kvs = [] := by
  cases r with
  | nil => exact ⟨rfl, rfl⟩
  | cons h' r =>
    rename_i k w v kws kvs
    rw [List.all_cons] at h
    have : isT (keyW k) = true := by simp only [Bool.and_eq_true] at h; exact h.1
    cases k <;> cases this
theorem RelT.allT {kws : List (W × W)} {kvs : List (List Key × V)} {n : Nat} (r : RelT K φ n H kws kvs) (h : kws.all (fun p => !isT p.1) = true) : kws = [] ∧ kvs = [] := by
  cases r with
  | nil => exact ⟨rfl, rfl⟩
  | cons h' r =>
    rw [List.all_cons] at h
    have h := (Bool.and_eq_true _ _ ▸ h).1
    cases h
theorem dctAt_rel {y : W} {v : V} {i : Nat} {kws : List (W × W)} (hH : RelH K φ ph H) (r : RelW K φ ph.length H y v) (e : dctAt y ph = some (i, kws)) : y = .ref i ∧ i < ph.length ∧ ph[i]? = some (.dct kws) ∧ v = .ref (φ i) := by
  unfold dctAt at e
  cases r with
  | ref hi =>
    simp only at e
    split at e
    · rename_i kws' hw
      cases e
      exact ⟨rfl, hi, hw, rfl⟩
    · cases e
  | _ => cases e
theorem dget_rel {i : Nat} {kws : List (W × W)} {x : W} {v : V} (hH : RelH K φ ph H) (hd : ph[i]? = some (.dct kws)) (r : RelW K φ ph.length H x v) (hk : okKey kws x = true) : ∃ o, DGetE H (φ i) v o ∧ ROpt K φ ph.length H (dgetW kws x) o := by
  unfold okKey at hk
  rw [Bool.or_eq_true, Bool.and_eq_true, Bool.and_eq_true] at hk
  rcases hk with ⟨h1, h2⟩ | ⟨h1, h2⟩
  · obtain ⟨k, hk⟩ := Option.isSome_iff_exists.mp h1
    have := keyK_eq hk
    subst this
    have := key_v r
    subst this
    rcases hH.hp _ _ hd with ⟨kvs, q, rd⟩ | ⟨kvs, q, rd⟩
    · exact ⟨_, .inl (.inl ⟨kvs, k, .inl q, rfl, rfl⟩), rd.val k⟩
    · obtain ⟨rfl, rfl⟩ := rd.allT h2
      exact ⟨none, .inr ⟨rfl, .inr ⟨q, k, rfl⟩⟩, trivial⟩
  · obtain ⟨ks, hk⟩ := Option.isSome_iff_exists.mp h1
    have := keyT_eq hk
    subst this
    obtain ⟨b, rfl, hb⟩ := keyt_v r
    rcases hH.hp _ _ hd with ⟨kvs, q, rd⟩ | ⟨kvs, q, rd⟩
    · obtain ⟨rfl, rfl⟩ := rd.noT h2
      exact ⟨none, .inr ⟨rfl, .inl ⟨q, ks, b, rfl, hb⟩⟩, trivial⟩
    · exact ⟨_, .inl (.inr ⟨kvs, ks, b, .inl q, rfl, hb, rfl⟩), rd.val ks⟩
theorem dput_rel {i : Nat} {kws : List (W × W)} {x w : W} {v u : V} (hH : RelH K φ ph H) (hi : i < ph.length) (hd : ph[i]? = some (.dct kws)) (r : RelW K φ ph.length H x v) (rw : RelW K φ ph.length H w u) (hk : okKey kws x = true) (hz : kws.length < sizeLine) :
    ∃ H', DPutE H (φ i) v u H' ∧ RelH K φ (ph.set i (.dct (dputW kws x w))) H' ∧ Step K φ ph.length H φ (ph.set i (.dct (dputW kws x w))).length H' := by
  obtain ⟨y, ey, my⟩ := hH.at hi
  rw [List.length_set]
  unfold okKey at hk
  rw [Bool.or_eq_true, Bool.and_eq_true, Bool.and_eq_true] at hk
  rcases hk with ⟨h1, h2⟩ | ⟨h1, h2⟩
  · obtain ⟨k, hk⟩ := Option.isSome_iff_exists.mp h1
    have := keyK_eq hk
    subst this
    have := key_v r
    subst this
    rcases hH.hp _ _ hd with ⟨kvs, q, rd⟩ | ⟨kvs, q, rd⟩
    · have s := step_set (K := K) (φ := φ) (n := ph.length) (y := HO.dK (putK kvs k u)) ey my
      exact ⟨_, .inl (.inl ⟨kvs, k, q, rfl, by rw [← rd.len]; exact hz, rfl⟩), hH.put hi (.inl ⟨_, upd_same, (rd.put k rw).mono s⟩), s⟩
    · obtain ⟨rfl, rfl⟩ := rd.allT h2
      have s := step_set (K := K) (φ := φ) (n := ph.length) (y := HO.dK [(k, u)]) ey my
      exact ⟨_, .inr (.inr ⟨q, k, rfl, rfl⟩), hH.put hi (.inl ⟨_, upd_same, ((RelD.nil).put k rw).mono s⟩), s⟩
  · obtain ⟨ks, hk⟩ := Option.isSome_iff_exists.mp h1
    have := keyT_eq hk
    subst this
    obtain ⟨b, rfl, hb⟩ := keyt_v r
    rcases hH.hp _ _ hd with ⟨kvs, q, rd⟩ | ⟨kvs, q, rd⟩
    · obtain ⟨rfl, rfl⟩ := rd.noT h2
      have s := step_set (K := K) (φ := φ) (n := ph.length) (y := HO.dT [(ks, u)]) ey my
      exact ⟨_, .inr (.inl ⟨q, ks, b, rfl, hb, rfl⟩), hH.put hi (.inr ⟨_, upd_same, ((RelT.nil).put ks rw).mono s⟩), s⟩
    · have s := step_set (K := K) (φ := φ) (n := ph.length) (y := HO.dT (putK kvs ks u)) ey my
      exact ⟨_, .inl (.inr ⟨kvs, ks, b, q, rfl, hb, by rw [← rd.len]; exact hz, rfl⟩), hH.put hi (.inr ⟨_, upd_same, (rd.put ks rw).mono s⟩), s⟩
end
def inV : W → W → Po W := fun x y ph => match dctAt y ph with
  | some p => if okKey p.2 x = true then some (.bl (dgetW p.2 x).isSome, ph) else none
  | none => inW x y ph
def ninV : W → W → Po W := fun x y ph => match dctAt y ph with
  | some p => if okKey p.2 x = true then some (.bl (!(dgetW p.2 x).isSome), ph) else none
  | none => ninW x y ph
def ixV : W → W → Po W := fun x y ph => match dctAt x ph with
  | some p => if okKey p.2 y = true then (dgetW p.2 y).map fun w => (w, ph) else none
  | none => ixW x y ph
def setV (o i v : W) : Po Unit := fun ph => match dctAt o ph with
  | some p => if okKey p.2 i = true ∧ p.2.length < sizeLine then some ((), ph.set p.1 (.dct (dputW p.2 i v))) else none
  | none => setW o i v ph
theorem ROpt.isSome {K : PySem.W.Frag} {φ : Nat → Addr} {n : Nat} {H : Hp} {a : Option W} {b : Option V} (h : ROpt K φ n H a b) : a.isSome = b.isSome := by
  cases a <;> cases b <;> first | rfl | exact h.elim
theorem inV_i {K : PySem.W.Frag} : OpI K (fun x y H Q => rInD K (fun b => b) x y H Q ∨ ∃ a o, y = .ref a ∧ DGetE H a x o ∧ Q (.bl o.isSome) H) inV := by
  intro φ ph H x y vx vy w ph' Q hH rx ry e k
  unfold inV at e
  split at e
  · rename_i p hp
    obtain ⟨i, kws⟩ := p
    obtain ⟨rfl, hi, hd, rfl⟩ := dctAt_rel hH ry hp
    split at e
    · rename_i hk
      cases e
      obtain ⟨o, g, ro⟩ := dget_rel hH hd rx hk
      exact .inr ⟨_, o, rfl, g, by rw [← ro.isSome]; exact k φ H _ hH Step.refl (.bl _)⟩
    · cases e
  · exact .inl (inW_i hH rx ry e k)
theorem ninV_i {K : PySem.W.Frag} : OpI K (fun x y H Q => rInD K (fun b => !b) x y H Q ∨ ∃ a o, y = .ref a ∧ DGetE H a x o ∧ Q (.bl (!o.isSome)) H) ninV := by
  intro φ ph H x y vx vy w ph' Q hH rx ry e k
  unfold ninV at e
  split at e
  · rename_i p hp
    obtain ⟨i, kws⟩ := p
    obtain ⟨rfl, hi, hd, rfl⟩ := dctAt_rel hH ry hp
    split at e
    · rename_i hk
      cases e
      obtain ⟨o, g, ro⟩ := dget_rel hH hd rx hk
      exact .inr ⟨_, o, rfl, g, by rw [← ro.isSome]; exact k φ H _ hH Step.refl (.bl _)⟩
    · cases e
  · exact .inl (ninW_i hH rx ry e k)
theorem ixV_i {K : PySem.W.Frag} : OpI K (fun x y H Q => rIx K x y H Q ∨ ∃ a v, x = .ref a ∧ DGet H a y (some v) ∧ Q v H) ixV := by
  intro φ ph H x y vx vy w ph' Q hH rx ry e k
  unfold ixV at e
  split at e
  · rename_i p hp
    obtain ⟨i, kws⟩ := p
    obtain ⟨rfl, hi, hd, rfl⟩ := dctAt_rel hH rx hp
    split at e
    · rename_i hk
      cases q : dgetW kws y with
      | none => rw [q] at e; cases e
      | some u =>
        rw [q] at e
        cases e
        obtain ⟨o, g, ro⟩ := dget_rel hH hd ry hk
        rw [q] at ro
        cases o with
        | none => exact ro.elim
        | some v =>
          rcases g with g | ⟨z, _⟩
          · exact .inr ⟨_, v, rfl, g, k φ H _ hH Step.refl ro⟩
          · cases z
    · cases e
  · exact .inl (ixW_i hH rx ry e k)
section
variable {X : Cx} {a b o i : Expr} {ma mb mo mi : EM} {pos : Pos} {N : List Str} {sc : Scope} {k : Nat}
theorem BdT.je_ixV (B : BdT X N sc k) (hp : PlainIx b) (ha : JE X a ma) (hb : JE X b mb) : JE X (.Subscript a b pos) (eOp ixV ma mb) :=
  ⟨PE.imp (pe_ix (IxR.or ix_seq (ix_dict (hu_of B.room))) ha.h hb.h hp) fun _ _ _ h => bin_imp ixV_i h⟩
theorem BdT.inV_ (B : BdT X N sc k) (h : behindInMarks .In b = false) : Cp X .In b inV := ⟨⟨_, OpR.or (op_inW B.room.units) (op_din (hu_of B.room)), inV_i⟩, h⟩
theorem BdT.ninV_ (B : BdT X N sc k) (h : behindInMarks .NotIn b = false) : Cp X .NotIn b ninV := ⟨⟨_, OpR.or (op_ninW B.room.units) (op_dnin (hu_of B.room)), ninV_i⟩, h⟩
theorem PSet.or {t t' : TSet} (h : PSet X t) (h' : PSet X t') : PSet X (fun o i v H Q => t o i v H Q ∨ t' o i v H Q) := by
  intro pins s σ H o i v ov iv u Q I ro ri rv q
  rcases q with q | q
  · exact h pins s σ H o i v ov iv u Q I ro ri rv q
  · exact h' pins s σ H o i v ov iv u Q I ro ri rv q
def gSubV (o i : EM) : GM := fun v σ => bnd (o σ) fun ow => bnd (i σ) fun iw => bnd (lift (setV ow iw v)) fun _ => pur σ
theorem BdT.jg_subV (B : BdT X N sc k) (ho : JE X o mo) (hi : JE X i mi) (ha : ∀ v, assign (.Subscript o i pos) X.env v = (do
      let ov ← holding [v] (eval o X.env)
      let iv ← holding [v, ov] (eval i X.env)
      standAt pos
      holding [v, ov, iv] (setItem ov iv v)
      release [v, ov, iv] []) := by intro _; rfl) : JG X (.Subscript o i pos) (gSubV mo mi) :=
  ⟨PG.imp (pg_sub ho.h hi.h (PSet.or set_list (set_dict (hu_of B.room))) ha) fun v σ H Q h => by
    obtain ⟨φ, ph, ws, w, hH, hS, rv, h⟩ := h
    refine tM.bind hH hS h fun ow ph1 φ1 H1 vo hH1 s1 ro h => tM.bind hH1 (hS.mono s1) h fun iw ph2 φ2 H2 vi hH2 s2 ri h => ?_
    rw [run_bnd] at h
    obtain ⟨_, ph3, e, k⟩ := run_lift h
    have ro' := ro.mono s2
    have rv' := (rv.mono s1).mono s2
    unfold setV at e
    split at e
    · rename_i p hp
      obtain ⟨r, kws⟩ := p
      obtain ⟨rfl, hr, hd, rfl⟩ := dctAt_rel hH2 ro' hp
      split at e
      · rename_i hk
        cases e
        obtain ⟨H', g, q1, q2⟩ := dput_rel hH2 hr hd ri rv' hk.1 hk.2
        exact .inr ⟨_, H', rfl, g, k φ2 _ σ q1 ((s1.trans s2).trans q2) (((hS.mono s1).mono s2).mono q2)⟩
      · cases e
    · unfold setW at e
      split at e
      · rename_i r k'
        split at e
        · rename_i ws' hw
          split at e
          · rename_i j hj
            cases e
            cases ro' with
            | ref hlt =>
              cases ri
              obtain ⟨us, hu, ru⟩ := hH2.hp _ _ hw
              obtain ⟨q1, q2⟩ := put_list hH2 hlt (ru.set rv' j)
              exact .inl ⟨_, us, _, j, rfl, rfl, hu, by rw [← ru.length]; exact hj, k φ2 _ σ q1 ((s1.trans s2).trans q2) (((hS.mono s1).mono s2).mono q2)⟩
          · cases e
        · cases e
      · cases e⟩
end
end IL
namespace IL
open PySem PySem.Spec PyProof.Rows L2
def inW1 : W → Option Int
  | .int i => some i
  | _ => none
def intsW (w : W) (ph : PH) : Option (List Int) := if isL w ph = true then (seqW w ph).bind (mapO inW1) else none
def minUp (f : Nat → Int) : Nat → Int
  | 0 => f 0
  | k + 1 => if f (k + 1) < minUp f k then f (k + 1) else minUp f k
def minL (ns : List Int) : Int := minUp (fun i => ns.getD i 0) (ns.length - 1)
def min1W : List W → Po W := fun xs ph => match xs with
  | [w] => match intsW w ph with
    | some ns => if ns = [] then none else some (.int (minL ns), ph)
    | none => none
  | _ => none
section
variable {X : Cx}
theorem best_min (f : Nat → Int) : ∀ k, f (argBest (fun i j => decide (f i < f j)) k) = minUp f k
  | 0 => rfl
  | k + 1 => by
    have ih := best_min f k
    unfold argBest minUp
    rw [ih]
    by_cases h : f (k + 1) < minUp f k
    · simp [h]
    · simp [h, ih]
theorem call_min_l (hc : X.calm = true) : CallR X (.builtin "min") (fun xs H Q => ∃ p, ∃ ns : List Int, xs = [.ref p] ∧ SqL X.K H p (ns.map V.int) ∧ ns ≠ [] ∧ Q (.int (minL ns)) H) := by
  intro pins s σ H xs us Q I r h
  obtain ⟨p, ns, rfl, hq, hne, q⟩ := h
  obtain ⟨u, rfl, rx⟩ := vals1 r
  cases rx
  obtain ⟨its, r', pl, hz⟩ := I.list hq
  have hlen := r'.length
  rw [List.length_map] at hlen
  have hpos : 0 < ns.length := List.length_pos_iff.mpr hne
  have hlt : p < s.heap.objs.size := by obtain ⟨_, e, _⟩ := pl.isList; exact Heap.lt_size e
  have val : ∀ (i : Nat) v, its.toArray[i]? = some v → ∃ t, v = .int (ns.getD i 0) t := fun i v hP => by
    have hP : its[i]? = some v := by simpa using hP
    have hi : i < ns.length := by rw [hlen]; exact (List.getElem?_eq_some_iff.mp hP).1
    obtain ⟨u, hu, ru⟩ := r'.get (i := i) (x := .int ns[i]) (by simp [hi])
    rw [hP] at hu; cases hu
    obtain ⟨t, e⟩ := (show ∃ t, v = Value.int ns[i] t from ru)
    exact ⟨t, by rw [e]; simp [hi]⟩
  refine call_min_walk (wpAny_pyIter_list pl.isList ?_)
  refine ⟨s.heap.objs.size, [s.heap.objs.size, p], [s.heap.objs.size], its.toArray.size, _, _, _, rfl, Walks.list (A := X.A.in1) (I.ok.hd hc) _ p (Nat.ne_of_lt hlt) its.toArray,
    ⟨⟨_, Heap.get?_push_size _ rfl, rfl, rfl⟩, pl.isList.push _⟩, fun b hb => ?_, by rw [List.size_toArray, ← hlen]; exact hpos, CmpOf.ints_lt (fun i => ns.getD i 0) val, fun v h' tk hP hk => ?_⟩
  · show b < (s.heap.push _).objs.size
    rw [Heap.size_push]
    rcases List.mem_cons.mp hb with rfl | hb
    · exact Nat.lt_succ_self _
    · have : b = p := by simpa using hb
      rw [this]
      exact Nat.lt_succ_of_lt hlt
  · obtain ⟨t, rfl⟩ := val _ v hP
    refine ⟨.int (minL ns), H, I.kept (kept_new hk), ⟨t, ?_⟩, q⟩
    have := best_min (fun i => ns.getD i 0) (its.toArray.size - 1)
    rw [this, List.size_toArray, ← hlen]; rfl
theorem ints_rel {K : PySem.W.Frag} {φ : Nat → Addr} {n : Nat} {H : Hp} : ∀ {ws : List W} {vs : List V} {ns : List Int}, RelWs K φ n H ws vs → mapO inW1 ws = some ns → vs = ns.map V.int
  | _, _, _, .nil, e => by cases e; rfl
  | w :: ws, _, bs, .cons h r, e => by
    unfold mapO at e
    split at e
    · rename_i b bs' e1 e2
      cases e
      have q := ints_rel r e2
      unfold inW1 at e1
      cases h <;> cases e1
      rw [q]; rfl
    · cases e
theorem intsW_rel {K : PySem.W.Frag} {φ : Nat → Addr} {ph : PH} {H : Hp} {w : W} {v : V} {ns : List Int} (hH : RelH K φ ph H) (r : RelW K φ ph.length H w v) (e : intsW w ph = some ns) : ∃ p, v = .ref p ∧ SqL K H p (ns.map V.int) := by
  unfold intsW at e
  split at e
  · rename_i hL
    cases r with
    | ref hi =>
      unfold isL at hL
      simp only at hL
      split at hL
      · rename_i ws hw
        obtain ⟨vs, hv, rs⟩ := hH.hp _ _ hw
        simp only [seqW, hw, Option.bind_some] at e
        rw [ints_rel rs e] at hv
        exact ⟨_, rfl, SqL.of hv⟩
      · cases hL
    | fl h rs =>
      simp only [seqW, Option.bind_some] at e
      have q := ints_rel rs e
      subst q
      exact ⟨_, rfl, h.sq⟩
    | _ => cases hL
  · cases e
theorem min1W_i {K : PySem.W.Frag} : CallI K (fun xs H Q => ∃ p, ∃ ns : List Int, xs = [.ref p] ∧ SqL K H p (ns.map V.int) ∧ ns ≠ [] ∧ Q (.int (minL ns)) H) min1W := by
  intro φ ph H xs vs w ph' Q hH r e k
  unfold min1W at e
  split at e
  · rename_i x
    split at e
    · rename_i ns q
      split at e
      · cases e
      · rename_i hne
        cases e
        cases r with
        | cons r r' =>
          cases r'
          obtain ⟨p, rfl, hs⟩ := intsW_rel hH r q
          exact ⟨p, ns, rfl, hs, hne, k φ H _ hH Step.refl (.int _)⟩
    · cases e
  · cases e
end
def mulV : W → W → Po W := fun x y ph => match x, y with
  | .ref i, .int k => match ph[i]? with
    | some (.lst ws) => if -(2 ^ 63) ≤ k ∧ k < 2 ^ 63 ∧ ws.length * k.toNat ≤ sizeLine then some (.ref ph.length, ph ++ [.lst (List.replicate k.toNat ws).flatten]) else none
    | _ => none
  | x, y => mulW x y ph
theorem RelWs.rep {K : PySem.W.Frag} {φ : Nat → Addr} {n : Nat} {H : Hp} {ws : List W} {vs : List V} (r : RelWs K φ n H ws vs) : ∀ k : Nat, RelWs K φ n H (List.replicate k ws).flatten (List.replicate k vs).flatten
  | 0 => .nil
  | k + 1 => by
    rw [List.replicate_succ, List.replicate_succ, List.flatten_cons, List.flatten_cons]
    exact r.append (RelWs.rep r k)
theorem mulV_i {K : PySem.W.Frag} : OpI K (fun x y H Q => (rI CMul fun i j => .int (i * j)) x y H Q ∨ rRep x y H Q) mulV := by
  intro φ ph H x y vx vy w ph' Q hH rx ry e k
  unfold mulV at e
  split at e
  · rename_i i j
    split at e
    · rename_i ws hw
      split at e
      · rename_i hz
        cases e
        cases rx with
        | ref hi =>
          cases ry
          obtain ⟨us, hu, ru⟩ := hH.hp _ _ hw
          refine .inr ⟨_, _, us, rfl, rfl, hu, hz.1, hz.2.1, by rw [← ru.length]; exact hz.2.2, fun p hp => ?_⟩
          obtain ⟨q1, q2, q3⟩ := new_list hH (ru.rep j.toNat) hp
          exact k _ _ _ q1 q2 q3
      · cases e
    · cases e
  · exact .inl (mulW_i hH rx ry e k)
theorem je_mulV {X : Cx} {a b : Expr} {ma mb : EM} {pos : Pos} (ha : JE X a ma) (hb : JE X b mb) : JE X (.BinOp a .Mult b pos) (eOp mulV ma mb) := ⟨ie_op (OpR.or op_mul op_rep) mulV_i ha.h hb.h⟩
theorem swaps_cell {env : Env} {e : Expr} {gens : List Comprehension} {scope : Scope} {p pos' : Pos} {x : Str} {line : Nat} (hx : env.scope.names.lookup x = some .cell) : swapsWith (.ListComp e gens scope p) (some (.Name x pos')) line env = pure false := by
  have e1 : (env.kindOf x == some .local) = false := by unfold Env.kindOf; rw [hx]; rfl
  show pure (env.blockKind == .function && env.kindOf x == some .local && pos'.line == p.line && !(scope.names.any fun y => y.1 == x && (y.2 == .local || y.2 == .cell))) = _
  rw [e1, Bool.and_false, Bool.false_and, Bool.false_and]
theorem BdL.jsetC {X : Cx} {N : List Str} {sc : Scope} (B : BdL X N sc) (i : Nat) {x : Str} {e : Expr} {gens : List Comprehension} {scope : Scope} {m : EM} {p pos pos' : Pos} (hN : N[i]? = some x) (hl : Loc sc x) (hx : X.env.scope.names.lookup x = some .cell) (he : JE X (.ListComp e gens scope p) m) : JS X (.Assign [.Name x pos'] (.ListComp e gens scope p) pos) (sAsg m (gN i)) := ⟨B.set i hN hl he.h (swaps_cell hx)⟩
end IL
namespace IL
open PySem L2
section
variable {α β γ : Type}
theorem bnd_pur (a : α) (f : α → Mo β) : bnd (pur a) f = f a := (rfl)
theorem bnd_nop (f : α → Mo β) : bnd (nop : Mo α) f = nop := (rfl)
theorem bnd_exx (x : XC) (f : α → Mo β) : bnd (exx x : Mo α) f = exx x := (rfl)
theorem bnd_assoc (m : Mo α) (f : α → Mo β) (g : β → Mo γ) : bnd (bnd m f) g = bnd m fun a => bnd (f a) g := by
  funext ph; unfold bnd; cases m ph <;> rfl
theorem bnd_ite {c : Prop} [Decidable c] (a b : Mo α) (f : α → Mo β) : bnd (if c then a else b) f = if c then bnd a f else bnd b f := by split <;> rfl
theorem bnd_ok {m : Mo α} {f : α → Mo β} {ph ph' : PH} {a : α} (h : m ph = .ok a ph') : bnd m f ph = f a ph' := by unfold bnd; rw [h]
theorem pur_ap (a : α) (ph : PH) : pur a ph = .ok a ph := (rfl)
theorem exx_ap (x : XC) (ph : PH) : (exx x : Mo α) ph = .ex x ph := (rfl)
theorem lift_ret (a : α) : lift (ret a) = pur a := (rfl)
theorem ite_ap {c : Prop} [Decidable c] (a b : Mo α) (ph : PH) : (if c then a else b) ph = if c then a ph else b ph := by split <;> rfl
end
theorem eVar_0 (w : W) (σ : PSt) : eVar 0 (some w :: σ) = pur w := (rfl)
theorem eVar_s (i : Nat) (x : Option W) (σ : PSt) : eVar (i + 1) (x :: σ) = eVar i σ := (rfl)
theorem eC_ap (w : W) (σ : PSt) : eC w σ = pur w := (rfl)
theorem gN_ap (i : Nat) (w : W) (σ : PSt) : gN i w σ = pur (σ.set i (some w)) := (rfl)
theorem eOp_ap (f : W → W → Po W) (a b : EM) (σ : PSt) : eOp f a b σ = bnd (a σ) fun x => bnd (b σ) fun y => lift (f x y) := (rfl)
theorem eUn_ap (f : W → Po W) (a : EM) (σ : PSt) : eUn f a σ = bnd (a σ) fun x => lift (f x) := (rfl)
theorem eT_ap (m : EM) (σ : PSt) : eT m σ = bnd (m σ) fun w => lift (match w with
  | .bl b => ret b
  | _ => nono) := (rfl)
theorem eTru_ap (m : EM) (σ : PSt) : eTru m σ = bnd (m σ) fun w => lift (truW w) := (rfl)
theorem tAndM_ap (a b : TM) (σ : PSt) : tAndM a b σ = bnd (a σ) fun c => if c = true then b σ else pur false := (rfl)
theorem tOrM_ap (a b : TM) (σ : PSt) : tOrM a b σ = bnd (a σ) fun c => if c = true then pur true else b σ := (rfl)
theorem tNotM_ap (a : TM) (σ : PSt) : tNotM a σ = bnd (a σ) fun c => pur (!c) := (rfl)
theorem eIf_ap (t : TM) (a b : EM) (σ : PSt) : eIf t a b σ = bnd (t σ) fun c => if c = true then a σ else b σ := (rfl)
theorem sSeq_ap (a b : SM) (σ : PSt) : sSeq a b σ = bnd (a σ) fun f => match f with
  | .nx σ' => b σ'
  | f => pur f := (rfl)
theorem sIf_ap (t : TM) (a b : SM) (σ : PSt) : sIf t a b σ = bnd (t σ) fun c => if c = true then a σ else b σ := (rfl)
theorem sRet_ap (e : EM) (σ : PSt) : sRet e σ = bnd (e σ) fun w => pur (.rt w) := (rfl)
theorem sNext_ap (σ : PSt) : sNext σ = pur (.nx σ) := (rfl)
theorem sExpr_ap (e : EM) (σ : PSt) : sExpr e σ = bnd (e σ) fun _ => pur (.nx σ) := (rfl)
theorem sAsg_ap (e : EM) (g : GM) (σ : PSt) : sAsg e g σ = bnd (e σ) fun w => bnd (g w σ) fun σ' => pur (.nx σ') := (rfl)
theorem eCall_ap (f : List W → Mo W) (a : AM) (σ : PSt) : eCall f a σ = bnd (a σ) f := (rfl)
theorem eCallB_ap (f : List W → Po W) (a : AM) (σ : PSt) : eCallB f a σ = bnd (a σ) fun xs => lift (f xs) := (rfl)
theorem aNil_ap (σ : PSt) : aNil σ = pur [] := (rfl)
theorem aCons_ap (e : EM) (r : AM) (σ : PSt) : aCons e r σ = bnd (e σ) fun w => bnd (r σ) fun ws => pur (w :: ws) := (rfl)
theorem eTup_ap (a : AM) (σ : PSt) : eTup a σ = bnd (a σ) fun ws => lift (newT ws) := (rfl)
theorem eLst_ap (a : AM) (σ : PSt) : eLst a σ = bnd (a σ) fun ws => lift (newL ws) := (rfl)
theorem eIs_ap (c : String) (m : EM) (σ : PSt) : eIs c m σ = bnd (m σ) fun w => lift (isP c w) := (rfl)
theorem eAnd_ap (a b : EM) (σ : PSt) : eAnd a b σ = bnd (a σ) fun w => match w with
  | .bl c => if c = true then b σ else pur (.bl false)
  | _ => nop := (rfl)
theorem eOr_ap (a b : EM) (σ : PSt) : eOr a b σ = bnd (a σ) fun w => match w with
  | .bl c => if c = true then pur (.bl true) else b σ
  | _ => nop := (rfl)
theorem eNot_ap (a : EM) (σ : PSt) : eNot a σ = bnd (a σ) fun w => match w with
  | .bl c => pur (.bl (!c))
  | _ => nop := (rfl)
theorem eChain_ap (f f' : W → W → Po W) (a b c : EM) (σ : PSt) : eChain f f' a b c σ = bnd (a σ) fun x => bnd (b σ) fun y => bnd (lift (f x y)) fun z => match z with
  | .bl k => if k = true then bnd (c σ) fun u => lift (f' y u) else pur (.bl false)
  | _ => nop := (rfl)
theorem eMeth_ap (ty : W → PH → Bool) (f : W → List W → Po W) (o : EM) (a : AM) (σ : PSt) : eMeth ty f o a σ = bnd (o σ) fun x => bnd (lift (chkT (ty x))) fun _ => bnd (a σ) fun xs => lift (f x xs) := (rfl)
theorem fEnd_rt (w : W) : fEnd (.rt w) = pur w := (rfl)
theorem fEnd_nx (σ : PSt) : fEnd (.nx σ) = pur .non := (rfl)
theorem fM_1 (b : SM) (n : Nat) (x : W) : fM b n 1 [x] = bnd (b (some x :: List.replicate (n - 1) none)) fEnd := (rfl)
theorem fM_2 (b : SM) (n : Nat) (x y : W) : fM b n 2 [x, y] = bnd (b (some x :: some y :: List.replicate (n - 2) none)) fEnd := (rfl)
theorem fM_3 (b : SM) (n : Nat) (x y z : W) : fM b n 3 [x, y, z] = bnd (b (some x :: some y :: some z :: List.replicate (n - 3) none)) fEnd := (rfl)
theorem fM_4 (b : SM) (n : Nat) (x y z u : W) : fM b n 4 [x, y, z, u] = bnd (b (some x :: some y :: some z :: some u :: List.replicate (n - 4) none)) fEnd := (rfl)
theorem l_add (i j : Int) : lift (addW (.int i) (.int j)) = pur (.int (i + j)) := (rfl)
theorem l_sub (i j : Int) : lift (subW (.int i) (.int j)) = pur (.int (i - j)) := (rfl)
theorem l_neg (i : Int) : lift (negW (.int i)) = pur (.int (-i)) := (rfl)
theorem l_mul {i j : Int} (h : mulC i j = true) : lift (mulW (.int i) (.int j)) = pur (.int (i * j)) := by
  unfold mulW; simp only [h, if_true]; rfl
theorem l_mod {i j : Int} (h : j ≠ 0) : lift (modW (.int i) (.int j)) = pur (.int (i.fmod j)) := by
  unfold modW iopC; simp only [ne_eq, h, not_false_eq_true, decide_true, if_true]; rfl
theorem l_div {i j : Int} (h : j ≠ 0) (h' : j.natAbs < 2 ^ 64) : lift (divW (.int i) (.int j)) = pur (.int (i.fdiv j)) := by
  unfold divW iopC; simp only [ne_eq, h, h', not_false_eq_true, decide_true, Bool.and_self, if_true]; rfl
theorem l_lt (i j : Int) : lift (ltW (.int i) (.int j)) = pur (.bl (decide (i < j))) := (rfl)
theorem l_le (i j : Int) : lift (leW (.int i) (.int j)) = pur (.bl (decide (i ≤ j))) := (rfl)
theorem l_gt (i j : Int) : lift (gtW (.int i) (.int j)) = pur (.bl (decide (j < i))) := (rfl)
theorem l_ge (i j : Int) : lift (geW (.int i) (.int j)) = pur (.bl (decide (j ≤ i))) := (rfl)
theorem l_int (i : Int) : lift (intW [.int i]) = pur (.int i) := (rfl)
theorem l_intb (b : Bool) : lift (intW [.bl b]) = pur (.int (if b then 1 else 0)) := (rfl)
theorem l_abs (i : Int) : lift (absW [.int i]) = pur (.int (if i < 0 then -i else i)) := (rfl)
theorem l_max (i j : Int) : lift (max2W [.int i, .int j]) = pur (.int (if j > i then j else i)) := (rfl)
theorem l_min (i j : Int) : lift (min2W [.int i, .int j]) = pur (.int (if j < i then j else i)) := (rfl)
theorem l_tb (b : Bool) : lift (match W.bl b with
  | .bl b => ret b
  | _ => nono) = pur b := (rfl)
theorem l_truB (b : Bool) : lift (truW (.bl b)) = pur b := (rfl)
theorem l_truI (i : Int) : lift (truW (.int i)) = pur (i != 0) := (rfl)
theorem l_truT (ws : List W) : lift (truW (.tup ws)) = pur (!ws.isEmpty) := (rfl)
theorem l_eqI (i j : Int) : lift (eqW (.int i) (.int j)) = pur (.bl (decide (i = j))) := by
  funext ph; unfold eqW eqD lift; simp only [dat]; rfl
theorem l_neI (i j : Int) : lift (neW (.int i) (.int j)) = pur (.bl (!decide (i = j))) := by
  funext ph; unfold neW eqD lift; simp only [dat]; rfl
end IL
namespace IL
open PySem L2
theorem so (s : String) : PyData.strOk (Str.ofString s) = true := by
  unfold PyData.strOk
  rw [Str.ofString_eq_toList]
  simp only [List.all_toArray, List.all_eq_true, List.mem_map, decide_eq_true_eq]
  rintro n ⟨c, _, rfl⟩
  have h := c.valid
  simp only [UInt32.isValidChar, Nat.isValidChar] at h
  show c.val.toNat < _
  omega
theorem os_inj {a b : String} : Str.ofString a = Str.ofString b ↔ a = b := by
  constructor
  · intro h
    rw [Str.ofString_eq_toList, Str.ofString_eq_toList] at h
    have h := congrArg Array.toList (Str.mk.inj h)
    simp only [List.toList_toArray] at h
    have mi : ∀ l l' : List Char, l.map Char.toNat = l'.map Char.toNat → l = l' := by
      intro l
      induction l with
      | nil => intro l' h; cases l' with
        | nil => rfl
        | cons _ _ => cases h
      | cons x l ih => intro l' h; cases l' with
        | nil => cases h
        | cons y l' =>
          have := List.cons.inj h
          rw [ih l' this.2, Char.ext (UInt32.toNat_inj.mp this.1)]
    have q : a.toList = b.toList := mi _ _ h
    exact String.toList_inj.mp q
  · intro h; rw [h]
theorem l_eqS {a b : Str} (ha : PyData.strOk a = true) (hb : PyData.strOk b = true) : lift (eqW (.str a) (.str b)) = pur (.bl (decide (a = b))) := by
  funext ph; unfold eqW eqD lift; simp only [dat, ha, hb, if_true]; rfl
theorem l_neS {a b : Str} (ha : PyData.strOk a = true) (hb : PyData.strOk b = true) : lift (neW (.str a) (.str b)) = pur (.bl (!decide (a = b))) := by
  funext ph; unfold neW eqD lift; simp only [dat, ha, hb, if_true]; rfl
theorem l_eqL (a b : String) : lift (eqW (.str (Str.ofString a)) (.str (Str.ofString b))) = pur (.bl (decide (a = b))) := by
  rw [l_eqS (so a) (so b)]; simp only [os_inj]
theorem l_neL (a b : String) : lift (neW (.str (Str.ofString a)) (.str (Str.ofString b))) = pur (.bl (!decide (a = b))) := by
  rw [l_neS (so a) (so b)]; simp only [os_inj]
theorem l_neB (a b : Bool) : lift (neW (.bl a) (.bl b)) = pur (.bl (!(a == b))) := by
  funext ph; unfold neW eqD lift; simp only [dat]; rfl
theorem l_is (c : String) (w : W) (t : String) (h : ∀ ph, kindW w ph = some t) : lift (isP c w) = pur (.bl (subK t c)) := by
  funext ph; unfold lift isP; rw [h]; rfl
theorem is_i (c : String) (i : Int) : lift (isP c (.int i)) = pur (.bl (subK "int" c)) := l_is _ _ _ fun _ => rfl
theorem is_b (c : String) (b : Bool) : lift (isP c (.bl b)) = pur (.bl (subK "bool" c)) := l_is _ _ _ fun _ => rfl
theorem is_n (c : String) : lift (isP c .non) = pur (.bl (subK "NoneType" c)) := l_is _ _ _ fun _ => rfl
theorem is_s (c : String) (x : Str) : lift (isP c (.str x)) = pur (.bl (subK "str" c)) := l_is _ _ _ fun _ => rfl
theorem is_t (c : String) (ws : List W) : lift (isP c (.tup ws)) = pur (.bl (subK "tuple" c)) := l_is _ _ _ fun _ => rfl
theorem is_ref {c : String} {i : Nat} {ph : PH} {ws : List W} (h : ph[i]? = some (.lst ws)) : lift (isP c (.ref i)) ph = .ok (.bl (subK "list" c)) ph := by
  unfold lift isP kindW; simp only [h]
theorem k_ii : subK "int" "int" = true := by decide +kernel
theorem k_ib : subK "int" "bool" = false := by decide +kernel
theorem k_bi : subK "bool" "int" = true := by decide +kernel
theorem k_bb : subK "bool" "bool" = true := by decide +kernel
theorem k_ni : subK "NoneType" "int" = false := by decide +kernel
theorem k_si : subK "str" "int" = false := by decide +kernel
theorem k_li : subK "list" "int" = false := by decide +kernel
theorem k_ll : subK "list" "list" = true := by decide +kernel
theorem k_tt : subK "tuple" "tuple" = true := by decide +kernel
theorem newT_0 : lift (newT []) = pur (.tup []) := (rfl)
theorem newT_1 (a : W) : lift (newT [a]) = pur (.tup [a]) := (rfl)
theorem newT_2 (a b : W) : lift (newT [a, b]) = pur (.tup [a, b]) := (rfl)
theorem newT_3 (a b c : W) : lift (newT [a, b, c]) = pur (.tup [a, b, c]) := (rfl)
theorem newT_4 (a b c d : W) : lift (newT [a, b, c, d]) = pur (.tup [a, b, c, d]) := (rfl)
theorem newT_5 (a b c d e : W) : lift (newT [a, b, c, d, e]) = pur (.tup [a, b, c, d, e]) := (rfl)
theorem ixT_0 (a : W) (l : List W) : lift (ixW (.tup (a :: l)) (.int 0)) = pur a := by
  funext ph; unfold lift ixW atI ixN; simp [seqW, pur]
theorem ixT_1 (a b : W) (l : List W) : lift (ixW (.tup (a :: b :: l)) (.int 1)) = pur b := by
  funext ph; unfold lift ixW atI ixN; simp [seqW, pur]; rw [if_pos (by omega)]; simp
theorem ixT_2 (a b c : W) (l : List W) : lift (ixW (.tup (a :: b :: c :: l)) (.int 2)) = pur c := by
  funext ph; unfold lift ixW atI ixN; simp [seqW, pur]; rw [if_pos (by omega)]; simp
theorem ixT_3 (a b c d : W) (l : List W) : lift (ixW (.tup (a :: b :: c :: d :: l)) (.int 3)) = pur d := by
  funext ph; unfold lift ixW atI ixN; simp [seqW, pur]; rw [if_pos (by omega)]; simp
theorem ixT_4 (a b c d e : W) (l : List W) : lift (ixW (.tup (a :: b :: c :: d :: e :: l)) (.int 4)) = pur e := by
  funext ph; unfold lift ixW atI ixN; simp [seqW, pur]; rw [if_pos (by omega)]; simp
def isNon : W → Bool
  | .non => true
  | _ => false
theorem l_notN (w : W) : lift (notNW w .non) = pur (.bl (!isNon w)) := by
  unfold notNW; cases w <;> rfl
theorem l_isN (w : W) : lift (isNW w .non) = pur (.bl (isNon w)) := by
  unfold isNW; cases w <;> rfl
theorem isNon_i (i : Int) : isNon (.int i) = false := rfl
theorem isNon_n : isNon .non = true := rfl
theorem isNon_t (ws : List W) : isNon (.tup ws) = false := rfl
theorem isNon_r (i : Nat) : isNon (.ref i) = false := rfl
def Ex (ph ph' : PH) : Prop := ∃ m, ph' = ph ++ m
theorem Ex.refl (ph : PH) : Ex ph ph := ⟨[], by simp⟩
theorem Ex.trans {a b c : PH} (h : Ex a b) (h' : Ex b c) : Ex a c := by
  obtain ⟨m, rfl⟩ := h
  obtain ⟨m', rfl⟩ := h'
  exact ⟨m ++ m', by simp⟩
theorem Ex.one (ph : PH) (o : PO) : Ex ph (ph ++ [o]) := ⟨[o], rfl⟩
theorem Ex.get {a b : PH} (h : Ex a b) {i : Nat} {o : PO} (e : a[i]? = some o) : b[i]? = some o := by
  obtain ⟨m, rfl⟩ := h
  rw [List.getElem?_append_left (List.getElem?_eq_some_iff.mp e).1]; exact e
theorem Ex.len {a b : PH} (h : Ex a b) : a.length ≤ b.length := by obtain ⟨m, rfl⟩ := h; simp
theorem get_new (ph : PH) (o : PO) : (ph ++ [o])[ph.length]? = some o := by simp
theorem small {n : Nat} (h : n ≤ 1000000) : n ≤ sizeLine := Nat.le_trans h (by decide)
section
variable {β : Type} {ph : PH} {i : Nat} {ws : List W}
theorem new_ap (ws : List W) (ph : PH) (h : ws.length ≤ sizeLine) : lift (newL ws) ph = .ok (.ref ph.length) (ph ++ [.lst ws]) := by
  unfold lift newL; rw [if_pos h]
theorem bnd_new (ws : List W) (f : W → Mo β) (ph : PH) (h : ws.length ≤ sizeLine) : bnd (lift (newL ws)) f ph = f (.ref ph.length) (ph ++ [.lst ws]) := bnd_ok (new_ap ws ph h)
theorem ix_ref (h : ph[i]? = some (.lst ws)) {k : Int} {w : W} (hk : atI ws k = some w) : lift (ixW (.ref i) (.int k)) ph = .ok w ph := by
  unfold lift ixW; simp only [seqW, h, Option.bind_some, hk, Option.map_some]
theorem len_ref (h : ph[i]? = some (.lst ws)) : lift (lenW [.ref i]) ph = .ok (.int ws.length) ph := by
  unfold lift lenW; simp only [seqW, h, Option.map_some]
theorem isL_ref (h : ph[i]? = some (.lst ws)) : isL (.ref i) ph = true := by unfold isL; simp only [h]
theorem chk_ref (h : ph[i]? = some (.lst ws)) : lift (chkT (isL (.ref i))) ph = .ok () ph := by
  unfold lift chkT; rw [if_pos (isL_ref h)]
theorem append_ref (h : ph[i]? = some (.lst ws)) (hz : ws.length < sizeLine) (w : W) : lift (appendW (.ref i) [w]) ph = .ok .non (ph.set i (.lst (ws ++ [w]))) := by
  unfold lift appendW; simp only [h, hz, if_true]
theorem extend_ref {j : Nat} {us : List W} (h : ph[i]? = some (.lst ws)) (h' : ph[j]? = some (.lst us)) (hz : ws.length + us.length ≤ sizeLine) : lift (extendW (.ref i) [.ref j]) ph = .ok .non (ph.set i (.lst (ws ++ us))) := by
  unfold lift extendW; simp only [h, h', hz, if_true]
theorem clear_ref (h : ph[i]? = some (.lst ws)) : lift (clearW (.ref i) []) ph = .ok .non (ph.set i (.lst [])) := by
  unfold lift clearW; simp only [h]
theorem list_ref (h : ph[i]? = some (.lst ws)) : lift (listW [.ref i]) ph = .ok (.ref ph.length) (ph ++ [.lst ws]) := by
  unfold lift listW; simp only [seqW, h]
theorem add_ref {j : Nat} {us : List W} (h : ph[i]? = some (.lst ws)) (h' : ph[j]? = some (.lst us)) (hz : ws.length + us.length ≤ sizeLine) : lift (addW (.ref i) (.ref j)) ph = .ok (.ref ph.length) (ph ++ [.lst (ws ++ us)]) := by
  unfold lift addW; simp only [h, h', hz, if_true]
end
theorem fmod_range (a b : Int) (h : 0 < b) : 0 ≤ a.fmod b ∧ a.fmod b < b := by
  rw [Int.fmod_eq_emod_of_nonneg _ (by omega)]
  exact ⟨Int.emod_nonneg _ (by omega), Int.emod_lt_of_pos _ h⟩
theorem atI_nat {α : Type} (ws : List α) (k : Nat) (h : k < ws.length) : atI ws (k : Int) = ws[k]? := by
  unfold atI ixN
  rw [if_pos (by omega), if_pos (by omega)]; rfl
theorem lenF (ws : List W) : lift (lenW [.fl ws]) = pur (.int ws.length) := by funext ph; rfl
theorem ixF {ws : List W} {i : Int} {w : W} (h : atI ws i = some w) : lift (ixW (.fl ws) (.int i)) = pur w := by
  funext ph; unfold lift ixW; simp only [seqW, Option.bind_some, h, Option.map_some]; rfl
theorem forG_ret {chk : PH → Bool} {g : GM} {b : SM} (R : W → PH → Prop) (I : Nat → PSt → PH → Prop) : ∀ (items : List W) (k : Nat) (σ : PSt) (ph : PH),
    (∀ j σ ph, I j σ ph → chk ph = true) →
    (∀ j x σ ph, items[j]? = some x → I (k + j) σ ph → ∃ σ1 ph1, g x σ ph = .ok σ1 ph1 ∧ ∃ f ph2, b σ1 ph1 = .ok f ph2 ∧ ((∃ σ2, (f = .nx σ2 ∨ f = .ct σ2) ∧ I (k + j + 1) σ2 ph2) ∨ ∃ w, f = .rt w ∧ R w ph2)) →
    I k σ ph → (∃ σ' ph', forG chk g b items σ ph = .ok (.nx σ') ph' ∧ I (k + items.length) σ' ph') ∨ ∃ w ph', forG chk g b items σ ph = .ok (.rt w) ph' ∧ R w ph'
  | [], k, σ, ph, hc, hs, h0 => by
    refine .inl ⟨σ, ph, ?_, h0⟩
    unfold forG
    rw [if_pos (hc _ _ _ h0)]
  | x :: xs, k, σ, ph, hc, hs, h0 => by
    obtain ⟨σ1, ph1, e1, f, ph2, e2, h⟩ := hs 0 x σ ph rfl h0
    have e : forG chk g b (x :: xs) σ ph = (match f with
      | .nx σ' => forG chk g b xs σ'
      | .ct σ' => forG chk g b xs σ'
      | .bk σ' => pur (.nx σ')
      | .rt w => pur (.rt w)) ph2 := by
      conv => lhs; unfold forG
      rw [if_pos (hc _ _ _ h0), bnd_ok e1, bnd_ok e2]
      all_goals (cases f <;> rfl)
    rcases h with ⟨σ2, hf, hI⟩ | ⟨w, rfl, hR⟩
    · have e : forG chk g b (x :: xs) σ ph = forG chk g b xs σ2 ph2 := by
        rcases hf with rfl | rfl <;> exact e
      rw [e]
      have ih := forG_ret R I xs (k + 1) σ2 ph2 hc (fun j y σ ph hj hI => by
        have := hs (j + 1) y σ ph (by simpa using hj) (by rw [show k + (j + 1) = k + 1 + j by omega]; exact hI)
        rw [show k + (j + 1) + 1 = k + 1 + j + 1 by omega] at this
        exact this) hI
      rw [show k + 1 + xs.length = k + (x :: xs).length by simp; omega] at ih
      exact ih
    · exact .inr ⟨w, ph2, e, hR⟩
theorem forG_inv {chk : PH → Bool} {g : GM} {b : SM} (I : Nat → PSt → PH → Prop) (items : List W) (σ : PSt) (ph : PH)
    (hc : ∀ j σ ph, I j σ ph → chk ph = true)
    (hs : ∀ j x σ ph, items[j]? = some x → I j σ ph → ∃ σ1 ph1, g x σ ph = .ok σ1 ph1 ∧ ∃ f ph2, b σ1 ph1 = .ok f ph2 ∧ ∃ σ2, (f = .nx σ2 ∨ f = .ct σ2) ∧ I (j + 1) σ2 ph2)
    (h0 : I 0 σ ph) : ∃ σ' ph', forG chk g b items σ ph = .ok (.nx σ') ph' ∧ I items.length σ' ph' := by
  have := forG_ret (fun _ _ => False) I items 0 σ ph hc (fun j x σ ph hj hI => by
    rw [Nat.zero_add] at hI ⊢
    obtain ⟨σ1, ph1, e1, f, ph2, e2, h⟩ := hs j x σ ph hj hI
    exact ⟨σ1, ph1, e1, f, ph2, e2, .inl h⟩) h0
  rw [Nat.zero_add] at this
  rcases this with h | ⟨_, _, _, h⟩
  · exact h
  · exact h.elim
theorem compG_run {chk : PH → Bool} {g : GM} {c : TM} {e : EM} (L : Nat) (I : Nat → List W → PSt → PH → Prop) : ∀ (items : List W) (k : Nat) (acc : List W) (σ : PSt) (ph : PH),
    (∀ j acc σ ph, I j acc σ ph → chk ph = true) →
    (∀ j x acc σ ph, items[j]? = some x → I (k + j) acc σ ph → ∃ σ1 ph1, g x σ ph = .ok σ1 ph1 ∧ ∃ t ph2, c σ1 ph1 = .ok t ph2 ∧ ((t = false ∧ I (k + j + 1) acc σ1 ph2) ∨ (t = true ∧ ∃ w ph3, e σ1 ph2 = .ok w ph3 ∧ ph3[L]? = some (.lst acc) ∧ acc.length < sizeLine ∧ I (k + j + 1) (acc ++ [w]) σ1 (ph3.set L (.lst (acc ++ [w])))))) →
    I k acc σ ph → ∃ acc' σ' ph', compG chk g c e L items σ ph = .ok () ph' ∧ I (k + items.length) acc' σ' ph'
  | [], k, acc, σ, ph, hc, hs, h0 => by
    refine ⟨acc, σ, ph, ?_, h0⟩
    unfold compG
    rw [if_pos (hc _ _ _ _ h0)]
  | x :: xs, k, acc, σ, ph, hc, hs, h0 => by
    obtain ⟨σ1, ph1, e1, t, ph2, e2, h⟩ := hs 0 x acc σ ph rfl h0
    have next : ∀ acc2 ph4, I (k + 1) acc2 σ1 ph4 → ∃ acc' σ' ph', compG chk g c e L xs σ1 ph4 = .ok () ph' ∧ I (k + (x :: xs).length) acc' σ' ph' := fun acc2 ph4 hI => by
      have ih := compG_run L I xs (k + 1) acc2 σ1 ph4 hc (fun j y acc σ ph hj hI => by
        have := hs (j + 1) y acc σ ph (by simpa using hj) (by rw [show k + (j + 1) = k + 1 + j by omega]; exact hI)
        rw [show k + (j + 1) + 1 = k + 1 + j + 1 by omega] at this
        exact this) hI
      rw [show k + 1 + xs.length = k + (x :: xs).length by simp; omega] at ih
      exact ih
    have n1 : noEx (g x σ) ph = .ok σ1 ph1 := by unfold noEx; rw [e1]
    have n2 : noEx (c σ1) ph1 = .ok t ph2 := by unfold noEx; rw [e2]
    rcases h with ⟨rfl, hI⟩ | ⟨rfl, w, ph3, e3, hL, hz, hI⟩
    · have e : compG chk g c e L (x :: xs) σ ph = compG chk g c e L xs σ1 ph2 := by
        conv => lhs; unfold compG
        rw [if_pos (hc _ _ _ _ h0), bnd_ok n1, bnd_ok n2]
        rfl
      rw [e]
      exact next _ _ hI
    · have n3 : noEx (e σ1) ph2 = .ok w ph3 := by unfold noEx; rw [e3]
      have e : compG chk g c e L (x :: xs) σ ph = compG chk g c e L xs σ1 (ph3.set L (.lst (acc ++ [w]))) := by
        conv => lhs; unfold compG
        rw [if_pos (hc _ _ _ _ h0), bnd_ok n1, bnd_ok n2]
        show bnd (noEx (e σ1)) _ ph2 = _
        rw [bnd_ok n3]
        exact bnd_ok (append_ref hL hz w)
      rw [e]
      exact next _ _ hI
end IL
namespace IL
open PySem L2
theorem eComp_ap (im : IM) (cap : List (Option Nat)) (g : GM) (c : TM) (e : EM) (σ : PSt) : eComp im cap g c e σ = bnd (im σ) fun r ph => bnd (compG r.2 g c e ph.length r.1 (capP cap σ)) (fun _ => pur (.ref ph.length)) (ph ++ [.lst []]) := (rfl)
theorem set_mid (ph m : PH) (o o' : PO) : (ph ++ [o] ++ m).set ph.length o' = ph ++ [o'] ++ m := by
  rw [List.append_assoc, List.set_append_right _ _ (Nat.le_refl _)]
  simp
theorem comp_run {α : Type} (as : List α) (h : α → W) {im : IM} {cap : List (Option Nat)} {g : GM} {c : TM} {e : EM} {σ : PSt} {ph ph0 : PH} {chk : PH → Bool} (him : im σ ph0 = .ok (as.map h, chk) ph) (hck : ∀ ph', Ex ph ph' → chk ph' = true) (hz : as.length ≤ sizeLine)
    (F : α → Option W) (S : PSt → Prop) (h0 : S (capP cap σ))
    (step : ∀ x ∈ as, ∀ σ H, S σ → Ex ph H → ∃ σ1, g (h x) σ H = .ok σ1 H ∧ S σ1 ∧ ∃ t H1, c σ1 H = .ok t H1 ∧ Ex H H1 ∧ ((t = false ∧ F x = none) ∨ (t = true ∧ ∃ w H2, e σ1 H1 = .ok w H2 ∧ Ex H1 H2 ∧ F x = some w))) :
    ∃ ph', eComp im cap g c e σ ph0 = .ok (.ref ph.length) ph' ∧ Ex (ph ++ [.lst (as.filterMap F)]) ph' := by
  rw [eComp_ap, bnd_ok him]
  have key := compG_run (chk := chk) (g := g) (c := c) (e := e) ph.length (fun k acc σ H => S σ ∧ acc = (as.take k).filterMap F ∧ Ex (ph ++ [.lst acc]) H) (as.map h) 0 [] (capP cap σ) (ph ++ [.lst []])
    (fun j acc σ H hI => hck _ ((Ex.one _ _).trans hI.2.2))
    (fun j y acc σ H hj hI => by
      rw [Nat.zero_add] at hI ⊢
      obtain ⟨hS, ha, hE⟩ := hI
      rw [List.getElem?_map] at hj
      cases hx : as[j]? with
      | none => rw [hx] at hj; cases hj
      | some x =>
        rw [hx] at hj
        cases hj
        have tk : (as.take (j + 1)).filterMap F = acc ++ (F x).toList := by
          rw [List.take_add_one, hx, List.filterMap_append, ha]
          cases hF : F x <;> simp [hF]
        obtain ⟨σ1, e1, hS1, t, H1, e2, x2, h⟩ := step x (List.mem_of_getElem? hx) σ H hS ((Ex.one _ _).trans hE)
        refine ⟨σ1, H, e1, t, H1, e2, ?_⟩
        rcases h with ⟨rfl, hF⟩ | ⟨rfl, w, H2, e3, x3, hF⟩
        · exact .inl ⟨rfl, hS1, by rw [tk, hF]; simp, hE.trans x2⟩
        · have x4 := (hE.trans x2).trans x3
          refine .inr ⟨rfl, w, H2, e3, x4.get (get_new _ _), ?_, hS1, by rw [tk, hF]; rfl, ?_⟩
          · have hl : acc.length ≤ j := by
              rw [ha]
              exact Nat.le_trans (List.length_filterMap_le _ _) (by simp; omega)
            have := (List.getElem?_eq_some_iff.mp hx).1
            omega
          · obtain ⟨m, rfl⟩ := x4
            rw [set_mid]
            exact ⟨m, rfl⟩)
    ⟨h0, by simp, Ex.refl _⟩
  obtain ⟨acc, σ', ph', e1, _, ha, hE⟩ := key
  refine ⟨ph', ?_, ?_⟩
  · show bnd (compG chk g c e ph.length (as.map h) (capP cap σ)) _ _ = _
    rw [bnd_ok e1]; rfl
  · rw [Nat.zero_add, List.length_map, List.take_length] at ha
    rw [← ha]; exact hE
theorem fm_some {α β : Type} (f : α → β) : ∀ l : List α, l.filterMap (fun a => some (f a)) = l.map f
  | [] => rfl
  | a :: l => by
    rw [List.filterMap_cons_some (f := fun a => some (f a)) (b := f a) rfl, fm_some f l]; rfl
theorem comp_rel {α : Type} (as : List α) (h : α → W) {im : IM} {cap : List (Option Nat)} {g : GM} {c : TM} {e : EM} {σ : PSt} {ph ph0 : PH} {chk : PH → Bool} (him : im σ ph0 = .ok (as.map h, chk) ph) (hck : ∀ ph', Ex ph ph' → chk ph' = true) (hz : as.length ≤ sizeLine)
    (R : Nat → W → Prop) (S : PSt → Prop) (h0 : S (capP cap σ))
    (step : ∀ j x, as[j]? = some x → ∀ σ H, S σ → Ex ph H → ∃ σ1, g (h x) σ H = .ok σ1 H ∧ S σ1 ∧ ∃ H1, c σ1 H = .ok true H1 ∧ Ex H H1 ∧ ∃ w H2, e σ1 H1 = .ok w H2 ∧ Ex H1 H2 ∧ R j w) :
    ∃ ws ph', eComp im cap g c e σ ph0 = .ok (.ref ph.length) ph' ∧ Ex (ph ++ [.lst ws]) ph' ∧ ws.length = as.length ∧ ∀ j w, ws[j]? = some w → R j w := by
  rw [eComp_ap, bnd_ok him]
  have key := compG_run (chk := chk) (g := g) (c := c) (e := e) ph.length (fun k acc σ H => S σ ∧ acc.length = k ∧ (∀ j w, acc[j]? = some w → R j w) ∧ Ex (ph ++ [.lst acc]) H) (as.map h) 0 [] (capP cap σ) (ph ++ [.lst []])
    (fun j acc σ H hI => hck _ ((Ex.one _ _).trans hI.2.2.2))
    (fun j y acc σ H hj hI => by
      rw [Nat.zero_add] at hI ⊢
      obtain ⟨hS, hl, ha, hE⟩ := hI
      rw [List.getElem?_map] at hj
      cases hx : as[j]? with
      | none => rw [hx] at hj; cases hj
      | some x =>
        rw [hx] at hj
        cases hj
        obtain ⟨σ1, e1, hS1, H1, e2, x2, w, H2, e3, x3, hR⟩ := step j x hx σ H hS ((Ex.one _ _).trans hE)
        have x4 := (hE.trans x2).trans x3
        refine ⟨σ1, H, e1, true, H1, e2, .inr ⟨rfl, w, H2, e3, x4.get (get_new _ _), ?_, hS1, by simp [hl], fun i u hu => ?_, ?_⟩⟩
        · have := (List.getElem?_eq_some_iff.mp hx).1
          omega
        · by_cases hi : i < acc.length
          · rw [List.getElem?_append_left hi] at hu
            exact ha i u hu
          · have hi2 : i = j := by
              have := (List.getElem?_eq_some_iff.mp hu).1
              simp at this
              omega
            subst hi2
            rw [← hl, List.getElem?_concat_length] at hu
            cases hu
            exact hR
        · obtain ⟨m, rfl⟩ := x4
          rw [set_mid]
          exact ⟨m, rfl⟩)
    ⟨h0, rfl, fun j w hw => by simp at hw, Ex.refl _⟩
  obtain ⟨acc, σ', ph', e1, _, hl, ha, hE⟩ := key
  refine ⟨acc, ph', ?_, hE, by rw [hl, Nat.zero_add, List.length_map], ha⟩
  show bnd (compG chk g c e ph.length (as.map h) (capP cap σ)) _ _ = _
  rw [bnd_ok e1]; rfl
theorem iBoth_ref {m : EM} {σ : PSt} {ph ph' : PH} {i : Nat} {ws : List W} (h : m σ ph = .ok (.ref i) ph') (hi : ph'[i]? = some (.lst ws)) : iBoth m σ ph = .ok (ws, fun p => decide (p[i]? = some (.lst ws))) ph' := by
  unfold iBoth
  rw [bnd_ok h]
  unfold lift bothI seqI
  simp only [hi]
theorem iR1_ap {m : AM} {σ : PSt} {ph ph' : PH} {j : Int} (h : m σ ph = .ok [.int j] ph') (h1 : -(2 ^ 62) ≤ j) (h2 : j < 2 ^ 62) : iR1 m σ ph = .ok (rngW 0 j.toNat, fun _ => true) ph' := by
  unfold iR1
  rw [bnd_ok h]
  unfold lift rng1
  simp only [h1, h2, and_self, if_true]
theorem rngW_get {lo : Int} {n k : Nat} {w : W} (h : (rngW lo n)[k]? = some w) : k < n ∧ w = .int (lo + (k : Int)) := by
  unfold rngW at h
  rw [List.getElem?_map] at h
  cases q : (List.range n)[k]? with
  | none => rw [q] at h; cases h
  | some j =>
    rw [q] at h
    obtain ⟨hi, e⟩ := List.getElem?_eq_some_iff.mp q
    rw [List.getElem_range] at e
    subst e
    rw [List.length_range] at hi
    cases h
    exact ⟨hi, rfl⟩
theorem rngW_len (lo : Int) (n : Nat) : (rngW lo n).length = n := by unfold rngW; simp
theorem in_ref {ph : PH} {i : Nat} {ws : List W} {ds : List PyData} {x : W} {d : PyData} (h : ph[i]? = some (.lst ws)) (h1 : mapO (dat ph 40) ws = some ds) (h2 : dat ph 40 x = some d) : lift (inW x (.ref i)) ph = .ok (.bl (ds.any fun e => PyData.eqv e d)) ph := by
  unfold lift inW inD
  simp only [seqW, h, h1, h2, Option.map_some]
theorem in_tup {ph : PH} {ws : List W} {ds : List PyData} {x : W} {d : PyData} (h1 : mapO (dat ph 40) ws = some ds) (h2 : dat ph 40 x = some d) : lift (inW x (.tup ws)) ph = .ok (.bl (ds.any fun e => PyData.eqv e d)) ph := by
  unfold lift inW inD
  simp only [seqW, h1, h2, Option.map_some]
theorem eqv_s (a b : Str) : PyData.eqv (.str a) (.str b) = decide (a = b) := by
  unfold PyData.eqv; rfl
theorem eqv_i (a b : Int) : PyData.eqv (.int a) (.int b) = decide (a = b) := by
  unfold PyData.eqv; rfl
theorem mapO_map {α β γ : Type} (f : β → Option γ) (g : α → β) (h : α → γ) (hf : ∀ a, f (g a) = some (h a)) : ∀ l : List α, mapO f (l.map g) = some (l.map h)
  | [] => rfl
  | a :: l => by
    show mapO f (g a :: l.map g) = _
    unfold mapO
    rw [hf a, mapO_map f g h hf l]
    rfl
theorem in_lits (x : String) (ss : List String) : lift (inW (.str (Str.ofString x)) (.tup (ss.map fun s => .str (Str.ofString s)))) = pur (.bl (ss.any fun s => decide (s = x))) := by
  funext ph
  rw [in_tup (mapO_map _ _ (fun s => PyData.str (Str.ofString s)) (fun s => by simp only [dat, so, if_true]) ss) (d := .str (Str.ofString x)) (by simp only [dat, so, if_true])]
  rw [List.any_map]
  simp only [Function.comp_def, eqv_s, os_inj]
  rfl
theorem in_l2 (x a b : String) : lift (inW (.str (Str.ofString x)) (.tup [.str (Str.ofString a), .str (Str.ofString b)])) = pur (.bl (decide (a = x) || decide (b = x))) := by
  have := in_lits x [a, b]
  simp only [List.map_cons, List.map_nil, List.any_cons, List.any_nil, Bool.or_false] at this
  exact this
theorem in_l3 (x a b c : String) : lift (inW (.str (Str.ofString x)) (.tup [.str (Str.ofString a), .str (Str.ofString b), .str (Str.ofString c)])) = pur (.bl (decide (a = x) || (decide (b = x) || decide (c = x)))) := by
  have := in_lits x [a, b, c]
  simp only [List.map_cons, List.map_nil, List.any_cons, List.any_nil, Bool.or_false] at this
  exact this
end IL
namespace IL
open PySem L2
theorem ixV_t (ws : List W) (y : W) : ixV (.tup ws) y = ixW (.tup ws) y := (rfl)
theorem ixV_f (ws : List W) (y : W) : ixV (.fl ws) y = ixW (.fl ws) y := (rfl)
theorem ixV_s (x : Str) (y : W) : ixV (.str x) y = ixW (.str x) y := (rfl)
theorem inV_t (x : W) (ws : List W) : inV x (.tup ws) = inW x (.tup ws) := (rfl)
theorem inV_f (x : W) (ws : List W) : inV x (.fl ws) = inW x (.fl ws) := (rfl)
theorem ninV_t (x : W) (ws : List W) : ninV x (.tup ws) = ninW x (.tup ws) := (rfl)
theorem mulV_1 (i : Int) (y : W) : mulV (.int i) y = mulW (.int i) y := by
  funext ph; unfold mulV; cases y <;> rfl
theorem gSubV_ap (o i : EM) (v : W) (σ : PSt) : gSubV o i v σ = bnd (o σ) fun ow => bnd (i σ) fun iw => bnd (lift (setV ow iw v)) fun _ => pur σ := (rfl)
section
variable {ph : PH} {i : Nat} {ws : List W} {kws : List (W × W)}
theorem dct_l (h : ph[i]? = some (.lst ws)) : dctAt (.ref i) ph = none := by unfold dctAt; simp only [h]
theorem dct_d (h : ph[i]? = some (.dct kws)) : dctAt (.ref i) ph = some (i, kws) := by unfold dctAt; simp only [h]
theorem ixv_ref (h : ph[i]? = some (.lst ws)) {k : Int} {w : W} (hk : atI ws k = some w) : lift (ixV (.ref i) (.int k)) ph = .ok w ph := by
  have := ix_ref h hk
  unfold lift at this ⊢
  unfold ixV
  rw [dct_l h]
  exact this
theorem ixv_dct (h : ph[i]? = some (.dct kws)) {k w : W} (hk : okKey kws k = true) (hw : dgetW kws k = some w) : lift (ixV (.ref i) k) ph = .ok w ph := by
  unfold lift ixV
  simp only [dct_d h, hk, if_true, hw, Option.map_some]
theorem inv_dct (h : ph[i]? = some (.dct kws)) {k : W} (hk : okKey kws k = true) : lift (inV k (.ref i)) ph = .ok (.bl (dgetW kws k).isSome) ph := by
  unfold lift inV
  simp only [dct_d h, hk, if_true]
theorem ninv_dct (h : ph[i]? = some (.dct kws)) {k : W} (hk : okKey kws k = true) : lift (ninV k (.ref i)) ph = .ok (.bl (!(dgetW kws k).isSome)) ph := by
  unfold lift ninV
  simp only [dct_d h, hk, if_true]
theorem inv_ref {ds : List PyData} {x : W} {d : PyData} (h : ph[i]? = some (.lst ws)) (h1 : mapO (dat ph 40) ws = some ds) (h2 : dat ph 40 x = some d) : lift (inV x (.ref i)) ph = .ok (.bl (ds.any fun e => PyData.eqv e d)) ph := by
  have := in_ref h h1 h2
  unfold lift at this ⊢
  unfold inV
  rw [dct_l h]
  exact this
theorem ninv_ref {ds : List PyData} {x : W} {d : PyData} (h : ph[i]? = some (.lst ws)) (h1 : mapO (dat ph 40) ws = some ds) (h2 : dat ph 40 x = some d) : lift (ninV x (.ref i)) ph = .ok (.bl (!(ds.any fun e => PyData.eqv e d))) ph := by
  unfold lift ninV
  rw [dct_l h]
  unfold ninW inD
  simp only [seqW, h, h1, h2, Option.map_some]
theorem setv_dct (h : ph[i]? = some (.dct kws)) {k : W} (hk : okKey kws k = true) (hz : kws.length < sizeLine) (v : W) : lift (setV (.ref i) k v) ph = .ok () (ph.set i (.dct (dputW kws k v))) := by
  unfold lift setV
  simp only [dct_d h, hk, hz, and_self, if_true]
theorem mulv_ref (h : ph[i]? = some (.lst ws)) {k : Int} (h1 : -(2 ^ 63) ≤ k) (h2 : k < 2 ^ 63) (hz : ws.length * k.toNat ≤ sizeLine) : lift (mulV (.ref i) (.int k)) ph = .ok (.ref ph.length) (ph ++ [.lst (List.replicate k.toNat ws).flatten]) := by
  unfold lift mulV
  simp only [h, h1, h2, hz, and_self, if_true]
end
theorem newD_ap (ph : PH) : lift newD ph = .ok (.ref ph.length) (ph ++ [.dct []]) := rfl
theorem eDct_ap (σ : PSt) : eDct σ = lift newD := (rfl)
theorem min1_ref {ph : PH} {i : Nat} {ns : List Int} (h : ph[i]? = some (.lst (ns.map W.int))) (hn : ns ≠ []) : lift (min1W [.ref i]) ph = .ok (.int (minL ns)) ph := by
  unfold lift min1W intsW
  simp only [isL_ref h, if_true, seqW, h, Option.bind_some, mapO_map inW1 W.int id (fun _ => rfl), List.map_id_fun, id, hn, if_false]
theorem minUp_le (f : Nat → Int) : ∀ (k i : Nat), i ≤ k → minUp f k ≤ f i
  | 0, i, h => by
    have : i = 0 := by omega
    subst this; exact Int.le_refl _
  | k + 1, i, h => by
    unfold minUp
    by_cases hi : i = k + 1
    · subst hi
      split
      · exact Int.le_refl _
      · omega
    · have := minUp_le f k i (by omega)
      split
      · omega
      · exact this
theorem minUp_mem (f : Nat → Int) : ∀ k : Nat, ∃ i, i ≤ k ∧ minUp f k = f i
  | 0 => ⟨0, Nat.le_refl _, rfl⟩
  | k + 1 => by
    obtain ⟨i, hi, e⟩ := minUp_mem f k
    unfold minUp
    split
    · exact ⟨k + 1, Nat.le_refl _, rfl⟩
    · exact ⟨i, by omega, e⟩
end IL
namespace IL
open PySem L2
theorem fM_5 (b : SM) (n : Nat) (x y z u v : W) : fM b n 5 [x, y, z, u, v] = bnd (b (some x :: some y :: some z :: some u :: some v :: List.replicate (n - 5) none)) fEnd := (rfl)
theorem fM_6 (b : SM) (n : Nat) (x y z u v w : W) : fM b n 6 [x, y, z, u, v, w] = bnd (b (some x :: some y :: some z :: some u :: some v :: some w :: List.replicate (n - 6) none)) fEnd := (rfl)
theorem whN_more {t : TM} {b : SM} : ∀ (n : Nat) (σ : PSt) (ph : PH), (whN t b n σ ph).isNo = false → whN t b (n + 1) σ ph = whN t b n σ ph
  | 0, σ, ph, h => by cases h
  | n + 1, σ, ph, h => by
    have h' : (bnd (t σ) (fun c => if c = true then bnd (b σ) fun f => match f with
      | .nx σ' => whN t b n σ'
      | .ct σ' => whN t b n σ'
      | .bk σ' => pur (.nx σ')
      | .rt w => pur (.rt w)
      else pur (.nx σ)) ph).isNo = false := h
    show bnd (t σ) (fun c => if c = true then bnd (b σ) fun f => match f with
      | .nx σ' => whN t b (n + 1) σ'
      | .ct σ' => whN t b (n + 1) σ'
      | .bk σ' => pur (.nx σ')
      | .rt w => pur (.rt w)
      else pur (.nx σ)) ph = bnd (t σ) (fun c => if c = true then bnd (b σ) fun f => match f with
      | .nx σ' => whN t b n σ'
      | .ct σ' => whN t b n σ'
      | .bk σ' => pur (.nx σ')
      | .rt w => pur (.rt w)
      else pur (.nx σ)) ph
    cases e1 : t σ ph with
    | no => unfold bnd; rw [e1]
    | ex x p => unfold bnd; rw [e1]
    | ok c p =>
      rw [bnd_ok e1] at h' ⊢
      rw [bnd_ok e1]
      cases c with
      | false => rfl
      | true =>
        simp only [if_true] at h' ⊢
        cases e2 : b σ p with
        | no => unfold bnd; rw [e2]
        | ex x q => unfold bnd; rw [e2]
        | ok f q =>
          rw [bnd_ok e2] at h' ⊢
          rw [bnd_ok e2]
          cases f with
          | nx σ' => exact whN_more n σ' q h'
          | ct σ' => exact whN_more n σ' q h'
          | bk σ' => rfl
          | rt w => rfl
theorem whN_le {t : TM} {b : SM} {n m : Nat} {σ : PSt} {ph : PH} (hm : n ≤ m) (h : (whN t b n σ ph).isNo = false) : whN t b m σ ph = whN t b n σ ph := by
  induction m with
  | zero =>
    have : n = 0 := by omega
    rw [this]
  | succ m ih =>
    by_cases e : n = m + 1
    · rw [e]
    · have := ih (by omega)
      rw [whN_more m σ ph (by rw [this]; exact h), this]
theorem sWhile_of {t : TM} {b : SM} {n : Nat} {σ : PSt} {ph ph' : PH} {f : Fl} (h : whN t b n σ ph = .ok f ph') : sWhile t b σ ph = .ok f ph' := by
  have hn : (whN t b n σ ph).isNo = false := by rw [h]; rfl
  have he : ∃ n, (whN t b n σ ph).isNo = false := ⟨n, hn⟩
  unfold sWhile
  rw [dif_pos he]
  have hc := he.choose_spec
  by_cases hle : n ≤ he.choose
  · rw [whN_le hle hn, h]
  · rw [← whN_le (Nat.le_of_not_le hle) hc, h]
theorem while_inv {t : TM} {b : SM} (I : Nat → PSt → PH → Prop) (D : PSt → PH → Prop)
    (step : ∀ k σ ph, I k σ ph → (∃ ph1, t σ ph = .ok false ph1 ∧ D σ ph1) ∨ ∃ ph1, t σ ph = .ok true ph1 ∧ ∃ f ph2, b σ ph1 = .ok f ph2 ∧ ∃ σ2, (f = .nx σ2 ∨ f = .ct σ2) ∧ ∃ k', k' < k ∧ I k' σ2 ph2) :
    ∀ k σ ph, I k σ ph → ∃ σ' ph', sWhile t b σ ph = .ok (.nx σ') ph' ∧ D σ' ph' := by
  have key : ∀ k σ ph, I k σ ph → ∃ n σ' ph', whN t b n σ ph = .ok (.nx σ') ph' ∧ D σ' ph' := by
    intro k
    induction k using Nat.strongRecOn with
    | ind k ih =>
      intro σ ph h
      rcases step k σ ph h with ⟨ph1, e1, hD⟩ | ⟨ph1, e1, f, ph2, e2, σ2, hf, k', hk, hI⟩
      · refine ⟨1, σ, ph1, ?_, hD⟩
        show bnd (t σ) _ ph = _
        rw [bnd_ok e1]; rfl
      · obtain ⟨n, σ', ph', e3, hD⟩ := ih k' hk σ2 ph2 hI
        refine ⟨n + 1, σ', ph', ?_, hD⟩
        show bnd (t σ) _ ph = _
        rw [bnd_ok e1]
        simp only [if_true]
        rw [bnd_ok e2]
        rcases hf with rfl | rfl <;> exact e3
  intro k σ ph h
  obtain ⟨n, σ', ph', e, hD⟩ := key k σ ph h
  exact ⟨σ', ph', sWhile_of e, hD⟩
theorem comp_relH {α : Type} (as : List α) (h : α → W) {im : IM} {cap : List (Option Nat)} {g : GM} {c : TM} {e : EM} {σ : PSt} {ph ph0 : PH} {chk : PH → Bool} (him : im σ ph0 = .ok (as.map h, chk) ph) (hck : ∀ ph', Ex ph ph' → chk ph' = true) (hz : as.length ≤ sizeLine)
    (R : Nat → W → PH → Prop) (hR1 : ∀ j w H H', R j w H → Ex H H' → R j w H') (hR2 : ∀ j w H o, R j w H → R j w (H.set ph.length o)) (S : PSt → Prop) (h0 : S (capP cap σ))
    (step : ∀ j x, as[j]? = some x → ∀ σ H, S σ → Ex ph H → ph.length < H.length → ∃ σ1, g (h x) σ H = .ok σ1 H ∧ S σ1 ∧ ∃ H1, c σ1 H = .ok true H1 ∧ Ex H H1 ∧ ∃ w H2, e σ1 H1 = .ok w H2 ∧ Ex H1 H2 ∧ R j w H2) :
    ∃ ws ph', eComp im cap g c e σ ph0 = .ok (.ref ph.length) ph' ∧ Ex (ph ++ [.lst ws]) ph' ∧ ws.length = as.length ∧ ∀ j w, ws[j]? = some w → R j w ph' := by
  rw [eComp_ap, bnd_ok him]
  have key := compG_run (chk := chk) (g := g) (c := c) (e := e) ph.length (fun k acc σ H => S σ ∧ acc.length = k ∧ (∀ j w, acc[j]? = some w → R j w H) ∧ Ex (ph ++ [.lst acc]) H) (as.map h) 0 [] (capP cap σ) (ph ++ [.lst []])
    (fun j acc σ H hI => hck _ ((Ex.one _ _).trans hI.2.2.2))
    (fun j y acc σ H hj hI => by
      rw [Nat.zero_add] at hI ⊢
      obtain ⟨hS, hl, ha, hE⟩ := hI
      rw [List.getElem?_map] at hj
      cases hx : as[j]? with
      | none => rw [hx] at hj; cases hj
      | some x =>
        rw [hx] at hj
        cases hj
        have hlt : ph.length < H.length := by have := hE.len; simp at this; omega
        obtain ⟨σ1, e1, hS1, H1, e2, x2, w, H2, e3, x3, hR⟩ := step j x hx σ H hS ((Ex.one _ _).trans hE) hlt
        have x4 := (hE.trans x2).trans x3
        refine ⟨σ1, H, e1, true, H1, e2, .inr ⟨rfl, w, H2, e3, x4.get (get_new _ _), ?_, hS1, by simp [hl], fun i u hu => hR2 i u _ _ ?_, ?_⟩⟩
        · have := (List.getElem?_eq_some_iff.mp hx).1
          omega
        · by_cases hi : i < acc.length
          · rw [List.getElem?_append_left hi] at hu
            exact hR1 i u _ _ (ha i u hu) (x2.trans x3)
          · have hi2 : i = j := by
              have := (List.getElem?_eq_some_iff.mp hu).1
              simp at this
              omega
            subst hi2
            rw [← hl, List.getElem?_concat_length] at hu
            cases hu
            exact hR
        · obtain ⟨m, rfl⟩ := x4
          rw [set_mid]
          exact ⟨m, rfl⟩)
    ⟨h0, rfl, fun j w hw => by simp at hw, Ex.refl _⟩
  obtain ⟨acc, σ', ph', e1, _, hl, ha, hE⟩ := key
  refine ⟨acc, ph', ?_, hE, by rw [hl, Nat.zero_add, List.length_map], ha⟩
  show bnd (compG chk g c e ph.length (as.map h) (capP cap σ)) _ _ = _
  rw [bnd_ok e1]; rfl
theorem dat_i (ph : PH) (n : Nat) (i : Int) : dat ph n (.int i) = some (.int i) := by cases n <;> rfl
theorem any_int (l : List Int) (k : Int) : ((l.map PyData.int).any fun e => PyData.eqv e (.int k)) = decide (k ∈ l) := by
  rw [List.any_map, Bool.eq_iff_iff, List.any_eq_true, decide_eq_true_eq]
  constructor
  · rintro ⟨u, hu, e⟩
    simp only [Function.comp_def, eqv_i] at e
    rw [← of_decide_eq_true e]; exact hu
  · intro h
    exact ⟨k, h, by simp only [Function.comp_def, eqv_i, decide_true]⟩
theorem inv_ints {ph : PH} {i : Nat} {l : List Int} (h : ph[i]? = some (.lst (l.map W.int))) (k : Int) : lift (inV (.int k) (.ref i)) ph = .ok (.bl (decide (k ∈ l))) ph := by
  rw [inv_ref h (mapO_map _ W.int PyData.int (fun a => dat_i _ _ a) l) (dat_i _ _ k), any_int]
theorem ninv_ints {ph : PH} {i : Nat} {l : List Int} (h : ph[i]? = some (.lst (l.map W.int))) (k : Int) : lift (ninV (.int k) (.ref i)) ph = .ok (.bl (!decide (k ∈ l))) ph := by
  rw [ninv_ref h (mapO_map _ W.int PyData.int (fun a => dat_i _ _ a) l) (dat_i _ _ k), any_int]
theorem eqv_all_self : ∀ ds : List PyData, (∀ d ∈ ds, PyData.eqv d d = true) → PyData.eqvAll ds ds = true
  | [], _ => by unfold PyData.eqvAll; rfl
  | d :: ds, h => by
    simp only [PyData.eqvAll, h d (by simp), eqv_all_self ds (fun e he => h e (by simp [he])), Bool.and_self]
theorem mapO_mem {α β : Type} {f : α → Option β} : ∀ {l : List α} {m : List β}, mapO f l = some m → ∀ b ∈ m, ∃ a ∈ l, f a = some b
  | [], m, h, b, hb => by cases h; cases hb
  | a :: l, m, h, b, hb => by
    unfold mapO at h
    split at h
    · rename_i b' m' e1 e2
      cases h
      rcases List.mem_cons.mp hb with rfl | hb
      · exact ⟨a, by simp, e1⟩
      · obtain ⟨c, hc, e⟩ := mapO_mem e2 b hb
        exact ⟨c, by simp [hc], e⟩
    · cases h
theorem dat_self {ph : PH} : ∀ (n : Nat) (w : W) (d : PyData), dat ph n w = some d → PyData.eqv d d = true := by
  intro n
  induction n with
  | zero =>
    intro w d h
    cases w <;> simp only [dat] at h <;> first | (cases h; simp [PyData.eqv]; done) | skip
    · split at h
      · cases h; simp [PyData.eqv]
      · cases h
    all_goals cases h
  | succ n ih =>
    have key : ∀ (ws : List W) (ds : List PyData), mapO (dat ph n) ws = some ds → PyData.eqvAll ds ds = true := fun ws ds h =>
      eqv_all_self ds fun d hd => let ⟨w, _, e⟩ := mapO_mem h d hd; ih w d e
    intro w d h
    cases w with
    | non => cases h; simp [PyData.eqv]
    | bl b => cases h; simp [PyData.eqv]
    | int i => cases h; simp [PyData.eqv]
    | str x =>
      simp only [dat] at h
      split at h
      · cases h; simp [PyData.eqv]
      · cases h
    | tup ws =>
      simp only [dat] at h
      cases q : mapO (dat ph n) ws with
      | none => rw [q] at h; cases h
      | some ds => rw [q] at h; cases h; simp only [PyData.eqv, key ws ds q]
    | fl ws =>
      simp only [dat] at h
      cases q : mapO (dat ph n) ws with
      | none => rw [q] at h; cases h
      | some ds => rw [q] at h; cases h; simp only [PyData.eqv, key ws ds q]
    | ref i =>
      simp only [dat] at h
      split at h
      · rename_i ws hw
        cases q : mapO (dat ph n) ws with
        | none => rw [q] at h; cases h
        | some ds => rw [q] at h; cases h; simp only [PyData.eqv, key ws ds q]
      · cases h
    | exc c ns ws => simp only [dat] at h; cases h
theorem eq_same {ph : PH} {i j : Nat} {ws : List W} {ds : List PyData} (hi : ph[i]? = some (.lst ws)) (hj : ph[j]? = some (.lst ws)) (hd : mapO (dat ph 39) ws = some ds) : eqD ph (.ref i) (.ref j) = some true := by
  unfold eqD
  have e1 : dat ph 40 (.ref i) = some (.list ds) := by simp only [dat, hi, hd, Option.map_some]
  have e2 : dat ph 40 (.ref j) = some (.list ds) := by simp only [dat, hj, hd, Option.map_some]
  rw [e1, e2]
  simp only [dat_self 40 _ _ e1]
theorem l_eqD {ph : PH} {x y : W} {b : Bool} (h : eqD ph x y = some b) : lift (eqW x y) ph = .ok (.bl b) ph := by
  unfold lift eqW; simp only [h, Option.map_some]
theorem l_neD {ph : PH} {x y : W} {b : Bool} (h : eqD ph x y = some b) : lift (neW x y) ph = .ok (.bl (!b)) ph := by
  unfold lift neW; simp only [h, Option.map_some]
theorem mapO_ex {α β : Type} {f : α → Option β} : ∀ l : List α, (∀ a ∈ l, ∃ b, f a = some b) → ∃ m, mapO f l = some m
  | [], _ => ⟨[], rfl⟩
  | a :: l, h => by
    obtain ⟨b, e⟩ := h a (by simp)
    obtain ⟨m, e'⟩ := mapO_ex l fun c hc => h c (by simp [hc])
    exact ⟨b :: m, by unfold mapO; rw [e, e']⟩
theorem eqD_of {ph : PH} {x y : W} {d : PyData} (h1 : dat ph 40 x = some d) (h2 : dat ph 40 y = some d) : eqD ph x y = some true := by
  unfold eqD
  rw [h1, h2]
  simp only [dat_self 40 _ _ h1]
theorem eq_nil {ph : PH} {i j : Nat} {ws : List W} {ds : List PyData} (hi : ph[i]? = some (.lst ws)) (hj : ph[j]? = some (.lst [])) (hd : mapO (dat ph 39) ws = some ds) : eqD ph (.ref i) (.ref j) = some ws.isEmpty := by
  unfold eqD
  have e1 : dat ph 40 (.ref i) = some (.list ds) := by simp only [dat, hi, hd, Option.map_some]
  have e2 : dat ph 40 (.ref j) = some (.list []) := by simp only [dat, hj, mapO, Option.map_some]
  rw [e1, e2]
  cases ws with
  | nil => cases hd; simp [PyData.eqv, PyData.eqvAll]
  | cons w ws =>
    unfold mapO at hd
    split at hd
    · cases hd; simp [PyData.eqv, PyData.eqvAll]
    · cases hd
end IL
namespace IL
open PySem L2
def EVA0 := (And.intro (And.intro (And.intro (And.intro (And.intro (And.intro @bnd_pur (And.intro @bnd_exx @bnd_nop)) (And.intro (And.intro @bnd_assoc @bnd_ite) (And.intro @eVar_0 @eVar_s))) (And.intro (And.intro (And.intro @eC_ap @gN_ap) (And.intro @eOp_ap @eUn_ap)) (And.intro (And.intro @eT_ap @eTru_ap) (And.intro @tAndM_ap @tOrM_ap)))) (And.intro (And.intro (And.intro @tNotM_ap (And.intro @eIf_ap @sSeq_ap)) (And.intro (And.intro @sIf_ap @sRet_ap) (And.intro @sNext_ap @sExpr_ap))) (And.intro (And.intro (And.intro @sAsg_ap @eCall_ap) (And.intro @eCallB_ap @aNil_ap)) (And.intro (And.intro @aCons_ap @eTup_ap) (And.intro @eLst_ap @eIs_ap))))) (And.intro (And.intro (And.intro (And.intro @eAnd_ap (And.intro @eOr_ap @eNot_ap)) (And.intro (And.intro @eChain_ap @eMeth_ap) (And.intro @fEnd_rt @fEnd_nx))) (And.intro (And.intro (And.intro @fM_1 @fM_2) (And.intro @fM_3 @fM_4)) (And.intro (And.intro @l_add @l_sub) (And.intro @l_neg @l_lt)))) (And.intro (And.intro (And.intro (And.intro @l_le @l_gt) (And.intro @l_ge @l_int)) (And.intro (And.intro @l_intb @l_abs) (And.intro @l_max @l_min))) (And.intro (And.intro (And.intro @l_tb @l_truB) (And.intro @l_truI @l_truT)) (And.intro (And.intro @l_eqI @l_neI) (And.intro @lift_ret @pur_ap)))))) (And.intro (And.intro (And.intro (And.intro (And.intro @exx_ap (And.intro @ite_ap @decide_true)) (And.intro (And.intro @decide_false @Bool.false_eq_true) (And.intro @Bool.not_true @Bool.not_false))) (And.intro (And.intro (And.intro @l_eqL @l_neL) (And.intro @l_neB @is_i)) (And.intro (And.intro @is_b @is_n) (And.intro @is_s @is_t)))) (And.intro (And.intro (And.intro (And.intro @k_ii @k_ib) (And.intro @k_bi @k_bb)) (And.intro (And.intro @k_ni @k_si) (And.intro @k_li @k_ll))) (And.intro (And.intro (And.intro @k_tt @newT_0) (And.intro @newT_1 @newT_2)) (And.intro (And.intro @newT_3 @newT_4) (And.intro @newT_5 @ixT_0))))) (And.intro (And.intro (And.intro (And.intro @ixT_1 (And.intro @ixT_2 @ixT_3)) (And.intro (And.intro @ixT_4 @l_notN) (And.intro @l_isN @isNon_i))) (And.intro (And.intro (And.intro @isNon_n @isNon_t) (And.intro @isNon_r @fM_5)) (And.intro (And.intro @fM_6 @ixV_t) (And.intro @ixV_f @ixV_s)))) (And.intro (And.intro (And.intro (And.intro @inV_t @inV_f) (And.intro @ninV_t @mulV_1)) (And.intro (And.intro @gSubV_ap @eDct_ap) (And.intro @in_l2 @in_l3))) (And.intro (And.intro (And.intro @Bool.or_false @Bool.false_or) (And.intro @Bool.or_true @Bool.true_or)) (And.intro (And.intro @Bool.and_true @Bool.true_and) (And.intro @Bool.and_false @Bool.false_and)))))))
theorem EVA : type_of% EVA0 := EVA0
end IL
namespace IL.K27
open PySem PySem.Spec PyProof.Rows L2
def top (i : Nat) : Stmt := PySem.Challenge.pw_boxwright_k27_blocks_laid.main.body.getD i (.Pass ⟨0, 0, 0, 0⟩)
abbrev s_law_cell_at : Stmt := top 7
abbrev s_law_number_by : Stmt := top 8
abbrev s_law_row_by : Stmt := top 9
abbrev s_law_goal_by : Stmt := top 10
abbrev s_law_end_by : Stmt := top 11
abbrev s_law_blocks_by : Stmt := top 12
abbrev s_law_any_end : Stmt := top 13
abbrev s_law_order : Stmt := top 14
abbrev s_law_tail : Stmt := top 15
abbrev s_law_places : Stmt := top 16
abbrev s_law_due : Stmt := top 17
abbrev s_straight_behind : Stmt := top 1
abbrev s_rows_for_end : Stmt := top 3
abbrev s_least_not_laid : Stmt := top 2
abbrev s_by_place : Stmt := top 4
abbrev s_laid : Stmt := top 5
abbrev s_law_right : Stmt := top 18
abbrev s_law : Stmt := top 19
noncomputable def b_law_cell_at : SM := (sSeq (sIf (eT (eOp ltW (eVar 1) (eCallB lenW (aCons (eVar 0) aNil)))) (sRet (eOp ixV (eVar 0) (eVar 1))) sNext) (sRet (eC (.int (0)))))
noncomputable def f_law_cell_at : List W → Mo W := fM b_law_cell_at 2 2
noncomputable def b_law_number_by : SM := (sSeq (sIf (eT (eOp eqW (eOp modW (eVar 0) (eC (.int (4)))) (eC (.int (3))))) (sRet (eOp ixV (eLst (aCons (eC (.int (2147483647))) (aCons (eUn negW (eC (.int (2147483648)))) (aCons (eC (.int (65536))) (aCons (eUn negW (eC (.int (1)))) (aCons (eC (.int (46341))) (aCons (eUn negW (eC (.int (65537)))) (aCons (eC (.int (1))) (aCons (eC (.int (0))) aNil))))))))) (eOp modW (eOp divW (eVar 0) (eC (.int (4)))) (eC (.int (8)))))) sNext) (sSeq (sIf (eT (eOp eqW (eOp modW (eVar 0) (eC (.int (4)))) (eC (.int (2))))) (sRet (eOp subW (eOp modW (eOp mulV (eOp divW (eVar 0) (eC (.int (4)))) (eC (.int (48271)))) (eC (.int (4294967296)))) (eC (.int (2147483648))))) sNext) (sSeq (sIf (eT (eOp eqW (eOp modW (eVar 0) (eC (.int (4)))) (eC (.int (1))))) (sRet (eOp subW (eOp modW (eOp divW (eVar 0) (eC (.int (4)))) (eC (.int (100003)))) (eC (.int (1000))))) sNext) (sRet (eOp subW (eOp modW (eOp divW (eVar 0) (eC (.int (4)))) (eC (.int (19)))) (eC (.int (6))))))))
noncomputable def f_law_number_by : List W → Mo W := fM b_law_number_by 1 1
noncomputable def b_law_row_by : SM := (sSeq (sAsg (eOp modW (eVar 0) (eC (.int (12)))) (gN 3)) (sSeq (sAsg (eOp modW (eOp mulV (eOp divW (eVar 0) (eC (.int (12)))) (eC (.int (48271)))) (eC (.int (2147483647)))) (gN 4)) (sSeq (sAsg (eOp modW (eVar 4) (eVar 1)) (gN 5)) (sSeq (sAsg (eOp modW (eOp divW (eVar 4) (eC (.int (9)))) (eVar 1)) (gN 6)) (sSeq (sAsg (eOp modW (eOp divW (eVar 4) (eC (.int (81)))) (eVar 2)) (gN 7)) (sSeq (sIf (eT (eOp ltW (eVar 3) (eC (.int (5))))) (sSeq (sAsg (eOp ixV (eLst (aCons (eC (.str "sum")) (aCons (eC (.str "less")) (aCons (eC (.str "times")) (aCons (eC (.str "part")) (aCons (eC (.str "below")) (aCons (eC (.str "alike")) aNil))))))) (eOp modW (eOp divW (eVar 4) (eC (.int (486)))) (eC (.int (6))))) (gN 8)) (sRet (eTup (aCons (eC (.str "do")) (aCons (eVar 5) (aCons (eVar 8) (aCons (eVar 6) (aCons (eOp modW (eOp divW (eVar 4) (eC (.int (2916)))) (eVar 1)) aNil)))))))) sNext) (sSeq (sAsg (eLst (aCons (eTup (aCons (eC (.str "put")) (aCons (eVar 5) (aCons (eCall f_law_number_by (aCons (eOp divW (eVar 4) (eC (.int (9)))) aNil)) aNil)))) (aCons (eTup (aCons (eC (.str "move")) (aCons (eVar 5) (aCons (eVar 6) aNil)))) (aCons (eTup (aCons (eC (.str "pull")) (aCons (eVar 5) (aCons (eVar 7) aNil)))) (aCons (eTup (aCons (eC (.str "push")) (aCons (eVar 7) (aCons (eVar 5) aNil)))) aNil))))) (gN 9)) (sSeq (sAsg (eOp addW (eVar 9) (eLst (aCons (eTup (aCons (eC (.str "take")) (aCons (eVar 5) aNil))) (aCons (eTup (aCons (eC (.str "tell")) (aCons (eVar 5) aNil))) (aCons (eTup (aCons (eC (.str "turn")) aNil)) aNil))))) (gN 9)) (sRet (eOp ixV (eVar 9) (eOp subW (eVar 3) (eC (.int (5))))))))))))))
noncomputable def f_law_row_by : List W → Mo W := fM b_law_row_by 10 3
noncomputable def b_law_goal_by : SM := (sSeq (sAsg (eComp (iR1 (aCons (eVar 2) aNil)) [none, some 1, some 3] (gN 0) (tOrM (eT (eOp gtW (eVar 0) (eVar 1))) (tOrM (eT (eOp inV (eVar 0) (eVar 2))) (tAndM (eT (eOp eqW (eVar 0) (eC (.int (0))))) (eT (eOp inV (eVar 1) (eVar 2)))))) (eVar 0)) (gN 4)) (sSeq (sIf (eT (eOp eqW (eVar 4) (eLst aNil))) (sRet (eC .non)) sNext) (sRet (eOp ixV (eVar 4) (eOp modW (eVar 0) (eCallB lenW (aCons (eVar 4) aNil)))))))
noncomputable def f_law_goal_by : List W → Mo W := fM b_law_goal_by 5 4
noncomputable def b_law_end_by : SM := (sSeq (sAsg (eOp modW (eOp mulV (eVar 0) (eC (.int (48271)))) (eC (.int (2147483647)))) (gN 0)) (sSeq (sAsg (eCall f_law_goal_by (aCons (eOp divW (eVar 0) (eC (.int (8)))) (aCons (eVar 1) (aCons (eVar 2) (aCons (eVar 3) aNil))))) (gN 5)) (sSeq (sAsg (eCall f_law_goal_by (aCons (eOp divW (eVar 0) (eC (.int (800)))) (aCons (eVar 1) (aCons (eVar 2) (aCons (eVar 3) aNil))))) (gN 6)) (sSeq (sIf (tOrM (eT (eOp isNW (eVar 5) (eC .non))) (eT (eOp eqW (eOp modW (eVar 0) (eC (.int (8)))) (eC (.int (0)))))) (sRet (eTup (aCons (eC (.str "end")) aNil))) sNext) (sSeq (sIf (eT (eOp ltW (eOp modW (eVar 0) (eC (.int (8)))) (eC (.int (4))))) (sRet (eTup (aCons (eC (.str "if")) (aCons (eOp modW (eOp divW (eVar 0) (eC (.int (80000)))) (eVar 4)) (aCons (eVar 5) (aCons (eVar 6) aNil)))))) sNext) (sRet (eTup (aCons (eC (.str "go")) (aCons (eVar 5) aNil)))))))))
noncomputable def f_law_end_by : List W → Mo W := fM b_law_end_by 7 5
noncomputable def b_law_blocks_by : SM := (sSeq (sAsg (eComp (iR1 (aCons (eOp mulV (eC (.int (4))) (eVar 2)) aNil)) [none, some 0, some 1] (gN 0) cTrue (eOp addW (eCall f_law_cell_at (aCons (eVar 1) (aCons (eOp addW (eVar 2) (eOp modW (eVar 0) (eC (.int (40))))) aNil))) (eOp mulV (eC (.int (91))) (eOp divW (eVar 0) (eC (.int (40))))))) (gN 5)) (sSeq (sAsg (eComp (iR1 (aCons (eVar 2) aNil)) [none, some 5] (gN 0) (eT (eOp eqW (eOp modW (eOp ixV (eVar 1) (eOp mulV (eC (.int (4))) (eVar 0))) (eC (.int (4)))) (eC (.int (1))))) (eVar 0)) (gN 6)) (sSeq (sAsg (eLst aNil) (gN 7)) (sSeq (sFor (iR1 (aCons (eVar 2) aNil)) (gN 8) (sSeq (sAsg (eOp mulV (eLst (aCons (eTup (aCons (eC (.str "turn")) aNil)) aNil)) (eCallB intW (aCons (eOp inV (eVar 8) (eVar 6)) aNil))) (gN 9)) (sSeq (sFor (iR1 (aCons (eOp ixV (eLst (aCons (eC (.int (0))) (aCons (eC (.int (0))) (aCons (eC (.int (1))) (aCons (eC (.int (2))) (aCons (eC (.int (3))) aNil)))))) (eOp modW (eOp divW (eOp ixV (eVar 5) (eOp mulV (eC (.int (4))) (eVar 8))) (eC (.int (4)))) (eC (.int (5))))) aNil)) (gN 10) (sExpr (eMeth isL appendW (eVar 9) (aCons (eCall f_law_row_by (aCons (eOp addW (eOp mulV (eOp ixV (eVar 5) (eOp addW (eOp addW (eOp mulV (eC (.int (4))) (eVar 8)) (eC (.int (1)))) (eOp modW (eVar 10) (eC (.int (2)))))) (eOp addW (eC (.int (1))) (eVar 10))) (eVar 8)) (aCons (eVar 3) (aCons (eVar 4) aNil)))) aNil)))) (sExpr (eMeth isL appendW (eVar 7) (aCons (eTup (aCons (eVar 9) (aCons (eCall f_law_end_by (aCons (eOp addW (eOp ixV (eVar 5) (eOp addW (eOp mulV (eC (.int (4))) (eVar 8)) (eC (.int (3))))) (eVar 8)) (aCons (eVar 8) (aCons (eVar 2) (aCons (eVar 6) (aCons (eVar 3) aNil)))))) aNil))) aNil)))))) (sRet (eVar 7))))))
noncomputable def f_law_blocks_by : List W → Mo W := fM b_law_blocks_by 11 5
noncomputable def b_law_any_end : SM := (sSeq (sIf (eT (eOp eqW (eOp ixV (eVar 0) (eC (.int (0)))) (eC (.str "go")))) (sRet (eTup (aCons (eC (.str "go")) (aCons (eOp modW (eVar 1) (eVar 2)) aNil)))) sNext) (sSeq (sIf (eT (eOp eqW (eOp ixV (eVar 0) (eC (.int (0)))) (eC (.str "if")))) (sRet (eTup (aCons (eC (.str "if")) (aCons (eOp ixV (eVar 0) (eC (.int (1)))) (aCons (eOp modW (eVar 1) (eVar 2)) (aCons (eOp modW (eOp divW (eVar 1) (eVar 2)) (eVar 2)) aNil)))))) sNext) (sRet (eVar 0))))
noncomputable def f_law_any_end : List W → Mo W := fM b_law_any_end 3 3
noncomputable def b_law_order : SM := (sSeq (sAsg (eLst aNil) (gN 1)) (sSeq (sAsg (eC (.int (0))) (gN 2)) (sSeq (sWhile (eT (eOp ltW (eCallB lenW (aCons (eVar 1) aNil)) (eCallB lenW (aCons (eVar 0) aNil)))) (sSeq (sExpr (eMeth isL appendW (eVar 1) (aCons (eVar 2) aNil))) (sSeq (sAsg (eOp ixV (eOp ixV (eVar 0) (eVar 2)) (eC (.int (1)))) (gN 3)) (sIf (tAndM (eT (eOp neW (eOp ixV (eVar 3) (eC (.int (0)))) (eC (.str "end")))) (eT (eOp ninV (eOp ixV (eVar 3) (eUn negW (eC (.int (1))))) (eVar 1)))) (sAsg (eOp ixV (eVar 3) (eUn negW (eC (.int (1))))) (gN 2)) (sAsg (eCallB min1W (aCons (eOp addW (eComp (iR1 (aCons (eCallB lenW (aCons (eVar 0) aNil)) aNil)) [none, some 1] (gN 0) (eT (eOp ninV (eVar 0) (eVar 1))) (eVar 0)) (eLst (aCons (eCallB lenW (aCons (eVar 0) aNil)) aNil))) aNil)) (gN 2)))))) (sRet (eVar 1)))))
noncomputable def f_law_order : List W → Mo W := fM b_law_order 4 1
noncomputable def b_law_tail : SM := (sSeq (sIf (eT (eOp eqW (eOp ixV (eVar 0) (eC (.int (0)))) (eC (.str "end")))) (sRet (eC (.int (1)))) sNext) (sRet (eOp addW (eCallB intW (aCons (eOp eqW (eOp ixV (eVar 0) (eC (.int (0)))) (eC (.str "if"))) aNil)) (eCallB intW (aCons (eOp inV (eOp ixV (eVar 0) (eUn negW (eC (.int (1))))) (eVar 1)) aNil)))))
noncomputable def f_law_tail : List W → Mo W := fM b_law_tail 2 2
noncomputable def b_law_places : SM := (sSeq (sAsg eDct (gN 2)) (sSeq (sAsg (eC (.int (0))) (gN 3)) (sSeq (sFor (iR1 (aCons (eCallB lenW (aCons (eVar 1) aNil)) aNil)) (gN 4) (sSeq (sAsg (eOp ixV (eVar 0) (eOp ixV (eVar 1) (eVar 4))) (gLen 2 [(gN 5), (gN 6)])) (sSeq (sAsg (eVar 3) (gSubV (eVar 2) (eOp ixV (eVar 1) (eVar 4)))) (sAsg (eOp addW (eOp addW (eVar 3) (eCallB lenW (aCons (eVar 5) aNil))) (eCall f_law_tail (aCons (eVar 6) (aCons (eSl (eVar 1) oNone (oSome (eOp addW (eVar 4) (eC (.int (1)))))) aNil)))) (gN 3))))) (sRet (eVar 2)))))
noncomputable def f_law_places : List W → Mo W := fM b_law_places 7 2
noncomputable def b_law_due : SM := (sSeq (sAsg (eCall f_law_order (aCons (eVar 0) aNil)) (gN 1)) (sSeq (sAsg (eCall f_law_places (aCons (eVar 0) (aCons (eVar 1) aNil))) (gN 2)) (sSeq (sAsg (eLst aNil) (gN 3)) (sSeq (sFor (iR1 (aCons (eCallB lenW (aCons (eVar 1) aNil)) aNil)) (gN 4) (sSeq (sAsg (eOp ixV (eVar 0) (eOp ixV (eVar 1) (eVar 4))) (gLen 2 [(gN 5), (gN 6)])) (sSeq (sAsg (eOp addW (eVar 3) (eVar 5)) (gN 3)) (sSeq (sIf (eT (eOp eqW (eOp ixV (eVar 6) (eC (.int (0)))) (eC (.str "end")))) (sExpr (eMeth isL appendW (eVar 3) (aCons (eTup (aCons (eC (.str "end")) aNil)) aNil))) sNext) (sSeq (sIf (eT (eOp eqW (eOp ixV (eVar 6) (eC (.int (0)))) (eC (.str "if")))) (sExpr (eMeth isL appendW (eVar 3) (aCons (eTup (aCons (eC (.str "if")) (aCons (eOp ixV (eVar 6) (eC (.int (1)))) (aCons (eOp ixV (eVar 2) (eOp ixV (eVar 6) (eC (.int (2))))) aNil)))) aNil))) sNext) (sIf (tAndM (eT (eOp neW (eOp ixV (eVar 6) (eC (.int (0)))) (eC (.str "end")))) (eT (eOp inV (eOp ixV (eVar 6) (eUn negW (eC (.int (1))))) (eSl (eVar 1) oNone (oSome (eOp addW (eVar 4) (eC (.int (1))))))))) (sExpr (eMeth isL appendW (eVar 3) (aCons (eTup (aCons (eC (.str "go")) (aCons (eOp ixV (eVar 2) (eOp ixV (eVar 6) (eUn negW (eC (.int (1)))))) aNil))) aNil))) sNext)))))) (sRet (eVar 3))))))
noncomputable def f_law_due : List W → Mo W := fM b_law_due 7 1
noncomputable def b_straight_behind : SM := (sSeq (sIf (eT (eOp eqW (eOp ixV (eVar 0) (eC (.int (0)))) (eC (.str "go")))) (sRet (eOp ixV (eVar 0) (eC (.int (1))))) sNext) (sSeq (sIf (eT (eOp eqW (eOp ixV (eVar 0) (eC (.int (0)))) (eC (.str "if")))) (sRet (eOp ixV (eVar 0) (eC (.int (3))))) sNext) (sRet (eC .non))))
noncomputable def f_straight_behind : List W → Mo W := fM b_straight_behind 1 1
noncomputable def b_rows_for_end : SM := (sSeq (sAsg (eLst aNil) (gN 2)) (sSeq (sIf (eT (eOp eqW (eOp ixV (eVar 0) (eC (.int (0)))) (eC (.str "if")))) (sExpr (eMeth isL appendW (eVar 2) (aCons (eTup (aCons (eC (.str "if")) (aCons (eOp ixV (eVar 0) (eC (.int (1)))) (aCons (eOp ixV (eVar 0) (eC (.int (2)))) aNil)))) aNil))) sNext) (sSeq (sIf (eT (eOp eqW (eOp ixV (eVar 0) (eC (.int (0)))) (eC (.str "end")))) (sExpr (eMeth isL appendW (eVar 2) (aCons (eVar 0) aNil))) (sIf (eT (eOp inV (eCall f_straight_behind (aCons (eVar 0) aNil)) (eVar 1))) (sExpr (eMeth isL appendW (eVar 2) (aCons (eTup (aCons (eC (.str "go")) (aCons (eCall f_straight_behind (aCons (eVar 0) aNil)) aNil))) aNil))) sNext)) (sRet (eVar 2)))))
noncomputable def f_rows_for_end : List W → Mo W := fM b_rows_for_end 3 2
noncomputable def b_least_not_laid : SM := (sSeq (sFor (iR1 (aCons (eCallB lenW (aCons (eVar 0) aNil)) aNil)) (gN 2) (sIf (eT (eOp ninV (eVar 2) (eVar 1))) (sRet (eVar 2)) sNext)) (sRet (eC .non)))
noncomputable def f_least_not_laid : List W → Mo W := fM b_least_not_laid 3 2
noncomputable def b_by_place : SM := (sSeq (sIf (eT (eOp eqW (eOp ixV (eVar 0) (eC (.int (0)))) (eC (.str "go")))) (sRet (eTup (aCons (eC (.str "go")) (aCons (eOp ixV (eVar 1) (eOp ixV (eVar 0) (eC (.int (1))))) aNil)))) sNext) (sSeq (sIf (eT (eOp eqW (eOp ixV (eVar 0) (eC (.int (0)))) (eC (.str "if")))) (sRet (eTup (aCons (eC (.str "if")) (aCons (eOp ixV (eVar 0) (eC (.int (1)))) (aCons (eOp ixV (eVar 1) (eOp ixV (eVar 0) (eC (.int (2))))) aNil))))) sNext) (sRet (eVar 0))))
noncomputable def f_by_place : List W → Mo W := fM b_by_place 2 2
noncomputable def b_laid : SM := (sSeq (sAsg eDct (gN 1)) (sSeq (sAsg (eLst aNil) (gN 2)) (sSeq (sAsg (eC (.int (0))) (gN 3)) (sSeq (sWhile (eT (eOp notNW (eVar 3) (eC .non))) (sSeq (sAsg (eCallB lenW (aCons (eVar 2) aNil)) (gSubV (eVar 1) (eVar 3))) (sSeq (sAsg (eOp ixV (eOp ixV (eVar 0) (eVar 3)) (eC (.int (1)))) (gN 4)) (sSeq (sExpr (eMeth isL extendW (eVar 2) (aCons (eOp ixV (eOp ixV (eVar 0) (eVar 3)) (eC (.int (0)))) aNil))) (sSeq (sExpr (eMeth isL extendW (eVar 2) (aCons (eCall f_rows_for_end (aCons (eVar 4) (aCons (eVar 1) aNil))) aNil))) (sSeq (sAsg (eCall f_straight_behind (aCons (eVar 4) aNil)) (gN 3)) (sIf (tOrM (eT (eOp isNW (eVar 3) (eC .non))) (eT (eOp inV (eVar 3) (eVar 1)))) (sAsg (eCall f_least_not_laid (aCons (eVar 0) (aCons (eVar 1) aNil))) (gN 3)) sNext))))))) (sRet (eComp (iBoth (eVar 2)) [none, some 1] (gN 0) cTrue (eCall f_by_place (aCons (eVar 0) (aCons (eVar 1) aNil)))))))))
noncomputable def f_laid : List W → Mo W := fM b_laid 5 1
noncomputable def b_law_right : SM := (sSeq (sIf (tOrM (tNotM (eTru (eIs "list" (eVar 0)))) (eT (eOp neW (eVar 0) (eVar 1)))) (sRet (eC (.bl false))) sNext) (sSeq (sFor (iBoth (eVar 0)) (gN 2) (sSeq (sIf (tNotM (eTru (eIs "tuple" (eVar 2)))) (sRet (eC (.bl false))) sNext) (sIf (tAndM (eT (eOp inV (eOp ixV (eVar 2) (eC (.int (0)))) (eTup (aCons (eC (.str "go")) (aCons (eC (.str "if")) aNil))))) (eTru (eIs "bool" (eOp ixV (eVar 2) (eUn negW (eC (.int (1)))))))) (sRet (eC (.bl false))) sNext))) (sRet (eC (.bl true)))))
noncomputable def f_law_right : List W → Mo W := fM b_law_right 3 2
noncomputable def b_law : SM := (sSeq (sAsg (eOp addW (eC (.int (1))) (eOp modW (eCall f_law_cell_at (aCons (eVar 0) (aCons (eC (.int (0))) aNil))) (eC (.int (7))))) (gN 1)) (sSeq (sIf (eT (eOp eqW (eOp modW (eOp divW (eCall f_law_cell_at (aCons (eVar 0) (aCons (eC (.int (0))) aNil))) (eC (.int (7)))) (eC (.int (9)))) (eC (.int (1))))) (sAsg (eOp addW (eC (.int (8))) (eOp modW (eOp divW (eCall f_law_cell_at (aCons (eVar 0) (aCons (eC (.int (0))) aNil))) (eC (.int (63)))) (eC (.int (7))))) (gN 1)) sNext) (sSeq (sAsg (eOp addW (eC (.int (2))) (eOp modW (eCall f_law_cell_at (aCons (eVar 0) (aCons (eC (.int (1))) aNil))) (eC (.int (8))))) (gN 2)) (sSeq (sAsg (eCall f_law_blocks_by (aCons (eVar 0) (aCons (eC (.int (2))) (aCons (eVar 1) (aCons (eVar 2) (aCons (eOp addW (eC (.int (1))) (eOp modW (eOp divW (eCall f_law_cell_at (aCons (eVar 0) (aCons (eC (.int (1))) aNil))) (eC (.int (8)))) (eC (.int (12))))) aNil)))))) (gN 3)) (sSeq (sIf (eT (eOp eqW (eOp modW (eOp divW (eCall f_law_cell_at (aCons (eVar 0) (aCons (eC (.int (1))) aNil))) (eC (.int (96)))) (eC (.int (8)))) (eC (.int (1))))) (sSeq (sAsg (eOp divW (eCall f_law_cell_at (aCons (eVar 0) (aCons (eC (.int (1))) aNil))) (eC (.int (768)))) (gN 4)) (sAsg (eComp (iR1 (aCons (eVar 1) aNil)) [none, some 1, some 3, some 4] (gN 0) cTrue (eTup (aCons (eOp ixV (eOp ixV (eVar 2) (eVar 0)) (eC (.int (0)))) (aCons (eCall f_law_any_end (aCons (eOp ixV (eOp ixV (eVar 2) (eVar 0)) (eC (.int (1)))) (aCons (eOp addW (eOp divW (eVar 3) (eOp addW (eVar 0) (eC (.int (1))))) (eVar 0)) (aCons (eVar 1) aNil)))) aNil)))) (gN 3))) sNext) (sSeq (sAsg (eComp (iBoth (eVar 3)) [none, none] (gLen 2 [(gN 0), (gN 1)]) cTrue (eTup (aCons (eCallB listW (aCons (eVar 0) aNil)) (aCons (eVar 1) aNil)))) (gN 5)) (sSeq (sAsg (eCall f_law_due (aCons (eVar 3) aNil)) (gN 6)) (sSeq (sAsg (eCall f_laid (aCons (eVar 5) aNil)) (gN 7)) (sSeq (sIf (tOrM (tNotM (eTru (eCall f_law_right (aCons (eVar 7) (aCons (eVar 6) aNil))))) (eT (eOp neW (eVar 5) (eVar 3)))) (sRet (eC (.bl false))) sNext) (sSeq (sExpr (eMeth isL clearW (eVar 7) aNil)) (sRet (eAnd (eCall f_law_right (aCons (eCall f_laid (aCons (eVar 5) aNil)) (aCons (eVar 6) aNil))) (eAnd (eOp eqW (eVar 7) (eLst aNil)) (eOp eqW (eVar 5) (eVar 3)))))))))))))))
noncomputable def f_law : List W → Mo W := fM b_law 8 1
structure Tx (K : PySem.W.Frag) (mg : Str → Option Value) where
  a_law_cell_at : Addr
  d_law_cell_at : FuncData
  F_law_cell_at : Fun K "_law_cell_at" "_law_cell_at" s_law_cell_at a_law_cell_at d_law_cell_at
  m_law_cell_at : mg "_law_cell_at" = some (.ref a_law_cell_at)
  b_law_cell_at : Binds K d_law_cell_at ["_law_script", "_law_k"] []
  a_law_number_by : Addr
  d_law_number_by : FuncData
  F_law_number_by : Fun K "_law_number_by" "_law_number_by" s_law_number_by a_law_number_by d_law_number_by
  m_law_number_by : mg "_law_number_by" = some (.ref a_law_number_by)
  b_law_number_by : Binds K d_law_number_by ["_law_cell"] []
  a_law_row_by : Addr
  d_law_row_by : FuncData
  F_law_row_by : Fun K "_law_row_by" "_law_row_by" s_law_row_by a_law_row_by d_law_row_by
  m_law_row_by : mg "_law_row_by" = some (.ref a_law_row_by)
  b_law_row_by : Binds K d_law_row_by ["_law_cell", "_law_boxes", "_law_slots"] []
  a_law_goal_by : Addr
  d_law_goal_by : FuncData
  F_law_goal_by : Fun K "_law_goal_by" "_law_goal_by" s_law_goal_by a_law_goal_by d_law_goal_by
  m_law_goal_by : mg "_law_goal_by" = some (.ref a_law_goal_by)
  b_law_goal_by : Binds K d_law_goal_by ["_law_more", "_law_block", "_law_many", "_law_turning"] []
  a_law_end_by : Addr
  d_law_end_by : FuncData
  F_law_end_by : Fun K "_law_end_by" "_law_end_by" s_law_end_by a_law_end_by d_law_end_by
  m_law_end_by : mg "_law_end_by" = some (.ref a_law_end_by)
  b_law_end_by : Binds K d_law_end_by ["_law_cell", "_law_block", "_law_many", "_law_turning", "_law_boxes"] []
  a_law_blocks_by : Addr
  d_law_blocks_by : FuncData
  F_law_blocks_by : Fun K "_law_blocks_by" "_law_blocks_by" s_law_blocks_by a_law_blocks_by d_law_blocks_by
  m_law_blocks_by : mg "_law_blocks_by" = some (.ref a_law_blocks_by)
  b_law_blocks_by : Binds K d_law_blocks_by ["_law_script", "_law_first", "_law_many", "_law_boxes", "_law_slots"] []
  a_law_any_end : Addr
  d_law_any_end : FuncData
  F_law_any_end : Fun K "_law_any_end" "_law_any_end" s_law_any_end a_law_any_end d_law_any_end
  m_law_any_end : mg "_law_any_end" = some (.ref a_law_any_end)
  b_law_any_end : Binds K d_law_any_end ["_law_end", "_law_more", "_law_many"] []
  a_law_order : Addr
  d_law_order : FuncData
  F_law_order : Fun K "_law_order" "_law_order" s_law_order a_law_order d_law_order
  m_law_order : mg "_law_order" = some (.ref a_law_order)
  b_law_order : Binds K d_law_order ["_law_blocks"] []
  a_law_tail : Addr
  d_law_tail : FuncData
  F_law_tail : Fun K "_law_tail" "_law_tail" s_law_tail a_law_tail d_law_tail
  m_law_tail : mg "_law_tail" = some (.ref a_law_tail)
  b_law_tail : Binds K d_law_tail ["_law_end", "_law_there"] []
  a_law_places : Addr
  d_law_places : FuncData
  F_law_places : Fun K "_law_places" "_law_places" s_law_places a_law_places d_law_places
  m_law_places : mg "_law_places" = some (.ref a_law_places)
  b_law_places : Binds K d_law_places ["_law_blocks", "_law_order_here"] []
  a_law_due : Addr
  d_law_due : FuncData
  F_law_due : Fun K "_law_due" "_law_due" s_law_due a_law_due d_law_due
  m_law_due : mg "_law_due" = some (.ref a_law_due)
  b_law_due : Binds K d_law_due ["_law_blocks"] []
  a_straight_behind : Addr
  d_straight_behind : FuncData
  F_straight_behind : Fun K "straight_behind" "straight_behind" s_straight_behind a_straight_behind d_straight_behind
  m_straight_behind : mg "straight_behind" = some (.ref a_straight_behind)
  b_straight_behind : Binds K d_straight_behind ["end"] []
  a_rows_for_end : Addr
  d_rows_for_end : FuncData
  F_rows_for_end : Fun K "rows_for_end" "rows_for_end" s_rows_for_end a_rows_for_end d_rows_for_end
  m_rows_for_end : mg "rows_for_end" = some (.ref a_rows_for_end)
  b_rows_for_end : Binds K d_rows_for_end ["end", "places"] []
  a_least_not_laid : Addr
  d_least_not_laid : FuncData
  F_least_not_laid : Fun K "least_not_laid" "least_not_laid" s_least_not_laid a_least_not_laid d_least_not_laid
  m_least_not_laid : mg "least_not_laid" = some (.ref a_least_not_laid)
  b_least_not_laid : Binds K d_least_not_laid ["blocks", "places"] []
  a_by_place : Addr
  d_by_place : FuncData
  F_by_place : Fun K "by_place" "by_place" s_by_place a_by_place d_by_place
  m_by_place : mg "by_place" = some (.ref a_by_place)
  b_by_place : Binds K d_by_place ["row", "places"] []
  a_laid : Addr
  d_laid : FuncData
  F_laid : Fun K "laid" "laid" s_laid a_laid d_laid
  m_laid : mg "laid" = some (.ref a_laid)
  b_laid : Binds K d_laid ["blocks"] []
  a_law_right : Addr
  d_law_right : FuncData
  F_law_right : Fun K "_law_right" "_law_right" s_law_right a_law_right d_law_right
  m_law_right : mg "_law_right" = some (.ref a_law_right)
  b_law_right : Binds K d_law_right ["_law_found", "_law_due_here"] []
  a_law : Addr
  d_law : FuncData
  F_law : Fun K "law" "law" s_law a_law d_law
  m_law : mg "law" = some (.ref a_law)
  b_law : Binds K d_law ["_law_script"] []
  n_bool : mg "bool" = none
  n_int : mg "int" = none
  n_isinstance : mg "isinstance" = none
  n_len : mg "len" = none
  n_list : mg "list" = none
  n_min : mg "min" = none
  n_range : mg "range" = none
  n_tuple : mg "tuple" = none
theorem blkG {X : Cx} {N N' : List Str} {sc scope : Scope} {k : Nat} {tg : Expr} {g : GM} (B : Bd X N sc k) (T : Tx X.K X.mg) (hc : ∀ y ∈ scope.names, y.2 ≠ .cell) (nd : N'.Nodup) (h : ∀ {Y : Cx}, Bd Y N' scope k → Tx Y.K Y.mg → JG Y tg g) (cl : List (Str × Addr)) (C : Addr) (s₀ : Shared) (H₀ : Hp) (ex : List Addr) : JG (blk X N' scope cl C s₀ H₀ ex) tg g := h (B.blk hc nd) T
theorem blkF {X : Cx} {N N' : List Str} {sc scope : Scope} {k : Nat} {ifs : List Expr} {t : TM} (B : Bd X N sc k) (T : Tx X.K X.mg) (hc : ∀ y ∈ scope.names, y.2 ≠ .cell) (nd : N'.Nodup) (h : ∀ {Y : Cx}, Bd Y N' scope k → Tx Y.K Y.mg → JF Y ifs t) (cl : List (Str × Addr)) (C : Addr) (s₀ : Shared) (H₀ : Hp) (ex : List Addr) : JF (blk X N' scope cl C s₀ H₀ ex) ifs t := h (B.blk hc nd) T
theorem blkE {X : Cx} {N N' : List Str} {sc scope : Scope} {k : Nat} {e : Expr} {m : EM} (B : Bd X N sc k) (T : Tx X.K X.mg) (hc : ∀ y ∈ scope.names, y.2 ≠ .cell) (nd : N'.Nodup) (h : ∀ {Y : Cx}, Bd Y N' scope k → Tx Y.K Y.mg → JE Y e m) (cl : List (Str × Addr)) (C : Addr) (s₀ : Shared) (H₀ : Hp) (ex : List Addr) : JE (blk X N' scope cl C s₀ H₀ ex) e m := h (B.blk hc nd) T
theorem dbg_law_script : (("_law_script" : Str) == ("__debug__" : Str)) = false := by decide +kernel
theorem cdc_law_script : (("_law_script" : Str) == ("__classdict__" : Str)) = false := by decide +kernel
theorem dbg_law_k : (("_law_k" : Str) == ("__debug__" : Str)) = false := by decide +kernel
theorem cdc_law_k : (("_law_k" : Str) == ("__classdict__" : Str)) = false := by decide +kernel
theorem dbg_law_cell : (("_law_cell" : Str) == ("__debug__" : Str)) = false := by decide +kernel
theorem cdc_law_cell : (("_law_cell" : Str) == ("__classdict__" : Str)) = false := by decide +kernel
theorem dbg_law_boxes : (("_law_boxes" : Str) == ("__debug__" : Str)) = false := by decide +kernel
theorem cdc_law_boxes : (("_law_boxes" : Str) == ("__classdict__" : Str)) = false := by decide +kernel
theorem dbg_law_slots : (("_law_slots" : Str) == ("__debug__" : Str)) = false := by decide +kernel
theorem cdc_law_slots : (("_law_slots" : Str) == ("__classdict__" : Str)) = false := by decide +kernel
theorem dbg_law_kind : (("_law_kind" : Str) == ("__debug__" : Str)) = false := by decide +kernel
theorem cdc_law_kind : (("_law_kind" : Str) == ("__classdict__" : Str)) = false := by decide +kernel
theorem dbg_law_more : (("_law_more" : Str) == ("__debug__" : Str)) = false := by decide +kernel
theorem cdc_law_more : (("_law_more" : Str) == ("__classdict__" : Str)) = false := by decide +kernel
theorem dbg_law_one : (("_law_one" : Str) == ("__debug__" : Str)) = false := by decide +kernel
theorem cdc_law_one : (("_law_one" : Str) == ("__classdict__" : Str)) = false := by decide +kernel
theorem dbg_law_other : (("_law_other" : Str) == ("__debug__" : Str)) = false := by decide +kernel
theorem cdc_law_other : (("_law_other" : Str) == ("__classdict__" : Str)) = false := by decide +kernel
theorem dbg_law_slot : (("_law_slot" : Str) == ("__debug__" : Str)) = false := by decide +kernel
theorem cdc_law_slot : (("_law_slot" : Str) == ("__classdict__" : Str)) = false := by decide +kernel
theorem dbg_law_word : (("_law_word" : Str) == ("__debug__" : Str)) = false := by decide +kernel
theorem cdc_law_word : (("_law_word" : Str) == ("__classdict__" : Str)) = false := by decide +kernel
theorem dbg_law_some : (("_law_some" : Str) == ("__debug__" : Str)) = false := by decide +kernel
theorem cdc_law_some : (("_law_some" : Str) == ("__classdict__" : Str)) = false := by decide +kernel
theorem dbg_law_block : (("_law_block" : Str) == ("__debug__" : Str)) = false := by decide +kernel
theorem cdc_law_block : (("_law_block" : Str) == ("__classdict__" : Str)) = false := by decide +kernel
theorem dbg_law_many : (("_law_many" : Str) == ("__debug__" : Str)) = false := by decide +kernel
theorem cdc_law_many : (("_law_many" : Str) == ("__classdict__" : Str)) = false := by decide +kernel
theorem dbg_law_turning : (("_law_turning" : Str) == ("__debug__" : Str)) = false := by decide +kernel
theorem cdc_law_turning : (("_law_turning" : Str) == ("__classdict__" : Str)) = false := by decide +kernel
theorem dbg_law_yes : (("_law_yes" : Str) == ("__debug__" : Str)) = false := by decide +kernel
theorem cdc_law_yes : (("_law_yes" : Str) == ("__classdict__" : Str)) = false := by decide +kernel
theorem dbg_law_no : (("_law_no" : Str) == ("__debug__" : Str)) = false := by decide +kernel
theorem cdc_law_no : (("_law_no" : Str) == ("__classdict__" : Str)) = false := by decide +kernel
theorem dbg_law_first : (("_law_first" : Str) == ("__debug__" : Str)) = false := by decide +kernel
theorem cdc_law_first : (("_law_first" : Str) == ("__classdict__" : Str)) = false := by decide +kernel
theorem dbg_law_cells : (("_law_cells" : Str) == ("__debug__" : Str)) = false := by decide +kernel
theorem cdc_law_cells : (("_law_cells" : Str) == ("__classdict__" : Str)) = false := by decide +kernel
theorem dbg_law_blocks : (("_law_blocks" : Str) == ("__debug__" : Str)) = false := by decide +kernel
theorem cdc_law_blocks : (("_law_blocks" : Str) == ("__classdict__" : Str)) = false := by decide +kernel
theorem dbg_law_rows : (("_law_rows" : Str) == ("__debug__" : Str)) = false := by decide +kernel
theorem cdc_law_rows : (("_law_rows" : Str) == ("__classdict__" : Str)) = false := by decide +kernel
theorem dbg_law_j : (("_law_j" : Str) == ("__debug__" : Str)) = false := by decide +kernel
theorem cdc_law_j : (("_law_j" : Str) == ("__classdict__" : Str)) = false := by decide +kernel
theorem dbg_law_end : (("_law_end" : Str) == ("__debug__" : Str)) = false := by decide +kernel
theorem cdc_law_end : (("_law_end" : Str) == ("__classdict__" : Str)) = false := by decide +kernel
theorem dbg_law_found : (("_law_found" : Str) == ("__debug__" : Str)) = false := by decide +kernel
theorem cdc_law_found : (("_law_found" : Str) == ("__classdict__" : Str)) = false := by decide +kernel
theorem dbg_law_there : (("_law_there" : Str) == ("__debug__" : Str)) = false := by decide +kernel
theorem cdc_law_there : (("_law_there" : Str) == ("__classdict__" : Str)) = false := by decide +kernel
theorem dbg_law_order_here : (("_law_order_here" : Str) == ("__debug__" : Str)) = false := by decide +kernel
theorem cdc_law_order_here : (("_law_order_here" : Str) == ("__classdict__" : Str)) = false := by decide +kernel
theorem dbg_law_place : (("_law_place" : Str) == ("__debug__" : Str)) = false := by decide +kernel
theorem cdc_law_place : (("_law_place" : Str) == ("__classdict__" : Str)) = false := by decide +kernel
theorem dbg_law_places_here : (("_law_places_here" : Str) == ("__debug__" : Str)) = false := by decide +kernel
theorem cdc_law_places_here : (("_law_places_here" : Str) == ("__classdict__" : Str)) = false := by decide +kernel
theorem dbg_end : (("end" : Str) == ("__debug__" : Str)) = false := by decide +kernel
theorem cdc_end : (("end" : Str) == ("__classdict__" : Str)) = false := by decide +kernel
theorem dbg_places : (("places" : Str) == ("__debug__" : Str)) = false := by decide +kernel
theorem cdc_places : (("places" : Str) == ("__classdict__" : Str)) = false := by decide +kernel
theorem dbg_rows : (("rows" : Str) == ("__debug__" : Str)) = false := by decide +kernel
theorem cdc_rows : (("rows" : Str) == ("__classdict__" : Str)) = false := by decide +kernel
theorem dbg_blocks : (("blocks" : Str) == ("__debug__" : Str)) = false := by decide +kernel
theorem cdc_blocks : (("blocks" : Str) == ("__classdict__" : Str)) = false := by decide +kernel
theorem dbg_number : (("number" : Str) == ("__debug__" : Str)) = false := by decide +kernel
theorem cdc_number : (("number" : Str) == ("__classdict__" : Str)) = false := by decide +kernel
theorem dbg_row : (("row" : Str) == ("__debug__" : Str)) = false := by decide +kernel
theorem cdc_row : (("row" : Str) == ("__classdict__" : Str)) = false := by decide +kernel
theorem dbg_law_due_here : (("_law_due_here" : Str) == ("__debug__" : Str)) = false := by decide +kernel
theorem cdc_law_due_here : (("_law_due_here" : Str) == ("__classdict__" : Str)) = false := by decide +kernel
theorem dbg_law_row : (("_law_row" : Str) == ("__debug__" : Str)) = false := by decide +kernel
theorem cdc_law_row : (("_law_row" : Str) == ("__classdict__" : Str)) = false := by decide +kernel
theorem dbg_law_handed : (("_law_handed" : Str) == ("__debug__" : Str)) = false := by decide +kernel
theorem cdc_law_handed : (("_law_handed" : Str) == ("__classdict__" : Str)) = false := by decide +kernel
theorem vis_law_cell_at_0 : Vis (defScope s_law_cell_at) "_law_script" := .inl (by decide +kernel)
theorem vis_law_cell_at_1 : Vis (defScope s_law_cell_at) "_law_k" := .inl (by decide +kernel)
theorem gl_law_cell_at_len : (defScope s_law_cell_at).names.lookup ("len" : Str) = some .globalImplicit := by decide +kernel
theorem vis_law_number_by_0 : Vis (defScope s_law_number_by) "_law_cell" := .inl (by decide +kernel)
theorem vis_law_row_by_0 : Vis (defScope s_law_row_by) "_law_cell" := .inl (by decide +kernel)
theorem vis_law_row_by_1 : Vis (defScope s_law_row_by) "_law_boxes" := .inl (by decide +kernel)
theorem vis_law_row_by_2 : Vis (defScope s_law_row_by) "_law_slots" := .inl (by decide +kernel)
theorem vis_law_row_by_3 : Vis (defScope s_law_row_by) "_law_kind" := .inl (by decide +kernel)
theorem loc_law_row_by_3 : Loc (defScope s_law_row_by) "_law_kind" := .inl (by decide +kernel)
theorem vis_law_row_by_4 : Vis (defScope s_law_row_by) "_law_more" := .inl (by decide +kernel)
theorem loc_law_row_by_4 : Loc (defScope s_law_row_by) "_law_more" := .inl (by decide +kernel)
theorem vis_law_row_by_5 : Vis (defScope s_law_row_by) "_law_one" := .inl (by decide +kernel)
theorem loc_law_row_by_5 : Loc (defScope s_law_row_by) "_law_one" := .inl (by decide +kernel)
theorem vis_law_row_by_6 : Vis (defScope s_law_row_by) "_law_other" := .inl (by decide +kernel)
theorem loc_law_row_by_6 : Loc (defScope s_law_row_by) "_law_other" := .inl (by decide +kernel)
theorem vis_law_row_by_7 : Vis (defScope s_law_row_by) "_law_slot" := .inl (by decide +kernel)
theorem loc_law_row_by_7 : Loc (defScope s_law_row_by) "_law_slot" := .inl (by decide +kernel)
theorem vis_law_row_by_8 : Vis (defScope s_law_row_by) "_law_word" := .inl (by decide +kernel)
theorem loc_law_row_by_8 : Loc (defScope s_law_row_by) "_law_word" := .inl (by decide +kernel)
theorem vis_law_row_by_9 : Vis (defScope s_law_row_by) "_law_some" := .inl (by decide +kernel)
theorem loc_law_row_by_9 : Loc (defScope s_law_row_by) "_law_some" := .inl (by decide +kernel)
theorem gl_law_row_by_law_number_by : (defScope s_law_row_by).names.lookup ("_law_number_by" : Str) = some .globalImplicit := by decide +kernel
theorem vis_law_goal_by_0 : Vis (defScope s_law_goal_by) "_law_more" := .inl (by decide +kernel)
theorem vis_law_goal_by_2 : Vis (defScope s_law_goal_by) "_law_many" := .inl (by decide +kernel)
theorem vis_law_goal_by_4 : Vis (defScope s_law_goal_by) "_law_some" := .inl (by decide +kernel)
theorem gl_law_goal_by_range : (defScope s_law_goal_by).names.lookup ("range" : Str) = some .globalImplicit := by decide +kernel
theorem gl_law_goal_by_len : (defScope s_law_goal_by).names.lookup ("len" : Str) = some .globalImplicit := by decide +kernel
theorem vis_law_end_by_0 : Vis (defScope s_law_end_by) "_law_cell" := .inl (by decide +kernel)
theorem loc_law_end_by_0 : Loc (defScope s_law_end_by) "_law_cell" := .inl (by decide +kernel)
theorem vis_law_end_by_1 : Vis (defScope s_law_end_by) "_law_block" := .inl (by decide +kernel)
theorem vis_law_end_by_2 : Vis (defScope s_law_end_by) "_law_many" := .inl (by decide +kernel)
theorem vis_law_end_by_3 : Vis (defScope s_law_end_by) "_law_turning" := .inl (by decide +kernel)
theorem vis_law_end_by_4 : Vis (defScope s_law_end_by) "_law_boxes" := .inl (by decide +kernel)
theorem vis_law_end_by_5 : Vis (defScope s_law_end_by) "_law_yes" := .inl (by decide +kernel)
theorem loc_law_end_by_5 : Loc (defScope s_law_end_by) "_law_yes" := .inl (by decide +kernel)
theorem vis_law_end_by_6 : Vis (defScope s_law_end_by) "_law_no" := .inl (by decide +kernel)
theorem loc_law_end_by_6 : Loc (defScope s_law_end_by) "_law_no" := .inl (by decide +kernel)
theorem gl_law_end_by_law_goal_by : (defScope s_law_end_by).names.lookup ("_law_goal_by" : Str) = some .globalImplicit := by decide +kernel
theorem vis_law_blocks_by_2 : Vis (defScope s_law_blocks_by) "_law_many" := .inl (by decide +kernel)
theorem vis_law_blocks_by_3 : Vis (defScope s_law_blocks_by) "_law_boxes" := .inl (by decide +kernel)
theorem vis_law_blocks_by_4 : Vis (defScope s_law_blocks_by) "_law_slots" := .inl (by decide +kernel)
theorem vis_law_blocks_by_5 : Vis (defScope s_law_blocks_by) "_law_cells" := .inr (.inl (by decide +kernel))
theorem loc_law_blocks_by_5 : Loc (defScope s_law_blocks_by) "_law_cells" := .inr (by decide +kernel)
theorem vis_law_blocks_by_6 : Vis (defScope s_law_blocks_by) "_law_turning" := .inl (by decide +kernel)
theorem vis_law_blocks_by_7 : Vis (defScope s_law_blocks_by) "_law_blocks" := .inl (by decide +kernel)
theorem loc_law_blocks_by_7 : Loc (defScope s_law_blocks_by) "_law_blocks" := .inl (by decide +kernel)
theorem vis_law_blocks_by_8 : Vis (defScope s_law_blocks_by) "_law_k" := .inl (by decide +kernel)
theorem loc_law_blocks_by_8 : Loc (defScope s_law_blocks_by) "_law_k" := .inl (by decide +kernel)
theorem vis_law_blocks_by_9 : Vis (defScope s_law_blocks_by) "_law_rows" := .inl (by decide +kernel)
theorem loc_law_blocks_by_9 : Loc (defScope s_law_blocks_by) "_law_rows" := .inl (by decide +kernel)
theorem vis_law_blocks_by_10 : Vis (defScope s_law_blocks_by) "_law_j" := .inl (by decide +kernel)
theorem loc_law_blocks_by_10 : Loc (defScope s_law_blocks_by) "_law_j" := .inl (by decide +kernel)
theorem gl_law_blocks_by_range : (defScope s_law_blocks_by).names.lookup ("range" : Str) = some .globalImplicit := by decide +kernel
theorem gl_law_blocks_by_int : (defScope s_law_blocks_by).names.lookup ("int" : Str) = some .globalImplicit := by decide +kernel
theorem gl_law_blocks_by_law_row_by : (defScope s_law_blocks_by).names.lookup ("_law_row_by" : Str) = some .globalImplicit := by decide +kernel
theorem gl_law_blocks_by_law_end_by : (defScope s_law_blocks_by).names.lookup ("_law_end_by" : Str) = some .globalImplicit := by decide +kernel
theorem vis_law_any_end_0 : Vis (defScope s_law_any_end) "_law_end" := .inl (by decide +kernel)
theorem vis_law_any_end_1 : Vis (defScope s_law_any_end) "_law_more" := .inl (by decide +kernel)
theorem vis_law_any_end_2 : Vis (defScope s_law_any_end) "_law_many" := .inl (by decide +kernel)
theorem vis_law_order_0 : Vis (defScope s_law_order) "_law_blocks" := .inl (by decide +kernel)
theorem vis_law_order_1 : Vis (defScope s_law_order) "_law_found" := .inr (.inl (by decide +kernel))
theorem loc_law_order_1 : Loc (defScope s_law_order) "_law_found" := .inr (by decide +kernel)
theorem vis_law_order_2 : Vis (defScope s_law_order) "_law_block" := .inl (by decide +kernel)
theorem loc_law_order_2 : Loc (defScope s_law_order) "_law_block" := .inl (by decide +kernel)
theorem vis_law_order_3 : Vis (defScope s_law_order) "_law_end" := .inl (by decide +kernel)
theorem loc_law_order_3 : Loc (defScope s_law_order) "_law_end" := .inl (by decide +kernel)
theorem gl_law_order_len : (defScope s_law_order).names.lookup ("len" : Str) = some .globalImplicit := by decide +kernel
theorem gl_law_order_range : (defScope s_law_order).names.lookup ("range" : Str) = some .globalImplicit := by decide +kernel
theorem gl_law_order_min : (defScope s_law_order).names.lookup ("min" : Str) = some .globalImplicit := by decide +kernel
theorem vis_law_tail_0 : Vis (defScope s_law_tail) "_law_end" := .inl (by decide +kernel)
theorem vis_law_tail_1 : Vis (defScope s_law_tail) "_law_there" := .inl (by decide +kernel)
theorem gl_law_tail_int : (defScope s_law_tail).names.lookup ("int" : Str) = some .globalImplicit := by decide +kernel
theorem vis_law_places_0 : Vis (defScope s_law_places) "_law_blocks" := .inl (by decide +kernel)
theorem vis_law_places_1 : Vis (defScope s_law_places) "_law_order_here" := .inl (by decide +kernel)
theorem vis_law_places_2 : Vis (defScope s_law_places) "_law_found" := .inl (by decide +kernel)
theorem loc_law_places_2 : Loc (defScope s_law_places) "_law_found" := .inl (by decide +kernel)
theorem vis_law_places_3 : Vis (defScope s_law_places) "_law_place" := .inl (by decide +kernel)
theorem loc_law_places_3 : Loc (defScope s_law_places) "_law_place" := .inl (by decide +kernel)
theorem vis_law_places_4 : Vis (defScope s_law_places) "_law_k" := .inl (by decide +kernel)
theorem loc_law_places_4 : Loc (defScope s_law_places) "_law_k" := .inl (by decide +kernel)
theorem vis_law_places_5 : Vis (defScope s_law_places) "_law_rows" := .inl (by decide +kernel)
theorem loc_law_places_5 : Loc (defScope s_law_places) "_law_rows" := .inl (by decide +kernel)
theorem vis_law_places_6 : Vis (defScope s_law_places) "_law_end" := .inl (by decide +kernel)
theorem loc_law_places_6 : Loc (defScope s_law_places) "_law_end" := .inl (by decide +kernel)
theorem gl_law_places_len : (defScope s_law_places).names.lookup ("len" : Str) = some .globalImplicit := by decide +kernel
theorem gl_law_places_range : (defScope s_law_places).names.lookup ("range" : Str) = some .globalImplicit := by decide +kernel
theorem gl_law_places_law_tail : (defScope s_law_places).names.lookup ("_law_tail" : Str) = some .globalImplicit := by decide +kernel
theorem vis_law_due_0 : Vis (defScope s_law_due) "_law_blocks" := .inl (by decide +kernel)
theorem vis_law_due_1 : Vis (defScope s_law_due) "_law_order_here" := .inl (by decide +kernel)
theorem loc_law_due_1 : Loc (defScope s_law_due) "_law_order_here" := .inl (by decide +kernel)
theorem vis_law_due_2 : Vis (defScope s_law_due) "_law_places_here" := .inl (by decide +kernel)
theorem loc_law_due_2 : Loc (defScope s_law_due) "_law_places_here" := .inl (by decide +kernel)
theorem vis_law_due_3 : Vis (defScope s_law_due) "_law_found" := .inl (by decide +kernel)
theorem loc_law_due_3 : Loc (defScope s_law_due) "_law_found" := .inl (by decide +kernel)
theorem vis_law_due_4 : Vis (defScope s_law_due) "_law_k" := .inl (by decide +kernel)
theorem loc_law_due_4 : Loc (defScope s_law_due) "_law_k" := .inl (by decide +kernel)
theorem vis_law_due_5 : Vis (defScope s_law_due) "_law_rows" := .inl (by decide +kernel)
theorem loc_law_due_5 : Loc (defScope s_law_due) "_law_rows" := .inl (by decide +kernel)
theorem vis_law_due_6 : Vis (defScope s_law_due) "_law_end" := .inl (by decide +kernel)
theorem loc_law_due_6 : Loc (defScope s_law_due) "_law_end" := .inl (by decide +kernel)
theorem gl_law_due_law_order : (defScope s_law_due).names.lookup ("_law_order" : Str) = some .globalImplicit := by decide +kernel
theorem gl_law_due_law_places : (defScope s_law_due).names.lookup ("_law_places" : Str) = some .globalImplicit := by decide +kernel
theorem gl_law_due_len : (defScope s_law_due).names.lookup ("len" : Str) = some .globalImplicit := by decide +kernel
theorem gl_law_due_range : (defScope s_law_due).names.lookup ("range" : Str) = some .globalImplicit := by decide +kernel
theorem vis_straight_behind_0 : Vis (defScope s_straight_behind) "end" := .inl (by decide +kernel)
theorem vis_rows_for_end_0 : Vis (defScope s_rows_for_end) "end" := .inl (by decide +kernel)
theorem vis_rows_for_end_1 : Vis (defScope s_rows_for_end) "places" := .inl (by decide +kernel)
theorem vis_rows_for_end_2 : Vis (defScope s_rows_for_end) "rows" := .inl (by decide +kernel)
theorem loc_rows_for_end_2 : Loc (defScope s_rows_for_end) "rows" := .inl (by decide +kernel)
theorem gl_rows_for_end_straight_behind : (defScope s_rows_for_end).names.lookup ("straight_behind" : Str) = some .globalImplicit := by decide +kernel
theorem vis_least_not_laid_0 : Vis (defScope s_least_not_laid) "blocks" := .inl (by decide +kernel)
theorem vis_least_not_laid_1 : Vis (defScope s_least_not_laid) "places" := .inl (by decide +kernel)
theorem vis_least_not_laid_2 : Vis (defScope s_least_not_laid) "number" := .inl (by decide +kernel)
theorem loc_least_not_laid_2 : Loc (defScope s_least_not_laid) "number" := .inl (by decide +kernel)
theorem gl_least_not_laid_len : (defScope s_least_not_laid).names.lookup ("len" : Str) = some .globalImplicit := by decide +kernel
theorem gl_least_not_laid_range : (defScope s_least_not_laid).names.lookup ("range" : Str) = some .globalImplicit := by decide +kernel
theorem vis_by_place_0 : Vis (defScope s_by_place) "row" := .inl (by decide +kernel)
theorem vis_by_place_1 : Vis (defScope s_by_place) "places" := .inl (by decide +kernel)
theorem vis_laid_0 : Vis (defScope s_laid) "blocks" := .inl (by decide +kernel)
theorem vis_laid_1 : Vis (defScope s_laid) "places" := .inr (.inl (by decide +kernel))
theorem loc_laid_1 : Loc (defScope s_laid) "places" := .inr (by decide +kernel)
theorem vis_laid_2 : Vis (defScope s_laid) "rows" := .inl (by decide +kernel)
theorem loc_laid_2 : Loc (defScope s_laid) "rows" := .inl (by decide +kernel)
theorem vis_laid_3 : Vis (defScope s_laid) "number" := .inl (by decide +kernel)
theorem loc_laid_3 : Loc (defScope s_laid) "number" := .inl (by decide +kernel)
theorem vis_laid_4 : Vis (defScope s_laid) "end" := .inl (by decide +kernel)
theorem loc_laid_4 : Loc (defScope s_laid) "end" := .inl (by decide +kernel)
theorem gl_laid_len : (defScope s_laid).names.lookup ("len" : Str) = some .globalImplicit := by decide +kernel
theorem gl_laid_rows_for_end : (defScope s_laid).names.lookup ("rows_for_end" : Str) = some .globalImplicit := by decide +kernel
theorem gl_laid_straight_behind : (defScope s_laid).names.lookup ("straight_behind" : Str) = some .globalImplicit := by decide +kernel
theorem gl_laid_least_not_laid : (defScope s_laid).names.lookup ("least_not_laid" : Str) = some .globalImplicit := by decide +kernel
theorem vis_law_right_0 : Vis (defScope s_law_right) "_law_found" := .inl (by decide +kernel)
theorem vis_law_right_1 : Vis (defScope s_law_right) "_law_due_here" := .inl (by decide +kernel)
theorem vis_law_right_2 : Vis (defScope s_law_right) "_law_row" := .inl (by decide +kernel)
theorem loc_law_right_2 : Loc (defScope s_law_right) "_law_row" := .inl (by decide +kernel)
theorem gl_law_right_isinstance : (defScope s_law_right).names.lookup ("isinstance" : Str) = some .globalImplicit := by decide +kernel
theorem gl_law_right_list : (defScope s_law_right).names.lookup ("list" : Str) = some .globalImplicit := by decide +kernel
theorem gl_law_right_tuple : (defScope s_law_right).names.lookup ("tuple" : Str) = some .globalImplicit := by decide +kernel
theorem gl_law_right_bool : (defScope s_law_right).names.lookup ("bool" : Str) = some .globalImplicit := by decide +kernel
theorem vis_law_0 : Vis (defScope s_law) "_law_script" := .inl (by decide +kernel)
theorem vis_law_1 : Vis (defScope s_law) "_law_many" := .inr (.inl (by decide +kernel))
theorem loc_law_1 : Loc (defScope s_law) "_law_many" := .inr (by decide +kernel)
theorem vis_law_2 : Vis (defScope s_law) "_law_boxes" := .inl (by decide +kernel)
theorem loc_law_2 : Loc (defScope s_law) "_law_boxes" := .inl (by decide +kernel)
theorem vis_law_3 : Vis (defScope s_law) "_law_blocks" := .inr (.inl (by decide +kernel))
theorem loc_law_3 : Loc (defScope s_law) "_law_blocks" := .inr (by decide +kernel)
theorem loc_law_4 : Loc (defScope s_law) "_law_more" := .inr (by decide +kernel)
theorem vis_law_5 : Vis (defScope s_law) "_law_handed" := .inl (by decide +kernel)
theorem vis_law_6 : Vis (defScope s_law) "_law_due_here" := .inl (by decide +kernel)
theorem loc_law_6 : Loc (defScope s_law) "_law_due_here" := .inl (by decide +kernel)
theorem vis_law_7 : Vis (defScope s_law) "_law_first" := .inl (by decide +kernel)
theorem loc_law_7 : Loc (defScope s_law) "_law_first" := .inl (by decide +kernel)
theorem gl_law_law_cell_at : (defScope s_law).names.lookup ("_law_cell_at" : Str) = some .globalImplicit := by decide +kernel
theorem gl_law_law_blocks_by : (defScope s_law).names.lookup ("_law_blocks_by" : Str) = some .globalImplicit := by decide +kernel
theorem gl_law_range : (defScope s_law).names.lookup ("range" : Str) = some .globalImplicit := by decide +kernel
theorem gl_law_law_due : (defScope s_law).names.lookup ("_law_due" : Str) = some .globalImplicit := by decide +kernel
theorem gl_law_laid : (defScope s_law).names.lookup ("laid" : Str) = some .globalImplicit := by decide +kernel
theorem gl_law_law_right : (defScope s_law).names.lookup ("_law_right" : Str) = some .globalImplicit := by decide +kernel
section
variable {P : Program} {w : World} {K : PySem.W.Frag} {mg : Str → Option Value} {base : Heap}
theorem sc_law_cell_at : FnScope ["_law_script", "_law_k"] ["_law_script", "_law_k"] (defScope s_law_cell_at) := ⟨rfl, rfl, rfl, by decide +kernel, rfl, by decide +kernel, by decide +kernel⟩
theorem body_law_cell_at {X : Cx} (T : Tx X.K X.mg) (B : Bd X ["_law_script", "_law_k"] (defScope s_law_cell_at) 0) (hF : TopF X) (hsc : X.env.scope = defScope s_law_cell_at) : JB X (defBody s_law_cell_at) b_law_cell_at := (jb_cons (js_if (jt_cmp cp_lt (B.jvar 1 rfl vis_law_cell_at_1 dbg_law_k cdc_law_k) (je_blt rfl (by decide +kernel) (by decide +kernel) call_lenW lenW_i (B.gl _ gl_law_cell_at_len) T.n_len PySem.boot_len (ja_c rfl (B.jvar 0 rfl vis_law_cell_at_0 dbg_law_script cdc_law_script) ja_nil))) (jb_one (js_ret (B.je_ixV (by intro _ _; rfl) (B.jvar 0 rfl vis_law_cell_at_0 dbg_law_script cdc_law_script) (B.jvar 1 rfl vis_law_cell_at_1 dbg_law_k cdc_law_k)))) jb_nil) (jb_one (js_ret je_int)))
theorem ok_law_cell_at (T : Tx K mg) : FnOk P w K mg base (CXW P w) 1 T.a_law_cell_at T.d_law_cell_at ["_law_script", "_law_k"] (spM K mg 2 (fM b_law_cell_at 2 2)) := fun_ilT rfl rfl T.F_law_cell_at sc_law_cell_at fun {X} h1 h2 h3 h4 h5 B hF hsc => by subst h3 h4; exact body_law_cell_at T B hF hsc
theorem sc_law_number_by : FnScope ["_law_cell"] ["_law_cell"] (defScope s_law_number_by) := ⟨rfl, rfl, rfl, by decide +kernel, rfl, by decide +kernel, by decide +kernel⟩
theorem body_law_number_by {X : Cx} (T : Tx X.K X.mg) (B : Bd X ["_law_cell"] (defScope s_law_number_by) 0) (hF : TopF X) (hsc : X.env.scope = defScope s_law_number_by) : JB X (defBody s_law_number_by) b_law_number_by := (jb_cons (js_if (jt_cmp B.eq (je_mod (B.jvar 0 rfl vis_law_number_by_0 dbg_law_cell cdc_law_cell) je_int) je_int) (jb_one (js_ret (B.je_ixV (by intro _ _; rfl) (je_lst (ja_c rfl je_int (ja_c rfl (je_neg je_int) (ja_c rfl je_int (ja_c rfl (je_neg je_int) (ja_c rfl je_int (ja_c rfl (je_neg je_int) (ja_c rfl je_int (ja_c rfl je_int ja_nil))))))))) (je_mod (je_div (B.jvar 0 rfl vis_law_number_by_0 dbg_law_cell cdc_law_cell) je_int) je_int)))) jb_nil) (jb_cons (js_if (jt_cmp B.eq (je_mod (B.jvar 0 rfl vis_law_number_by_0 dbg_law_cell cdc_law_cell) je_int) je_int) (jb_one (js_ret (je_sub (je_mod (je_mulV (je_div (B.jvar 0 rfl vis_law_number_by_0 dbg_law_cell cdc_law_cell) je_int) je_int) je_int) je_int))) jb_nil) (jb_cons (js_if (jt_cmp B.eq (je_mod (B.jvar 0 rfl vis_law_number_by_0 dbg_law_cell cdc_law_cell) je_int) je_int) (jb_one (js_ret (je_sub (je_mod (je_div (B.jvar 0 rfl vis_law_number_by_0 dbg_law_cell cdc_law_cell) je_int) je_int) je_int))) jb_nil) (jb_one (js_ret (je_sub (je_mod (je_div (B.jvar 0 rfl vis_law_number_by_0 dbg_law_cell cdc_law_cell) je_int) je_int) je_int))))))
theorem ok_law_number_by (T : Tx K mg) : FnOk P w K mg base (CXW P w) 1 T.a_law_number_by T.d_law_number_by ["_law_cell"] (spM K mg 1 (fM b_law_number_by 1 1)) := fun_ilT rfl rfl T.F_law_number_by sc_law_number_by fun {X} h1 h2 h3 h4 h5 B hF hsc => by subst h3 h4; exact body_law_number_by T B hF hsc
theorem sc_law_row_by : FnScope ["_law_cell", "_law_boxes", "_law_slots", "_law_kind", "_law_more", "_law_one", "_law_other", "_law_slot", "_law_word", "_law_some"] ["_law_cell", "_law_boxes", "_law_slots"] (defScope s_law_row_by) := ⟨rfl, rfl, rfl, by decide +kernel, rfl, by decide +kernel, by decide +kernel⟩
theorem body_law_row_by {X : Cx} (T : Tx X.K X.mg) (B : Bd X ["_law_cell", "_law_boxes", "_law_slots", "_law_kind", "_law_more", "_law_one", "_law_other", "_law_slot", "_law_word", "_law_some"] (defScope s_law_row_by) 1) (hF : TopF X) (hsc : X.env.scope = defScope s_law_row_by) : JB X (defBody s_law_row_by) b_law_row_by := (jb_cons (B.jset 3 rfl loc_law_row_by_3 rfl (je_mod (B.jvar 0 rfl vis_law_row_by_0 dbg_law_cell cdc_law_cell) je_int)) (jb_cons (B.jset 4 rfl loc_law_row_by_4 rfl (je_mod (je_mulV (je_div (B.jvar 0 rfl vis_law_row_by_0 dbg_law_cell cdc_law_cell) je_int) je_int) je_int)) (jb_cons (B.jset 5 rfl loc_law_row_by_5 rfl (je_mod (B.jvar 4 rfl vis_law_row_by_4 dbg_law_more cdc_law_more) (B.jvar 1 rfl vis_law_row_by_1 dbg_law_boxes cdc_law_boxes))) (jb_cons (B.jset 6 rfl loc_law_row_by_6 rfl (je_mod (je_div (B.jvar 4 rfl vis_law_row_by_4 dbg_law_more cdc_law_more) je_int) (B.jvar 1 rfl vis_law_row_by_1 dbg_law_boxes cdc_law_boxes))) (jb_cons (B.jset 7 rfl loc_law_row_by_7 rfl (je_mod (je_div (B.jvar 4 rfl vis_law_row_by_4 dbg_law_more cdc_law_more) je_int) (B.jvar 2 rfl vis_law_row_by_2 dbg_law_slots cdc_law_slots))) (jb_cons (js_if (jt_cmp cp_lt (B.jvar 3 rfl vis_law_row_by_3 dbg_law_kind cdc_law_kind) je_int) (jb_cons (B.jset 8 rfl loc_law_row_by_8 rfl (B.je_ixV (by intro _ _; rfl) (je_lst (ja_c rfl je_str (ja_c rfl je_str (ja_c rfl je_str (ja_c rfl je_str (ja_c rfl je_str (ja_c rfl je_str ja_nil))))))) (je_mod (je_div (B.jvar 4 rfl vis_law_row_by_4 dbg_law_more cdc_law_more) je_int) je_int))) (jb_one (js_ret (je_tup (ja_c rfl je_str (ja_c rfl (B.jvar 5 rfl vis_law_row_by_5 dbg_law_one cdc_law_one) (ja_c rfl (B.jvar 8 rfl vis_law_row_by_8 dbg_law_word cdc_law_word) (ja_c rfl (B.jvar 6 rfl vis_law_row_by_6 dbg_law_other cdc_law_other) (ja_c rfl (je_mod (je_div (B.jvar 4 rfl vis_law_row_by_4 dbg_law_more cdc_law_more) je_int) (B.jvar 1 rfl vis_law_row_by_1 dbg_law_boxes cdc_law_boxes)) ja_nil))))))))) jb_nil) (jb_cons (B.jset 9 rfl loc_law_row_by_9 rfl (je_lst (ja_c rfl (je_tup (ja_c rfl je_str (ja_c rfl (B.jvar 5 rfl vis_law_row_by_5 dbg_law_one cdc_law_one) (ja_c rfl (je_cal rfl (by decide +kernel) (ok_law_number_by T) fM_len (B.room.mono (by decide)) (B.gl _ gl_law_row_by_law_number_by) T.m_law_number_by T.F_law_number_by.kp T.b_law_number_by (ja_c rfl (je_div (B.jvar 4 rfl vis_law_row_by_4 dbg_law_more cdc_law_more) je_int) ja_nil)) ja_nil)))) (ja_c rfl (je_tup (ja_c rfl je_str (ja_c rfl (B.jvar 5 rfl vis_law_row_by_5 dbg_law_one cdc_law_one) (ja_c rfl (B.jvar 6 rfl vis_law_row_by_6 dbg_law_other cdc_law_other) ja_nil)))) (ja_c rfl (je_tup (ja_c rfl je_str (ja_c rfl (B.jvar 5 rfl vis_law_row_by_5 dbg_law_one cdc_law_one) (ja_c rfl (B.jvar 7 rfl vis_law_row_by_7 dbg_law_slot cdc_law_slot) ja_nil)))) (ja_c rfl (je_tup (ja_c rfl je_str (ja_c rfl (B.jvar 7 rfl vis_law_row_by_7 dbg_law_slot cdc_law_slot) (ja_c rfl (B.jvar 5 rfl vis_law_row_by_5 dbg_law_one cdc_law_one) ja_nil)))) ja_nil)))))) (jb_cons (B.jset 9 rfl loc_law_row_by_9 rfl (je_add (B.jvar 9 rfl vis_law_row_by_9 dbg_law_some cdc_law_some) (je_lst (ja_c rfl (je_tup (ja_c rfl je_str (ja_c rfl (B.jvar 5 rfl vis_law_row_by_5 dbg_law_one cdc_law_one) ja_nil))) (ja_c rfl (je_tup (ja_c rfl je_str (ja_c rfl (B.jvar 5 rfl vis_law_row_by_5 dbg_law_one cdc_law_one) ja_nil))) (ja_c rfl (je_tup (ja_c rfl je_str ja_nil)) ja_nil)))))) (jb_one (js_ret (B.je_ixV (by intro _ _; rfl) (B.jvar 9 rfl vis_law_row_by_9 dbg_law_some cdc_law_some) (je_sub (B.jvar 3 rfl vis_law_row_by_3 dbg_law_kind cdc_law_kind) je_int))))))))))))
theorem ok_law_row_by (T : Tx K mg) : FnOk P w K mg base (CXW P w) 2 T.a_law_row_by T.d_law_row_by ["_law_cell", "_law_boxes", "_law_slots"] (spM K mg 3 (fM b_law_row_by 10 3)) := fun_ilT rfl rfl T.F_law_row_by sc_law_row_by fun {X} h1 h2 h3 h4 h5 B hF hsc => by subst h3 h4; exact body_law_row_by T B hF hsc
theorem sc_law_goal_by : FnScope ["_law_more", "_law_block", "_law_many", "_law_turning", "_law_some"] ["_law_more", "_law_block", "_law_many", "_law_turning"] (defScope s_law_goal_by) := ⟨rfl, rfl, rfl, by decide +kernel, rfl, by decide +kernel, by decide +kernel⟩
theorem body_law_goal_by {X : Cx} (T : Tx X.K X.mg) (B : Bd X ["_law_more", "_law_block", "_law_many", "_law_turning", "_law_some"] (defScope s_law_goal_by) 0) (hF : TopF X) (hsc : X.env.scope = defScope s_law_goal_by) : JB X (defBody s_law_goal_by) b_law_goal_by := (jb_cons (js_comp (i := 4) (by rw [B.hN]; exact B.nd) (by rw [B.hN]; rfl) (by rw [hsc]; decide +kernel) B.calm (N' := ["_law_k", "_law_block", "_law_turning"]) (Bd.cap B.hN hsc (by decide +kernel)) (ji_range1 (B.gl _ gl_law_goal_by_range) T.n_range rfl (ja_c rfl (B.jvar 2 rfl vis_law_goal_by_2 dbg_law_many cdc_law_many) ja_nil)) (blkG B T (by decide +kernel) (by decide +kernel) fun {X} B T => (B.jname 0 rfl (.inl rfl))) (blkF B T (by decide +kernel) (by decide +kernel) fun {X} B T => (jf_one (jt_w (jw_or (jt_cmp cp_gt (B.jvar 0 rfl (.inl rfl) dbg_law_k cdc_law_k) (B.jvar 1 rfl (.inr (.inr rfl)) dbg_law_block cdc_law_block)) (jw_or (jt_cmp (B.inV_ (by with_unfolding_all rfl)) (B.jvar 0 rfl (.inl rfl) dbg_law_k cdc_law_k) (B.jvar 2 rfl (.inr (.inr rfl)) dbg_law_turning cdc_law_turning)) (jw_one (jt_w (jw_and (jt_cmp B.eq (B.jvar 0 rfl (.inl rfl) dbg_law_k cdc_law_k) je_int) (jw_one (jt_cmp (B.inV_ (by with_unfolding_all rfl)) (B.jvar 1 rfl (.inr (.inr rfl)) dbg_law_block cdc_law_block) (B.jvar 2 rfl (.inr (.inr rfl)) dbg_law_turning cdc_law_turning))))))))))) (blkE B T (by decide +kernel) (by decide +kernel) fun {X} B T => (B.jvar 0 rfl (.inl rfl) dbg_law_k cdc_law_k)) (swaps_yes (by rw [hsc]; rfl) (by rw [hsc]; decide +kernel) rfl (by decide +kernel))) (jb_cons (js_if (jt_cmp B.eq (B.jvar 4 rfl vis_law_goal_by_4 dbg_law_some cdc_law_some) (je_lst ja_nil)) (jb_one (js_ret je_non)) jb_nil) (jb_one (js_ret (B.je_ixV (by intro _ _; rfl) (B.jvar 4 rfl vis_law_goal_by_4 dbg_law_some cdc_law_some) (je_mod (B.jvar 0 rfl vis_law_goal_by_0 dbg_law_more cdc_law_more) (je_blt rfl (by decide +kernel) (by decide +kernel) call_lenW lenW_i (B.gl _ gl_law_goal_by_len) T.n_len PySem.boot_len (ja_c rfl (B.jvar 4 rfl vis_law_goal_by_4 dbg_law_some cdc_law_some) ja_nil))))))))
theorem ok_law_goal_by (T : Tx K mg) : FnOk P w K mg base (CXW P w) 1 T.a_law_goal_by T.d_law_goal_by ["_law_more", "_law_block", "_law_many", "_law_turning"] (spM K mg 4 (fM b_law_goal_by 5 4)) := fun_ilT rfl rfl T.F_law_goal_by sc_law_goal_by fun {X} h1 h2 h3 h4 h5 B hF hsc => by subst h3 h4; exact body_law_goal_by T B hF hsc
theorem sc_law_end_by : FnScope ["_law_cell", "_law_block", "_law_many", "_law_turning", "_law_boxes", "_law_yes", "_law_no"] ["_law_cell", "_law_block", "_law_many", "_law_turning", "_law_boxes"] (defScope s_law_end_by) := ⟨rfl, rfl, rfl, by decide +kernel, rfl, by decide +kernel, by decide +kernel⟩
theorem body_law_end_by {X : Cx} (T : Tx X.K X.mg) (B : Bd X ["_law_cell", "_law_block", "_law_many", "_law_turning", "_law_boxes", "_law_yes", "_law_no"] (defScope s_law_end_by) 1) (hF : TopF X) (hsc : X.env.scope = defScope s_law_end_by) : JB X (defBody s_law_end_by) b_law_end_by := (jb_cons (B.jset 0 rfl loc_law_end_by_0 rfl (je_mod (je_mulV (B.jvar 0 rfl vis_law_end_by_0 dbg_law_cell cdc_law_cell) je_int) je_int)) (jb_cons (B.jset 5 rfl loc_law_end_by_5 rfl (je_cal rfl (by decide +kernel) (ok_law_goal_by T) fM_len (B.room.mono (by decide)) (B.gl _ gl_law_end_by_law_goal_by) T.m_law_goal_by T.F_law_goal_by.kp T.b_law_goal_by (ja_c rfl (je_div (B.jvar 0 rfl vis_law_end_by_0 dbg_law_cell cdc_law_cell) je_int) (ja_c rfl (B.jvar 1 rfl vis_law_end_by_1 dbg_law_block cdc_law_block) (ja_c rfl (B.jvar 2 rfl vis_law_end_by_2 dbg_law_many cdc_law_many) (ja_c rfl (B.jvar 3 rfl vis_law_end_by_3 dbg_law_turning cdc_law_turning) ja_nil)))))) (jb_cons (B.jset 6 rfl loc_law_end_by_6 rfl (je_cal rfl (by decide +kernel) (ok_law_goal_by T) fM_len (B.room.mono (by decide)) (B.gl _ gl_law_end_by_law_goal_by) T.m_law_goal_by T.F_law_goal_by.kp T.b_law_goal_by (ja_c rfl (je_div (B.jvar 0 rfl vis_law_end_by_0 dbg_law_cell cdc_law_cell) je_int) (ja_c rfl (B.jvar 1 rfl vis_law_end_by_1 dbg_law_block cdc_law_block) (ja_c rfl (B.jvar 2 rfl vis_law_end_by_2 dbg_law_many cdc_law_many) (ja_c rfl (B.jvar 3 rfl vis_law_end_by_3 dbg_law_turning cdc_law_turning) ja_nil)))))) (jb_cons (js_if (jt_w (jw_or (jt_cmp cp_is (B.jvar 5 rfl vis_law_end_by_5 dbg_law_yes cdc_law_yes) je_non) (jw_one (jt_cmp B.eq (je_mod (B.jvar 0 rfl vis_law_end_by_0 dbg_law_cell cdc_law_cell) je_int) je_int)))) (jb_one (js_ret (je_tup (ja_c rfl je_str ja_nil)))) jb_nil) (jb_cons (js_if (jt_cmp cp_lt (je_mod (B.jvar 0 rfl vis_law_end_by_0 dbg_law_cell cdc_law_cell) je_int) je_int) (jb_one (js_ret (je_tup (ja_c rfl je_str (ja_c rfl (je_mod (je_div (B.jvar 0 rfl vis_law_end_by_0 dbg_law_cell cdc_law_cell) je_int) (B.jvar 4 rfl vis_law_end_by_4 dbg_law_boxes cdc_law_boxes)) (ja_c rfl (B.jvar 5 rfl vis_law_end_by_5 dbg_law_yes cdc_law_yes) (ja_c rfl (B.jvar 6 rfl vis_law_end_by_6 dbg_law_no cdc_law_no) ja_nil))))))) jb_nil) (jb_one (js_ret (je_tup (ja_c rfl je_str (ja_c rfl (B.jvar 5 rfl vis_law_end_by_5 dbg_law_yes cdc_law_yes) ja_nil))))))))))
theorem ok_law_end_by (T : Tx K mg) : FnOk P w K mg base (CXW P w) 2 T.a_law_end_by T.d_law_end_by ["_law_cell", "_law_block", "_law_many", "_law_turning", "_law_boxes"] (spM K mg 5 (fM b_law_end_by 7 5)) := fun_ilT rfl rfl T.F_law_end_by sc_law_end_by fun {X} h1 h2 h3 h4 h5 B hF hsc => by subst h3 h4; exact body_law_end_by T B hF hsc
theorem sc_law_blocks_by : FnScope ["_law_script", "_law_first", "_law_many", "_law_boxes", "_law_slots", "_law_cells", "_law_turning", "_law_blocks", "_law_k", "_law_rows", "_law_j"] ["_law_script", "_law_first", "_law_many", "_law_boxes", "_law_slots"] (defScope s_law_blocks_by) := ⟨rfl, rfl, rfl, by decide +kernel, rfl, by decide +kernel, by decide +kernel⟩
theorem body_law_blocks_by {X : Cx} (T : Tx X.K X.mg) (B : Bd X ["_law_script", "_law_first", "_law_many", "_law_boxes", "_law_slots", "_law_cells", "_law_turning", "_law_blocks", "_law_k", "_law_rows", "_law_j"] (defScope s_law_blocks_by) 2) (hF : TopF X) (hsc : X.env.scope = defScope s_law_blocks_by) : JB X (defBody s_law_blocks_by) b_law_blocks_by := (jb_cons (B.jsetC 5 rfl loc_law_blocks_by_5 (by rw [hsc]; decide +kernel) (je_comp B.calm (N' := ["_law_k", "_law_script", "_law_first"]) (Bd.cap B.hN hsc (by decide +kernel)) (ji_range1 (B.gl _ gl_law_blocks_by_range) T.n_range rfl (ja_c rfl (je_mulV je_int (B.jvar 2 rfl vis_law_blocks_by_2 dbg_law_many cdc_law_many)) ja_nil)) (blkG B T (by decide +kernel) (by decide +kernel) fun {X} B T => (B.jname 0 rfl (.inl rfl))) (blkF B T (by decide +kernel) (by decide +kernel) fun {X} B T => jf_nil) (blkE B T (by decide +kernel) (by decide +kernel) fun {X} B T => (je_add (je_cal rfl (by decide +kernel) (ok_law_cell_at T) fM_len (B.room.mono (by decide)) (B.gl _ rfl) T.m_law_cell_at T.F_law_cell_at.kp T.b_law_cell_at (ja_c rfl (B.jvar 1 rfl (.inr (.inr rfl)) dbg_law_script cdc_law_script) (ja_c rfl (je_add (B.jvar 2 rfl (.inr (.inr rfl)) dbg_law_first cdc_law_first) (je_mod (B.jvar 0 rfl (.inl rfl) dbg_law_k cdc_law_k) je_int)) ja_nil))) (je_mulV je_int (je_div (B.jvar 0 rfl (.inl rfl) dbg_law_k cdc_law_k) je_int)))))) (jb_cons (js_comp (i := 6) (by rw [B.hN]; exact B.nd) (by rw [B.hN]; rfl) (by rw [hsc]; decide +kernel) B.calm (N' := ["_law_k", "_law_cells"]) (Bd.cap B.hN hsc (by decide +kernel)) (ji_range1 (B.gl _ gl_law_blocks_by_range) T.n_range rfl (ja_c rfl (B.jvar 2 rfl vis_law_blocks_by_2 dbg_law_many cdc_law_many) ja_nil)) (blkG B T (by decide +kernel) (by decide +kernel) fun {X} B T => (B.jname 0 rfl (.inl rfl))) (blkF B T (by decide +kernel) (by decide +kernel) fun {X} B T => (jf_one (jt_cmp B.eq (je_mod (B.je_ixV (by intro _ _; rfl) (B.jvar 1 rfl (.inr (.inr rfl)) dbg_law_cells cdc_law_cells) (je_mulV je_int (B.jvar 0 rfl (.inl rfl) dbg_law_k cdc_law_k))) je_int) je_int))) (blkE B T (by decide +kernel) (by decide +kernel) fun {X} B T => (B.jvar 0 rfl (.inl rfl) dbg_law_k cdc_law_k)) (swaps_yes (by rw [hsc]; rfl) (by rw [hsc]; decide +kernel) rfl (by decide +kernel))) (jb_cons (B.jset 7 rfl loc_law_blocks_by_7 rfl (je_lst ja_nil)) (jb_cons (B.jfor (ji_range1 (B.gl _ gl_law_blocks_by_range) T.n_range rfl (ja_c rfl (B.jvar 2 rfl vis_law_blocks_by_2 dbg_law_many cdc_law_many) ja_nil)) (B.jname 8 rfl loc_law_blocks_by_8) (jb_cons (B.jset 9 rfl loc_law_blocks_by_9 rfl (je_mulV (je_lst (ja_c rfl (je_tup (ja_c rfl je_str ja_nil)) ja_nil)) (je_typ rfl (by decide +kernel) (by decide +kernel) call_int1 intW_i (B.gl _ gl_law_blocks_by_int) T.n_int PyProof.Rows.boot_int (ja_c rfl (je_cmp (B.inV_ (by with_unfolding_all rfl)) (B.jvar 8 rfl vis_law_blocks_by_8 dbg_law_k cdc_law_k) (B.jvar 6 rfl vis_law_blocks_by_6 dbg_law_turning cdc_law_turning)) ja_nil)))) (jb_cons (B.jfor (ji_range1 (B.gl _ gl_law_blocks_by_range) T.n_range rfl (ja_c rfl (B.je_ixV (by intro _ _; rfl) (je_lst (ja_c rfl je_int (ja_c rfl je_int (ja_c rfl je_int (ja_c rfl je_int (ja_c rfl je_int ja_nil)))))) (je_mod (je_div (B.je_ixV (by intro _ _; rfl) (B.jvar 5 rfl vis_law_blocks_by_5 dbg_law_cells cdc_law_cells) (je_mulV je_int (B.jvar 8 rfl vis_law_blocks_by_8 dbg_law_k cdc_law_k))) je_int) je_int)) ja_nil)) (B.jname 10 rfl loc_law_blocks_by_10) (jb_one (js_expr rfl (je_mth rfl rfl PySem.F.plainAttrs_list PySem.F.slot_list_append PySem.F.type_list_append mt_append isL_i appendW_i (B.jvar 9 rfl vis_law_blocks_by_9 dbg_law_rows cdc_law_rows) (ja_c rfl (je_cal rfl (by decide +kernel) (ok_law_row_by T) fM_len (B.room.mono (by decide)) (B.gl _ gl_law_blocks_by_law_row_by) T.m_law_row_by T.F_law_row_by.kp T.b_law_row_by (ja_c rfl (je_add (je_mulV (B.je_ixV (by intro _ _; rfl) (B.jvar 5 rfl vis_law_blocks_by_5 dbg_law_cells cdc_law_cells) (je_add (je_add (je_mulV je_int (B.jvar 8 rfl vis_law_blocks_by_8 dbg_law_k cdc_law_k)) je_int) (je_mod (B.jvar 10 rfl vis_law_blocks_by_10 dbg_law_j cdc_law_j) je_int))) (je_add je_int (B.jvar 10 rfl vis_law_blocks_by_10 dbg_law_j cdc_law_j))) (B.jvar 8 rfl vis_law_blocks_by_8 dbg_law_k cdc_law_k)) (ja_c rfl (B.jvar 3 rfl vis_law_blocks_by_3 dbg_law_boxes cdc_law_boxes) (ja_c rfl (B.jvar 4 rfl vis_law_blocks_by_4 dbg_law_slots cdc_law_slots) ja_nil)))) ja_nil))))) (jb_one (js_expr rfl (je_mth rfl rfl PySem.F.plainAttrs_list PySem.F.slot_list_append PySem.F.type_list_append mt_append isL_i appendW_i (B.jvar 7 rfl vis_law_blocks_by_7 dbg_law_blocks cdc_law_blocks) (ja_c rfl (je_tup (ja_c rfl (B.jvar 9 rfl vis_law_blocks_by_9 dbg_law_rows cdc_law_rows) (ja_c rfl (je_cal rfl (by decide +kernel) (ok_law_end_by T) fM_len (B.room.mono (by decide)) (B.gl _ gl_law_blocks_by_law_end_by) T.m_law_end_by T.F_law_end_by.kp T.b_law_end_by (ja_c rfl (je_add (B.je_ixV (by intro _ _; rfl) (B.jvar 5 rfl vis_law_blocks_by_5 dbg_law_cells cdc_law_cells) (je_add (je_mulV je_int (B.jvar 8 rfl vis_law_blocks_by_8 dbg_law_k cdc_law_k)) je_int)) (B.jvar 8 rfl vis_law_blocks_by_8 dbg_law_k cdc_law_k)) (ja_c rfl (B.jvar 8 rfl vis_law_blocks_by_8 dbg_law_k cdc_law_k) (ja_c rfl (B.jvar 2 rfl vis_law_blocks_by_2 dbg_law_many cdc_law_many) (ja_c rfl (B.jvar 6 rfl vis_law_blocks_by_6 dbg_law_turning cdc_law_turning) (ja_c rfl (B.jvar 3 rfl vis_law_blocks_by_3 dbg_law_boxes cdc_law_boxes) ja_nil)))))) ja_nil))) ja_nil))))))) (jb_one (js_ret (B.jvar 7 rfl vis_law_blocks_by_7 dbg_law_blocks cdc_law_blocks)))))))
theorem ok_law_blocks_by (T : Tx K mg) : FnOk P w K mg base (CXW P w) 3 T.a_law_blocks_by T.d_law_blocks_by ["_law_script", "_law_first", "_law_many", "_law_boxes", "_law_slots"] (spM K mg 5 (fM b_law_blocks_by 11 5)) := fun_ilT rfl rfl T.F_law_blocks_by sc_law_blocks_by fun {X} h1 h2 h3 h4 h5 B hF hsc => by subst h3 h4; exact body_law_blocks_by T B hF hsc
theorem sc_law_any_end : FnScope ["_law_end", "_law_more", "_law_many"] ["_law_end", "_law_more", "_law_many"] (defScope s_law_any_end) := ⟨rfl, rfl, rfl, by decide +kernel, rfl, by decide +kernel, by decide +kernel⟩
theorem body_law_any_end {X : Cx} (T : Tx X.K X.mg) (B : Bd X ["_law_end", "_law_more", "_law_many"] (defScope s_law_any_end) 0) (hF : TopF X) (hsc : X.env.scope = defScope s_law_any_end) : JB X (defBody s_law_any_end) b_law_any_end := (jb_cons (js_if (jt_cmp B.eq (B.je_ixV (by intro _ _; rfl) (B.jvar 0 rfl vis_law_any_end_0 dbg_law_end cdc_law_end) je_int) je_str) (jb_one (js_ret (je_tup (ja_c rfl je_str (ja_c rfl (je_mod (B.jvar 1 rfl vis_law_any_end_1 dbg_law_more cdc_law_more) (B.jvar 2 rfl vis_law_any_end_2 dbg_law_many cdc_law_many)) ja_nil))))) jb_nil) (jb_cons (js_if (jt_cmp B.eq (B.je_ixV (by intro _ _; rfl) (B.jvar 0 rfl vis_law_any_end_0 dbg_law_end cdc_law_end) je_int) je_str) (jb_one (js_ret (je_tup (ja_c rfl je_str (ja_c rfl (B.je_ixV (by intro _ _; rfl) (B.jvar 0 rfl vis_law_any_end_0 dbg_law_end cdc_law_end) je_int) (ja_c rfl (je_mod (B.jvar 1 rfl vis_law_any_end_1 dbg_law_more cdc_law_more) (B.jvar 2 rfl vis_law_any_end_2 dbg_law_many cdc_law_many)) (ja_c rfl (je_mod (je_div (B.jvar 1 rfl vis_law_any_end_1 dbg_law_more cdc_law_more) (B.jvar 2 rfl vis_law_any_end_2 dbg_law_many cdc_law_many)) (B.jvar 2 rfl vis_law_any_end_2 dbg_law_many cdc_law_many)) ja_nil))))))) jb_nil) (jb_one (js_ret (B.jvar 0 rfl vis_law_any_end_0 dbg_law_end cdc_law_end)))))
theorem ok_law_any_end (T : Tx K mg) : FnOk P w K mg base (CXW P w) 1 T.a_law_any_end T.d_law_any_end ["_law_end", "_law_more", "_law_many"] (spM K mg 3 (fM b_law_any_end 3 3)) := fun_ilT rfl rfl T.F_law_any_end sc_law_any_end fun {X} h1 h2 h3 h4 h5 B hF hsc => by subst h3 h4; exact body_law_any_end T B hF hsc
theorem sc_law_order : FnScope ["_law_blocks", "_law_found", "_law_block", "_law_end"] ["_law_blocks"] (defScope s_law_order) := ⟨rfl, rfl, rfl, by decide +kernel, rfl, by decide +kernel, by decide +kernel⟩
theorem body_law_order {X : Cx} (T : Tx X.K X.mg) (B : Bd X ["_law_blocks", "_law_found", "_law_block", "_law_end"] (defScope s_law_order) 0) (hF : TopF X) (hsc : X.env.scope = defScope s_law_order) : JB X (defBody s_law_order) b_law_order := (jb_cons (B.jset 1 rfl loc_law_order_1 rfl (je_lst ja_nil)) (jb_cons (B.jset 2 rfl loc_law_order_2 rfl je_int) (jb_cons (B.jwhile (jt_cmp cp_lt (je_blt rfl (by decide +kernel) (by decide +kernel) call_lenW lenW_i (B.gl _ gl_law_order_len) T.n_len PySem.boot_len (ja_c rfl (B.jvar 1 rfl vis_law_order_1 dbg_law_found cdc_law_found) ja_nil)) (je_blt rfl (by decide +kernel) (by decide +kernel) call_lenW lenW_i (B.gl _ gl_law_order_len) T.n_len PySem.boot_len (ja_c rfl (B.jvar 0 rfl vis_law_order_0 dbg_law_blocks cdc_law_blocks) ja_nil))) (jb_cons (js_expr rfl (je_mth rfl rfl PySem.F.plainAttrs_list PySem.F.slot_list_append PySem.F.type_list_append mt_append isL_i appendW_i (B.jvar 1 rfl vis_law_order_1 dbg_law_found cdc_law_found) (ja_c rfl (B.jvar 2 rfl vis_law_order_2 dbg_law_block cdc_law_block) ja_nil))) (jb_cons (B.jset 3 rfl loc_law_order_3 rfl (B.je_ixV (by intro _ _; rfl) (B.je_ixV (by intro _ _; rfl) (B.jvar 0 rfl vis_law_order_0 dbg_law_blocks cdc_law_blocks) (B.jvar 2 rfl vis_law_order_2 dbg_law_block cdc_law_block)) je_int)) (jb_one (js_if (jt_w (jw_and (jt_cmp B.ne (B.je_ixV (by intro _ _; rfl) (B.jvar 3 rfl vis_law_order_3 dbg_law_end cdc_law_end) je_int) je_str) (jw_one (jt_cmp (B.ninV_ (by with_unfolding_all rfl)) (B.je_ixV (by intro _ _; rfl) (B.jvar 3 rfl vis_law_order_3 dbg_law_end cdc_law_end) (je_neg je_int)) (B.jvar 1 rfl vis_law_order_1 dbg_law_found cdc_law_found))))) (jb_one (B.jset 2 rfl loc_law_order_2 rfl (B.je_ixV (by intro _ _; rfl) (B.jvar 3 rfl vis_law_order_3 dbg_law_end cdc_law_end) (je_neg je_int)))) (jb_one (B.jset 2 rfl loc_law_order_2 rfl (je_blt rfl (by decide +kernel) (by decide +kernel) (call_min_l B.calm) min1W_i (B.gl _ gl_law_order_min) T.n_min PyProof.Rows.boot_min (ja_c rfl (je_add (je_comp B.calm (N' := ["_law_k", "_law_found"]) (Bd.cap B.hN hsc (by decide +kernel)) (ji_range1 (B.gl _ gl_law_order_range) T.n_range rfl (ja_c rfl (je_blt rfl (by decide +kernel) (by decide +kernel) call_lenW lenW_i (B.gl _ gl_law_order_len) T.n_len PySem.boot_len (ja_c rfl (B.jvar 0 rfl vis_law_order_0 dbg_law_blocks cdc_law_blocks) ja_nil)) ja_nil)) (blkG B T (by decide +kernel) (by decide +kernel) fun {X} B T => (B.jname 0 rfl (.inl rfl))) (blkF B T (by decide +kernel) (by decide +kernel) fun {X} B T => (jf_one (jt_cmp (B.ninV_ (by with_unfolding_all rfl)) (B.jvar 0 rfl (.inl rfl) dbg_law_k cdc_law_k) (B.jvar 1 rfl (.inr (.inr rfl)) dbg_law_found cdc_law_found)))) (blkE B T (by decide +kernel) (by decide +kernel) fun {X} B T => (B.jvar 0 rfl (.inl rfl) dbg_law_k cdc_law_k))) (je_lst (ja_c rfl (je_blt rfl (by decide +kernel) (by decide +kernel) call_lenW lenW_i (B.gl _ gl_law_order_len) T.n_len PySem.boot_len (ja_c rfl (B.jvar 0 rfl vis_law_order_0 dbg_law_blocks cdc_law_blocks) ja_nil)) ja_nil))) ja_nil))))))))) (jb_one (js_ret (B.jvar 1 rfl vis_law_order_1 dbg_law_found cdc_law_found))))))
theorem ok_law_order (T : Tx K mg) : FnOk P w K mg base (CXW P w) 1 T.a_law_order T.d_law_order ["_law_blocks"] (spM K mg 1 (fM b_law_order 4 1)) := fun_ilT rfl rfl T.F_law_order sc_law_order fun {X} h1 h2 h3 h4 h5 B hF hsc => by subst h3 h4; exact body_law_order T B hF hsc
theorem sc_law_tail : FnScope ["_law_end", "_law_there"] ["_law_end", "_law_there"] (defScope s_law_tail) := ⟨rfl, rfl, rfl, by decide +kernel, rfl, by decide +kernel, by decide +kernel⟩
theorem body_law_tail {X : Cx} (T : Tx X.K X.mg) (B : Bd X ["_law_end", "_law_there"] (defScope s_law_tail) 0) (hF : TopF X) (hsc : X.env.scope = defScope s_law_tail) : JB X (defBody s_law_tail) b_law_tail := (jb_cons (js_if (jt_cmp B.eq (B.je_ixV (by intro _ _; rfl) (B.jvar 0 rfl vis_law_tail_0 dbg_law_end cdc_law_end) je_int) je_str) (jb_one (js_ret je_int)) jb_nil) (jb_one (js_ret (je_add (je_typ rfl (by decide +kernel) (by decide +kernel) call_int1 intW_i (B.gl _ gl_law_tail_int) T.n_int PyProof.Rows.boot_int (ja_c rfl (je_cmp B.eq (B.je_ixV (by intro _ _; rfl) (B.jvar 0 rfl vis_law_tail_0 dbg_law_end cdc_law_end) je_int) je_str) ja_nil)) (je_typ rfl (by decide +kernel) (by decide +kernel) call_int1 intW_i (B.gl _ gl_law_tail_int) T.n_int PyProof.Rows.boot_int (ja_c rfl (je_cmp (B.inV_ (by with_unfolding_all rfl)) (B.je_ixV (by intro _ _; rfl) (B.jvar 0 rfl vis_law_tail_0 dbg_law_end cdc_law_end) (je_neg je_int)) (B.jvar 1 rfl vis_law_tail_1 dbg_law_there cdc_law_there)) ja_nil))))))
theorem ok_law_tail (T : Tx K mg) : FnOk P w K mg base (CXW P w) 1 T.a_law_tail T.d_law_tail ["_law_end", "_law_there"] (spM K mg 2 (fM b_law_tail 2 2)) := fun_ilT rfl rfl T.F_law_tail sc_law_tail fun {X} h1 h2 h3 h4 h5 B hF hsc => by subst h3 h4; exact body_law_tail T B hF hsc
theorem sc_law_places : FnScope ["_law_blocks", "_law_order_here", "_law_found", "_law_place", "_law_k", "_law_rows", "_law_end"] ["_law_blocks", "_law_order_here"] (defScope s_law_places) := ⟨rfl, rfl, rfl, by decide +kernel, rfl, by decide +kernel, by decide +kernel⟩
theorem body_law_places {X : Cx} (T : Tx X.K X.mg) (B : Bd X ["_law_blocks", "_law_order_here", "_law_found", "_law_place", "_law_k", "_law_rows", "_law_end"] (defScope s_law_places) 1) (hF : TopF X) (hsc : X.env.scope = defScope s_law_places) : JB X (defBody s_law_places) b_law_places := (jb_cons (B.jset 2 rfl loc_law_places_2 rfl je_dct) (jb_cons (B.jset 3 rfl loc_law_places_3 rfl je_int) (jb_cons (B.jfor (ji_range1 (B.gl _ gl_law_places_range) T.n_range rfl (ja_c rfl (je_blt rfl (by decide +kernel) (by decide +kernel) call_lenW lenW_i (B.gl _ gl_law_places_len) T.n_len PySem.boot_len (ja_c rfl (B.jvar 1 rfl vis_law_places_1 dbg_law_order_here cdc_law_order_here) ja_nil)) ja_nil)) (B.jname 4 rfl loc_law_places_4) (jb_cons (js_asg (B.je_ixV (by intro _ _; rfl) (B.jvar 0 rfl vis_law_places_0 dbg_law_blocks cdc_law_blocks) (B.je_ixV (by intro _ _; rfl) (B.jvar 1 rfl vis_law_places_1 dbg_law_order_here cdc_law_order_here) (B.jvar 4 rfl vis_law_places_4 dbg_law_k cdc_law_k))) (jg_tup B.calm (jgs_cons (B.jname 5 rfl loc_law_places_5) (jgs_cons (B.jname 6 rfl loc_law_places_6) jgs_nil)))) (jb_cons (js_asg (B.jvar 3 rfl vis_law_places_3 dbg_law_place cdc_law_place) (B.jg_subV (B.jvar 2 rfl vis_law_places_2 dbg_law_found cdc_law_found) (B.je_ixV (by intro _ _; rfl) (B.jvar 1 rfl vis_law_places_1 dbg_law_order_here cdc_law_order_here) (B.jvar 4 rfl vis_law_places_4 dbg_law_k cdc_law_k)))) (jb_one (B.jset 3 rfl loc_law_places_3 rfl (je_add (je_add (B.jvar 3 rfl vis_law_places_3 dbg_law_place cdc_law_place) (je_blt rfl (by decide +kernel) (by decide +kernel) call_lenW lenW_i (B.gl _ gl_law_places_len) T.n_len PySem.boot_len (ja_c rfl (B.jvar 5 rfl vis_law_places_5 dbg_law_rows cdc_law_rows) ja_nil))) (je_cal rfl (by decide +kernel) (ok_law_tail T) fM_len (B.room.mono (by decide)) (B.gl _ gl_law_places_law_tail) T.m_law_tail T.F_law_tail.kp T.b_law_tail (ja_c rfl (B.jvar 6 rfl vis_law_places_6 dbg_law_end cdc_law_end) (ja_c rfl (je_sl (B.jvar 1 rfl vis_law_places_1 dbg_law_order_here cdc_law_order_here) jo_none (jo_some (je_add (B.jvar 4 rfl vis_law_places_4 dbg_law_k cdc_law_k) je_int))) ja_nil))))))))) (jb_one (js_ret (B.jvar 2 rfl vis_law_places_2 dbg_law_found cdc_law_found))))))
theorem ok_law_places (T : Tx K mg) : FnOk P w K mg base (CXW P w) 2 T.a_law_places T.d_law_places ["_law_blocks", "_law_order_here"] (spM K mg 2 (fM b_law_places 7 2)) := fun_ilT rfl rfl T.F_law_places sc_law_places fun {X} h1 h2 h3 h4 h5 B hF hsc => by subst h3 h4; exact body_law_places T B hF hsc
theorem sc_law_due : FnScope ["_law_blocks", "_law_order_here", "_law_places_here", "_law_found", "_law_k", "_law_rows", "_law_end"] ["_law_blocks"] (defScope s_law_due) := ⟨rfl, rfl, rfl, by decide +kernel, rfl, by decide +kernel, by decide +kernel⟩
theorem body_law_due {X : Cx} (T : Tx X.K X.mg) (B : Bd X ["_law_blocks", "_law_order_here", "_law_places_here", "_law_found", "_law_k", "_law_rows", "_law_end"] (defScope s_law_due) 2) (hF : TopF X) (hsc : X.env.scope = defScope s_law_due) : JB X (defBody s_law_due) b_law_due := (jb_cons (B.jset 1 rfl loc_law_due_1 rfl (je_cal rfl (by decide +kernel) (ok_law_order T) fM_len (B.room.mono (by decide)) (B.gl _ gl_law_due_law_order) T.m_law_order T.F_law_order.kp T.b_law_order (ja_c rfl (B.jvar 0 rfl vis_law_due_0 dbg_law_blocks cdc_law_blocks) ja_nil))) (jb_cons (B.jset 2 rfl loc_law_due_2 rfl (je_cal rfl (by decide +kernel) (ok_law_places T) fM_len (B.room.mono (by decide)) (B.gl _ gl_law_due_law_places) T.m_law_places T.F_law_places.kp T.b_law_places (ja_c rfl (B.jvar 0 rfl vis_law_due_0 dbg_law_blocks cdc_law_blocks) (ja_c rfl (B.jvar 1 rfl vis_law_due_1 dbg_law_order_here cdc_law_order_here) ja_nil)))) (jb_cons (B.jset 3 rfl loc_law_due_3 rfl (je_lst ja_nil)) (jb_cons (B.jfor (ji_range1 (B.gl _ gl_law_due_range) T.n_range rfl (ja_c rfl (je_blt rfl (by decide +kernel) (by decide +kernel) call_lenW lenW_i (B.gl _ gl_law_due_len) T.n_len PySem.boot_len (ja_c rfl (B.jvar 1 rfl vis_law_due_1 dbg_law_order_here cdc_law_order_here) ja_nil)) ja_nil)) (B.jname 4 rfl loc_law_due_4) (jb_cons (js_asg (B.je_ixV (by intro _ _; rfl) (B.jvar 0 rfl vis_law_due_0 dbg_law_blocks cdc_law_blocks) (B.je_ixV (by intro _ _; rfl) (B.jvar 1 rfl vis_law_due_1 dbg_law_order_here cdc_law_order_here) (B.jvar 4 rfl vis_law_due_4 dbg_law_k cdc_law_k))) (jg_tup B.calm (jgs_cons (B.jname 5 rfl loc_law_due_5) (jgs_cons (B.jname 6 rfl loc_law_due_6) jgs_nil)))) (jb_cons (B.jset 3 rfl loc_law_due_3 rfl (je_add (B.jvar 3 rfl vis_law_due_3 dbg_law_found cdc_law_found) (B.jvar 5 rfl vis_law_due_5 dbg_law_rows cdc_law_rows))) (jb_cons (js_if (jt_cmp B.eq (B.je_ixV (by intro _ _; rfl) (B.jvar 6 rfl vis_law_due_6 dbg_law_end cdc_law_end) je_int) je_str) (jb_one (js_expr rfl (je_mth rfl rfl PySem.F.plainAttrs_list PySem.F.slot_list_append PySem.F.type_list_append mt_append isL_i appendW_i (B.jvar 3 rfl vis_law_due_3 dbg_law_found cdc_law_found) (ja_c rfl (je_tup (ja_c rfl je_str ja_nil)) ja_nil)))) jb_nil) (jb_cons (js_if (jt_cmp B.eq (B.je_ixV (by intro _ _; rfl) (B.jvar 6 rfl vis_law_due_6 dbg_law_end cdc_law_end) je_int) je_str) (jb_one (js_expr rfl (je_mth rfl rfl PySem.F.plainAttrs_list PySem.F.slot_list_append PySem.F.type_list_append mt_append isL_i appendW_i (B.jvar 3 rfl vis_law_due_3 dbg_law_found cdc_law_found) (ja_c rfl (je_tup (ja_c rfl je_str (ja_c rfl (B.je_ixV (by intro _ _; rfl) (B.jvar 6 rfl vis_law_due_6 dbg_law_end cdc_law_end) je_int) (ja_c rfl (B.je_ixV (by intro _ _; rfl) (B.jvar 2 rfl vis_law_due_2 dbg_law_places_here cdc_law_places_here) (B.je_ixV (by intro _ _; rfl) (B.jvar 6 rfl vis_law_due_6 dbg_law_end cdc_law_end) je_int)) ja_nil)))) ja_nil)))) jb_nil) (jb_one (js_if (jt_w (jw_and (jt_cmp B.ne (B.je_ixV (by intro _ _; rfl) (B.jvar 6 rfl vis_law_due_6 dbg_law_end cdc_law_end) je_int) je_str) (jw_one (jt_cmp (B.inV_ (by with_unfolding_all rfl)) (B.je_ixV (by intro _ _; rfl) (B.jvar 6 rfl vis_law_due_6 dbg_law_end cdc_law_end) (je_neg je_int)) (je_sl (B.jvar 1 rfl vis_law_due_1 dbg_law_order_here cdc_law_order_here) jo_none (jo_some (je_add (B.jvar 4 rfl vis_law_due_4 dbg_law_k cdc_law_k) je_int))))))) (jb_one (js_expr rfl (je_mth rfl rfl PySem.F.plainAttrs_list PySem.F.slot_list_append PySem.F.type_list_append mt_append isL_i appendW_i (B.jvar 3 rfl vis_law_due_3 dbg_law_found cdc_law_found) (ja_c rfl (je_tup (ja_c rfl je_str (ja_c rfl (B.je_ixV (by intro _ _; rfl) (B.jvar 2 rfl vis_law_due_2 dbg_law_places_here cdc_law_places_here) (B.je_ixV (by intro _ _; rfl) (B.jvar 6 rfl vis_law_due_6 dbg_law_end cdc_law_end) (je_neg je_int))) ja_nil))) ja_nil)))) jb_nil))))))) (jb_one (js_ret (B.jvar 3 rfl vis_law_due_3 dbg_law_found cdc_law_found)))))))
theorem ok_law_due (T : Tx K mg) : FnOk P w K mg base (CXW P w) 3 T.a_law_due T.d_law_due ["_law_blocks"] (spM K mg 1 (fM b_law_due 7 1)) := fun_ilT rfl rfl T.F_law_due sc_law_due fun {X} h1 h2 h3 h4 h5 B hF hsc => by subst h3 h4; exact body_law_due T B hF hsc
theorem sc_straight_behind : FnScope ["end"] ["end"] (defScope s_straight_behind) := ⟨rfl, rfl, rfl, by decide +kernel, rfl, by decide +kernel, by decide +kernel⟩
theorem body_straight_behind {X : Cx} (T : Tx X.K X.mg) (B : Bd X ["end"] (defScope s_straight_behind) 0) (hF : TopF X) (hsc : X.env.scope = defScope s_straight_behind) : JB X (defBody s_straight_behind) b_straight_behind := (jb_cons (js_if (jt_cmp B.eq (B.je_ixV (by intro _ _; rfl) (B.jvar 0 rfl vis_straight_behind_0 dbg_end cdc_end) je_int) je_str) (jb_one (js_ret (B.je_ixV (by intro _ _; rfl) (B.jvar 0 rfl vis_straight_behind_0 dbg_end cdc_end) je_int))) jb_nil) (jb_cons (js_if (jt_cmp B.eq (B.je_ixV (by intro _ _; rfl) (B.jvar 0 rfl vis_straight_behind_0 dbg_end cdc_end) je_int) je_str) (jb_one (js_ret (B.je_ixV (by intro _ _; rfl) (B.jvar 0 rfl vis_straight_behind_0 dbg_end cdc_end) je_int))) jb_nil) (jb_one (js_ret je_non))))
theorem ok_straight_behind (T : Tx K mg) : FnOk P w K mg base (CXW P w) 1 T.a_straight_behind T.d_straight_behind ["end"] (spM K mg 1 (fM b_straight_behind 1 1)) := fun_ilT rfl rfl T.F_straight_behind sc_straight_behind fun {X} h1 h2 h3 h4 h5 B hF hsc => by subst h3 h4; exact body_straight_behind T B hF hsc
theorem sc_rows_for_end : FnScope ["end", "places", "rows"] ["end", "places"] (defScope s_rows_for_end) := ⟨rfl, rfl, rfl, by decide +kernel, rfl, by decide +kernel, by decide +kernel⟩
theorem body_rows_for_end {X : Cx} (T : Tx X.K X.mg) (B : Bd X ["end", "places", "rows"] (defScope s_rows_for_end) 1) (hF : TopF X) (hsc : X.env.scope = defScope s_rows_for_end) : JB X (defBody s_rows_for_end) b_rows_for_end := (jb_cons (B.jset 2 rfl loc_rows_for_end_2 rfl (je_lst ja_nil)) (jb_cons (js_if (jt_cmp B.eq (B.je_ixV (by intro _ _; rfl) (B.jvar 0 rfl vis_rows_for_end_0 dbg_end cdc_end) je_int) je_str) (jb_one (js_expr rfl (je_mth rfl rfl PySem.F.plainAttrs_list PySem.F.slot_list_append PySem.F.type_list_append mt_append isL_i appendW_i (B.jvar 2 rfl vis_rows_for_end_2 dbg_rows cdc_rows) (ja_c rfl (je_tup (ja_c rfl je_str (ja_c rfl (B.je_ixV (by intro _ _; rfl) (B.jvar 0 rfl vis_rows_for_end_0 dbg_end cdc_end) je_int) (ja_c rfl (B.je_ixV (by intro _ _; rfl) (B.jvar 0 rfl vis_rows_for_end_0 dbg_end cdc_end) je_int) ja_nil)))) ja_nil)))) jb_nil) (jb_cons (js_if (jt_cmp B.eq (B.je_ixV (by intro _ _; rfl) (B.jvar 0 rfl vis_rows_for_end_0 dbg_end cdc_end) je_int) je_str) (jb_one (js_expr rfl (je_mth rfl rfl PySem.F.plainAttrs_list PySem.F.slot_list_append PySem.F.type_list_append mt_append isL_i appendW_i (B.jvar 2 rfl vis_rows_for_end_2 dbg_rows cdc_rows) (ja_c rfl (B.jvar 0 rfl vis_rows_for_end_0 dbg_end cdc_end) ja_nil)))) (jb_one (js_if (jt_cmp (B.inV_ (by with_unfolding_all rfl)) (je_cal rfl (by decide +kernel) (ok_straight_behind T) fM_len (B.room.mono (by decide)) (B.gl _ gl_rows_for_end_straight_behind) T.m_straight_behind T.F_straight_behind.kp T.b_straight_behind (ja_c rfl (B.jvar 0 rfl vis_rows_for_end_0 dbg_end cdc_end) ja_nil)) (B.jvar 1 rfl vis_rows_for_end_1 dbg_places cdc_places)) (jb_one (js_expr rfl (je_mth rfl rfl PySem.F.plainAttrs_list PySem.F.slot_list_append PySem.F.type_list_append mt_append isL_i appendW_i (B.jvar 2 rfl vis_rows_for_end_2 dbg_rows cdc_rows) (ja_c rfl (je_tup (ja_c rfl je_str (ja_c rfl (je_cal rfl (by decide +kernel) (ok_straight_behind T) fM_len (B.room.mono (by decide)) (B.gl _ gl_rows_for_end_straight_behind) T.m_straight_behind T.F_straight_behind.kp T.b_straight_behind (ja_c rfl (B.jvar 0 rfl vis_rows_for_end_0 dbg_end cdc_end) ja_nil)) ja_nil))) ja_nil)))) jb_nil))) (jb_one (js_ret (B.jvar 2 rfl vis_rows_for_end_2 dbg_rows cdc_rows))))))
theorem ok_rows_for_end (T : Tx K mg) : FnOk P w K mg base (CXW P w) 2 T.a_rows_for_end T.d_rows_for_end ["end", "places"] (spM K mg 2 (fM b_rows_for_end 3 2)) := fun_ilT rfl rfl T.F_rows_for_end sc_rows_for_end fun {X} h1 h2 h3 h4 h5 B hF hsc => by subst h3 h4; exact body_rows_for_end T B hF hsc
theorem sc_least_not_laid : FnScope ["blocks", "places", "number"] ["blocks", "places"] (defScope s_least_not_laid) := ⟨rfl, rfl, rfl, by decide +kernel, rfl, by decide +kernel, by decide +kernel⟩
theorem body_least_not_laid {X : Cx} (T : Tx X.K X.mg) (B : Bd X ["blocks", "places", "number"] (defScope s_least_not_laid) 0) (hF : TopF X) (hsc : X.env.scope = defScope s_least_not_laid) : JB X (defBody s_least_not_laid) b_least_not_laid := (jb_cons (B.jfor (ji_range1 (B.gl _ gl_least_not_laid_range) T.n_range rfl (ja_c rfl (je_blt rfl (by decide +kernel) (by decide +kernel) call_lenW lenW_i (B.gl _ gl_least_not_laid_len) T.n_len PySem.boot_len (ja_c rfl (B.jvar 0 rfl vis_least_not_laid_0 dbg_blocks cdc_blocks) ja_nil)) ja_nil)) (B.jname 2 rfl loc_least_not_laid_2) (jb_one (js_if (jt_cmp (B.ninV_ (by with_unfolding_all rfl)) (B.jvar 2 rfl vis_least_not_laid_2 dbg_number cdc_number) (B.jvar 1 rfl vis_least_not_laid_1 dbg_places cdc_places)) (jb_one (js_ret (B.jvar 2 rfl vis_least_not_laid_2 dbg_number cdc_number))) jb_nil))) (jb_one (js_ret je_non)))
theorem ok_least_not_laid (T : Tx K mg) : FnOk P w K mg base (CXW P w) 1 T.a_least_not_laid T.d_least_not_laid ["blocks", "places"] (spM K mg 2 (fM b_least_not_laid 3 2)) := fun_ilT rfl rfl T.F_least_not_laid sc_least_not_laid fun {X} h1 h2 h3 h4 h5 B hF hsc => by subst h3 h4; exact body_least_not_laid T B hF hsc
theorem sc_by_place : FnScope ["row", "places"] ["row", "places"] (defScope s_by_place) := ⟨rfl, rfl, rfl, by decide +kernel, rfl, by decide +kernel, by decide +kernel⟩
theorem body_by_place {X : Cx} (T : Tx X.K X.mg) (B : Bd X ["row", "places"] (defScope s_by_place) 0) (hF : TopF X) (hsc : X.env.scope = defScope s_by_place) : JB X (defBody s_by_place) b_by_place := (jb_cons (js_if (jt_cmp B.eq (B.je_ixV (by intro _ _; rfl) (B.jvar 0 rfl vis_by_place_0 dbg_row cdc_row) je_int) je_str) (jb_one (js_ret (je_tup (ja_c rfl je_str (ja_c rfl (B.je_ixV (by intro _ _; rfl) (B.jvar 1 rfl vis_by_place_1 dbg_places cdc_places) (B.je_ixV (by intro _ _; rfl) (B.jvar 0 rfl vis_by_place_0 dbg_row cdc_row) je_int)) ja_nil))))) jb_nil) (jb_cons (js_if (jt_cmp B.eq (B.je_ixV (by intro _ _; rfl) (B.jvar 0 rfl vis_by_place_0 dbg_row cdc_row) je_int) je_str) (jb_one (js_ret (je_tup (ja_c rfl je_str (ja_c rfl (B.je_ixV (by intro _ _; rfl) (B.jvar 0 rfl vis_by_place_0 dbg_row cdc_row) je_int) (ja_c rfl (B.je_ixV (by intro _ _; rfl) (B.jvar 1 rfl vis_by_place_1 dbg_places cdc_places) (B.je_ixV (by intro _ _; rfl) (B.jvar 0 rfl vis_by_place_0 dbg_row cdc_row) je_int)) ja_nil)))))) jb_nil) (jb_one (js_ret (B.jvar 0 rfl vis_by_place_0 dbg_row cdc_row)))))
theorem ok_by_place (T : Tx K mg) : FnOk P w K mg base (CXW P w) 1 T.a_by_place T.d_by_place ["row", "places"] (spM K mg 2 (fM b_by_place 2 2)) := fun_ilT rfl rfl T.F_by_place sc_by_place fun {X} h1 h2 h3 h4 h5 B hF hsc => by subst h3 h4; exact body_by_place T B hF hsc
theorem sc_laid : FnScope ["blocks", "places", "rows", "number", "end"] ["blocks"] (defScope s_laid) := ⟨rfl, rfl, rfl, by decide +kernel, rfl, by decide +kernel, by decide +kernel⟩
theorem body_laid {X : Cx} (T : Tx X.K X.mg) (B : Bd X ["blocks", "places", "rows", "number", "end"] (defScope s_laid) 2) (hF : TopF X) (hsc : X.env.scope = defScope s_laid) : JB X (defBody s_laid) b_laid := (jb_cons (B.jset 1 rfl loc_laid_1 rfl je_dct) (jb_cons (B.jset 2 rfl loc_laid_2 rfl (je_lst ja_nil)) (jb_cons (B.jset 3 rfl loc_laid_3 rfl je_int) (jb_cons (B.jwhile (jt_cmp cp_isn (B.jvar 3 rfl vis_laid_3 dbg_number cdc_number) je_non) (jb_cons (js_asg (je_blt rfl (by decide +kernel) (by decide +kernel) call_lenW lenW_i (B.gl _ gl_laid_len) T.n_len PySem.boot_len (ja_c rfl (B.jvar 2 rfl vis_laid_2 dbg_rows cdc_rows) ja_nil)) (B.jg_subV (B.jvar 1 rfl vis_laid_1 dbg_places cdc_places) (B.jvar 3 rfl vis_laid_3 dbg_number cdc_number))) (jb_cons (B.jset 4 rfl loc_laid_4 rfl (B.je_ixV (by intro _ _; rfl) (B.je_ixV (by intro _ _; rfl) (B.jvar 0 rfl vis_laid_0 dbg_blocks cdc_blocks) (B.jvar 3 rfl vis_laid_3 dbg_number cdc_number)) je_int)) (jb_cons (js_expr rfl (je_mth rfl rfl PySem.F.plainAttrs_list PySem.F.slot_list_extend PySem.F.type_list_extend mt_extend isL_i extendW_i (B.jvar 2 rfl vis_laid_2 dbg_rows cdc_rows) (ja_c rfl (B.je_ixV (by intro _ _; rfl) (B.je_ixV (by intro _ _; rfl) (B.jvar 0 rfl vis_laid_0 dbg_blocks cdc_blocks) (B.jvar 3 rfl vis_laid_3 dbg_number cdc_number)) je_int) ja_nil))) (jb_cons (js_expr rfl (je_mth rfl rfl PySem.F.plainAttrs_list PySem.F.slot_list_extend PySem.F.type_list_extend mt_extend isL_i extendW_i (B.jvar 2 rfl vis_laid_2 dbg_rows cdc_rows) (ja_c rfl (je_cal rfl (by decide +kernel) (ok_rows_for_end T) fM_len (B.room.mono (by decide)) (B.gl _ gl_laid_rows_for_end) T.m_rows_for_end T.F_rows_for_end.kp T.b_rows_for_end (ja_c rfl (B.jvar 4 rfl vis_laid_4 dbg_end cdc_end) (ja_c rfl (B.jvar 1 rfl vis_laid_1 dbg_places cdc_places) ja_nil))) ja_nil))) (jb_cons (B.jset 3 rfl loc_laid_3 rfl (je_cal rfl (by decide +kernel) (ok_straight_behind T) fM_len (B.room.mono (by decide)) (B.gl _ gl_laid_straight_behind) T.m_straight_behind T.F_straight_behind.kp T.b_straight_behind (ja_c rfl (B.jvar 4 rfl vis_laid_4 dbg_end cdc_end) ja_nil))) (jb_one (js_if (jt_w (jw_or (jt_cmp cp_is (B.jvar 3 rfl vis_laid_3 dbg_number cdc_number) je_non) (jw_one (jt_cmp (B.inV_ (by with_unfolding_all rfl)) (B.jvar 3 rfl vis_laid_3 dbg_number cdc_number) (B.jvar 1 rfl vis_laid_1 dbg_places cdc_places))))) (jb_one (B.jset 3 rfl loc_laid_3 rfl (je_cal rfl (by decide +kernel) (ok_least_not_laid T) fM_len (B.room.mono (by decide)) (B.gl _ gl_laid_least_not_laid) T.m_least_not_laid T.F_least_not_laid.kp T.b_least_not_laid (ja_c rfl (B.jvar 0 rfl vis_laid_0 dbg_blocks cdc_blocks) (ja_c rfl (B.jvar 1 rfl vis_laid_1 dbg_places cdc_places) ja_nil))))) jb_nil)))))))) (jb_one (js_ret (je_comp B.calm (N' := ["row", "places"]) (Bd.cap B.hN hsc (by decide +kernel)) (ji_both (B.jvar 2 rfl vis_laid_2 dbg_rows cdc_rows)) (blkG B T (by decide +kernel) (by decide +kernel) fun {X} B T => (B.jname 0 rfl (.inl rfl))) (blkF B T (by decide +kernel) (by decide +kernel) fun {X} B T => jf_nil) (blkE B T (by decide +kernel) (by decide +kernel) fun {X} B T => (je_cal rfl (by decide +kernel) (ok_by_place T) fM_len (B.room.mono (by decide)) (B.gl _ rfl) T.m_by_place T.F_by_place.kp T.b_by_place (ja_c rfl (B.jvar 0 rfl (.inl rfl) dbg_row cdc_row) (ja_c rfl (B.jvar 1 rfl (.inr (.inr rfl)) dbg_places cdc_places) ja_nil)))))))))))
theorem ok_laid (T : Tx K mg) : FnOk P w K mg base (CXW P w) 3 T.a_laid T.d_laid ["blocks"] (spM K mg 1 (fM b_laid 5 1)) := fun_ilT rfl rfl T.F_laid sc_laid fun {X} h1 h2 h3 h4 h5 B hF hsc => by subst h3 h4; exact body_laid T B hF hsc
theorem sc_law_right : FnScope ["_law_found", "_law_due_here", "_law_row"] ["_law_found", "_law_due_here"] (defScope s_law_right) := ⟨rfl, rfl, rfl, by decide +kernel, rfl, by decide +kernel, by decide +kernel⟩
theorem body_law_right {X : Cx} (T : Tx X.K X.mg) (B : Bd X ["_law_found", "_law_due_here", "_law_row"] (defScope s_law_right) 0) (hF : TopF X) (hsc : X.env.scope = defScope s_law_right) : JB X (defBody s_law_right) b_law_right := (jb_cons (js_if (jt_w (jw_or (jt_not (jt_tru rfl (je_is kits_list PyProof.Rows.boot_list (by decide +kernel) (by decide +kernel) rfl (B.gl _ gl_law_right_isinstance) T.n_isinstance (B.gl _ gl_law_right_list) T.n_list (B.jvar 0 rfl vis_law_right_0 dbg_law_found cdc_law_found)))) (jw_one (jt_cmp B.ne (B.jvar 0 rfl vis_law_right_0 dbg_law_found cdc_law_found) (B.jvar 1 rfl vis_law_right_1 dbg_law_due_here cdc_law_due_here))))) (jb_one (js_ret je_bl)) jb_nil) (jb_cons (B.jfor (ji_both (B.jvar 0 rfl vis_law_right_0 dbg_law_found cdc_law_found)) (B.jname 2 rfl loc_law_right_2) (jb_cons (js_if (jt_not (jt_tru rfl (je_is kits_tuple PyProof.Rows.boot_tuple (by decide +kernel) (by decide +kernel) rfl (B.gl _ gl_law_right_isinstance) T.n_isinstance (B.gl _ gl_law_right_tuple) T.n_tuple (B.jvar 2 rfl vis_law_right_2 dbg_law_row cdc_law_row)))) (jb_one (js_ret je_bl)) jb_nil) (jb_one (js_if (jt_w (jw_and (jt_cmp (B.inV_ (by with_unfolding_all rfl)) (B.je_ixV (by intro _ _; rfl) (B.jvar 2 rfl vis_law_right_2 dbg_law_row cdc_law_row) je_int) (je_tup (ja_c rfl je_str (ja_c rfl je_str ja_nil)))) (jw_one (jt_tru rfl (je_is kits_bool PyProof.Rows.boot_bool (by decide +kernel) (by decide +kernel) rfl (B.gl _ gl_law_right_isinstance) T.n_isinstance (B.gl _ gl_law_right_bool) T.n_bool (B.je_ixV (by intro _ _; rfl) (B.jvar 2 rfl vis_law_right_2 dbg_law_row cdc_law_row) (je_neg je_int))))))) (jb_one (js_ret je_bl)) jb_nil)))) (jb_one (js_ret je_bl))))
theorem ok_law_right (T : Tx K mg) : FnOk P w K mg base (CXW P w) 1 T.a_law_right T.d_law_right ["_law_found", "_law_due_here"] (spM K mg 2 (fM b_law_right 3 2)) := fun_ilT rfl rfl T.F_law_right sc_law_right fun {X} h1 h2 h3 h4 h5 B hF hsc => by subst h3 h4; exact body_law_right T B hF hsc
theorem sc_law : FnScope ["_law_script", "_law_many", "_law_boxes", "_law_blocks", "_law_more", "_law_handed", "_law_due_here", "_law_first"] ["_law_script"] (defScope s_law) := ⟨rfl, rfl, rfl, by decide +kernel, rfl, by decide +kernel, by decide +kernel⟩
theorem body_law {X : Cx} (T : Tx X.K X.mg) (B : Bd X ["_law_script", "_law_many", "_law_boxes", "_law_blocks", "_law_more", "_law_handed", "_law_due_here", "_law_first"] (defScope s_law) 3) (hF : TopF X) (hsc : X.env.scope = defScope s_law) : JB X (defBody s_law) b_law := (jb_cons (B.jset 1 rfl loc_law_1 rfl (je_add je_int (je_mod (je_cal rfl (by decide +kernel) (ok_law_cell_at T) fM_len (B.room.mono (by decide)) (B.gl _ gl_law_law_cell_at) T.m_law_cell_at T.F_law_cell_at.kp T.b_law_cell_at (ja_c rfl (B.jvar 0 rfl vis_law_0 dbg_law_script cdc_law_script) (ja_c rfl je_int ja_nil))) je_int))) (jb_cons (js_if (jt_cmp B.eq (je_mod (je_div (je_cal rfl (by decide +kernel) (ok_law_cell_at T) fM_len (B.room.mono (by decide)) (B.gl _ gl_law_law_cell_at) T.m_law_cell_at T.F_law_cell_at.kp T.b_law_cell_at (ja_c rfl (B.jvar 0 rfl vis_law_0 dbg_law_script cdc_law_script) (ja_c rfl je_int ja_nil))) je_int) je_int) je_int) (jb_one (B.jset 1 rfl loc_law_1 rfl (je_add je_int (je_mod (je_div (je_cal rfl (by decide +kernel) (ok_law_cell_at T) fM_len (B.room.mono (by decide)) (B.gl _ gl_law_law_cell_at) T.m_law_cell_at T.F_law_cell_at.kp T.b_law_cell_at (ja_c rfl (B.jvar 0 rfl vis_law_0 dbg_law_script cdc_law_script) (ja_c rfl je_int ja_nil))) je_int) je_int)))) jb_nil) (jb_cons (B.jset 2 rfl loc_law_2 rfl (je_add je_int (je_mod (je_cal rfl (by decide +kernel) (ok_law_cell_at T) fM_len (B.room.mono (by decide)) (B.gl _ gl_law_law_cell_at) T.m_law_cell_at T.F_law_cell_at.kp T.b_law_cell_at (ja_c rfl (B.jvar 0 rfl vis_law_0 dbg_law_script cdc_law_script) (ja_c rfl je_int ja_nil))) je_int))) (jb_cons (B.jset 3 rfl loc_law_3 rfl (je_cal rfl (by decide +kernel) (ok_law_blocks_by T) fM_len (B.room.mono (by decide)) (B.gl _ gl_law_law_blocks_by) T.m_law_blocks_by T.F_law_blocks_by.kp T.b_law_blocks_by (ja_c rfl (B.jvar 0 rfl vis_law_0 dbg_law_script cdc_law_script) (ja_c rfl je_int (ja_c rfl (B.jvar 1 rfl vis_law_1 dbg_law_many cdc_law_many) (ja_c rfl (B.jvar 2 rfl vis_law_2 dbg_law_boxes cdc_law_boxes) (ja_c rfl (je_add je_int (je_mod (je_div (je_cal rfl (by decide +kernel) (ok_law_cell_at T) fM_len (B.room.mono (by decide)) (B.gl _ gl_law_law_cell_at) T.m_law_cell_at T.F_law_cell_at.kp T.b_law_cell_at (ja_c rfl (B.jvar 0 rfl vis_law_0 dbg_law_script cdc_law_script) (ja_c rfl je_int ja_nil))) je_int) je_int)) ja_nil))))))) (jb_cons (js_if (jt_cmp B.eq (je_mod (je_div (je_cal rfl (by decide +kernel) (ok_law_cell_at T) fM_len (B.room.mono (by decide)) (B.gl _ gl_law_law_cell_at) T.m_law_cell_at T.F_law_cell_at.kp T.b_law_cell_at (ja_c rfl (B.jvar 0 rfl vis_law_0 dbg_law_script cdc_law_script) (ja_c rfl je_int ja_nil))) je_int) je_int) je_int) (jb_cons (B.jset 4 rfl loc_law_4 rfl (je_div (je_cal rfl (by decide +kernel) (ok_law_cell_at T) fM_len (B.room.mono (by decide)) (B.gl _ gl_law_law_cell_at) T.m_law_cell_at T.F_law_cell_at.kp T.b_law_cell_at (ja_c rfl (B.jvar 0 rfl vis_law_0 dbg_law_script cdc_law_script) (ja_c rfl je_int ja_nil))) je_int)) (jb_one (B.jsetC 3 rfl loc_law_3 (by rw [hsc]; decide +kernel) (je_comp B.calm (N' := ["_law_k", "_law_many", "_law_blocks", "_law_more"]) (Bd.cap B.hN hsc (by decide +kernel)) (ji_range1 (B.gl _ gl_law_range) T.n_range rfl (ja_c rfl (B.jvar 1 rfl vis_law_1 dbg_law_many cdc_law_many) ja_nil)) (blkG B T (by decide +kernel) (by decide +kernel) fun {X} B T => (B.jname 0 rfl (.inl rfl))) (blkF B T (by decide +kernel) (by decide +kernel) fun {X} B T => jf_nil) (blkE B T (by decide +kernel) (by decide +kernel) fun {X} B T => (je_tup (ja_c rfl (B.je_ixV (by intro _ _; rfl) (B.je_ixV (by intro _ _; rfl) (B.jvar 2 rfl (.inr (.inr rfl)) dbg_law_blocks cdc_law_blocks) (B.jvar 0 rfl (.inl rfl) dbg_law_k cdc_law_k)) je_int) (ja_c rfl (je_cal rfl (by decide +kernel) (ok_law_any_end T) fM_len (B.room.mono (by decide)) (B.gl _ rfl) T.m_law_any_end T.F_law_any_end.kp T.b_law_any_end (ja_c rfl (B.je_ixV (by intro _ _; rfl) (B.je_ixV (by intro _ _; rfl) (B.jvar 2 rfl (.inr (.inr rfl)) dbg_law_blocks cdc_law_blocks) (B.jvar 0 rfl (.inl rfl) dbg_law_k cdc_law_k)) je_int) (ja_c rfl (je_add (je_div (B.jvar 3 rfl (.inr (.inr rfl)) dbg_law_more cdc_law_more) (je_add (B.jvar 0 rfl (.inl rfl) dbg_law_k cdc_law_k) je_int)) (B.jvar 0 rfl (.inl rfl) dbg_law_k cdc_law_k)) (ja_c rfl (B.jvar 1 rfl (.inr (.inr rfl)) dbg_law_many cdc_law_many) ja_nil)))) ja_nil)))))))) jb_nil) (jb_cons (js_comp (i := 5) (by rw [B.hN]; exact B.nd) (by rw [B.hN]; rfl) (by rw [hsc]; decide +kernel) B.calm (N' := ["_law_rows", "_law_end"]) (Bd.cap B.hN hsc (by decide +kernel)) (ji_both (B.jvar 3 rfl vis_law_3 dbg_law_blocks cdc_law_blocks)) (blkG B T (by decide +kernel) (by decide +kernel) fun {X} B T => (jg_tup B.calm (jgs_cons (B.jname 0 rfl (.inl rfl)) (jgs_cons (B.jname 1 rfl (.inl rfl)) jgs_nil)))) (blkF B T (by decide +kernel) (by decide +kernel) fun {X} B T => jf_nil) (blkE B T (by decide +kernel) (by decide +kernel) fun {X} B T => (je_tup (ja_c rfl (je_typ rfl (by decide +kernel) (by decide +kernel) call_list_of listW_i (B.gl _ rfl) T.n_list PyProof.Rows.boot_list (ja_c rfl (B.jvar 0 rfl (.inl rfl) dbg_law_rows cdc_law_rows) ja_nil)) (ja_c rfl (B.jvar 1 rfl (.inl rfl) dbg_law_end cdc_law_end) ja_nil)))) (swaps_yes (by rw [hsc]; rfl) (by rw [hsc]; decide +kernel) rfl (by decide +kernel))) (jb_cons (B.jset 6 rfl loc_law_6 rfl (je_cal rfl (by decide +kernel) (ok_law_due T) fM_len (B.room.mono (by decide)) (B.gl _ gl_law_law_due) T.m_law_due T.F_law_due.kp T.b_law_due (ja_c rfl (B.jvar 3 rfl vis_law_3 dbg_law_blocks cdc_law_blocks) ja_nil))) (jb_cons (B.jset 7 rfl loc_law_7 rfl (je_cal rfl (by decide +kernel) (ok_laid T) fM_len (B.room.mono (by decide)) (B.gl _ gl_law_laid) T.m_laid T.F_laid.kp T.b_laid (ja_c rfl (B.jvar 5 rfl vis_law_5 dbg_law_handed cdc_law_handed) ja_nil))) (jb_cons (js_if (jt_w (jw_or (jt_not (jt_tru rfl (je_cal rfl (by decide +kernel) (ok_law_right T) fM_len (B.room.mono (by decide)) (B.gl _ gl_law_law_right) T.m_law_right T.F_law_right.kp T.b_law_right (ja_c rfl (B.jvar 7 rfl vis_law_7 dbg_law_first cdc_law_first) (ja_c rfl (B.jvar 6 rfl vis_law_6 dbg_law_due_here cdc_law_due_here) ja_nil))))) (jw_one (jt_cmp B.ne (B.jvar 5 rfl vis_law_5 dbg_law_handed cdc_law_handed) (B.jvar 3 rfl vis_law_3 dbg_law_blocks cdc_law_blocks))))) (jb_one (js_ret je_bl)) jb_nil) (jb_cons (js_expr rfl (je_mth0 PySem.F.plainAttrs_list PySem.F.slot_list_clear PySem.F.type_list_clear mt_clear isL_i clearW_i (B.jvar 7 rfl vis_law_7 dbg_law_first cdc_law_first))) (jb_one (js_ret (je_and (je_cal rfl (by decide +kernel) (ok_law_right T) fM_len (B.room.mono (by decide)) (B.gl _ gl_law_law_right) T.m_law_right T.F_law_right.kp T.b_law_right (ja_c rfl (je_cal rfl (by decide +kernel) (ok_laid T) fM_len (B.room.mono (by decide)) (B.gl _ gl_law_laid) T.m_laid T.F_laid.kp T.b_laid (ja_c rfl (B.jvar 5 rfl vis_law_5 dbg_law_handed cdc_law_handed) ja_nil)) (ja_c rfl (B.jvar 6 rfl vis_law_6 dbg_law_due_here cdc_law_due_here) ja_nil))) (je_and (je_cmp B.eq (B.jvar 7 rfl vis_law_7 dbg_law_first cdc_law_first) (je_lst ja_nil)) (je_one (je_cmp B.eq (B.jvar 5 rfl vis_law_5 dbg_law_handed cdc_law_handed) (B.jvar 3 rfl vis_law_3 dbg_law_blocks cdc_law_blocks)))))))))))))))))
theorem ok_law (T : Tx K mg) : FnOk P w K mg base (CXW P w) 4 T.a_law T.d_law ["_law_script"] (spM K mg 1 (fM b_law 8 1)) := fun_ilT rfl rfl T.F_law sc_law fun {X} h1 h2 h3 h4 h5 B hF hsc => by subst h3 h4; exact body_law T B hF hsc
end
theorem all_mk {l : PySem.W.OpenLaw} {w : World} {K : PySem.W.Frag} {h : Heap} {mg : Str → Option Value} {fa : Addr} (KX : K.In h) (G : h.Ns mainGlobals mg) (hfa : mg "law" = some (.ref fa))
    {f_law_cell_at_ : Addr} {od_law_cell_at an_law_cell_at : Option Addr} {sl_law_cell_at : Array (Option Value)} {oc_law_cell_at kV_law_cell_at dc_law_cell_at pm_law_cell_at cd_law_cell_at ct_law_cell_at : Value}
    {f_law_number_by_ : Addr} {od_law_number_by an_law_number_by : Option Addr} {sl_law_number_by : Array (Option Value)} {oc_law_number_by kV_law_number_by dc_law_number_by pm_law_number_by cd_law_number_by ct_law_number_by : Value}
    {f_law_row_by_ : Addr} {od_law_row_by an_law_row_by : Option Addr} {sl_law_row_by : Array (Option Value)} {oc_law_row_by kV_law_row_by dc_law_row_by pm_law_row_by cd_law_row_by ct_law_row_by : Value}
    {f_law_goal_by_ : Addr} {od_law_goal_by an_law_goal_by : Option Addr} {sl_law_goal_by : Array (Option Value)} {oc_law_goal_by kV_law_goal_by dc_law_goal_by pm_law_goal_by cd_law_goal_by ct_law_goal_by : Value}
    {f_law_end_by_ : Addr} {od_law_end_by an_law_end_by : Option Addr} {sl_law_end_by : Array (Option Value)} {oc_law_end_by kV_law_end_by dc_law_end_by pm_law_end_by cd_law_end_by ct_law_end_by : Value}
    {f_law_blocks_by_ : Addr} {od_law_blocks_by an_law_blocks_by : Option Addr} {sl_law_blocks_by : Array (Option Value)} {oc_law_blocks_by kV_law_blocks_by dc_law_blocks_by pm_law_blocks_by cd_law_blocks_by ct_law_blocks_by : Value}
    {f_law_any_end_ : Addr} {od_law_any_end an_law_any_end : Option Addr} {sl_law_any_end : Array (Option Value)} {oc_law_any_end kV_law_any_end dc_law_any_end pm_law_any_end cd_law_any_end ct_law_any_end : Value}
    {f_law_order_ : Addr} {od_law_order an_law_order : Option Addr} {sl_law_order : Array (Option Value)} {oc_law_order kV_law_order dc_law_order pm_law_order cd_law_order ct_law_order : Value}
    {f_law_tail_ : Addr} {od_law_tail an_law_tail : Option Addr} {sl_law_tail : Array (Option Value)} {oc_law_tail kV_law_tail dc_law_tail pm_law_tail cd_law_tail ct_law_tail : Value}
    {f_law_places_ : Addr} {od_law_places an_law_places : Option Addr} {sl_law_places : Array (Option Value)} {oc_law_places kV_law_places dc_law_places pm_law_places cd_law_places ct_law_places : Value}
    {f_law_due_ : Addr} {od_law_due an_law_due : Option Addr} {sl_law_due : Array (Option Value)} {oc_law_due kV_law_due dc_law_due pm_law_due cd_law_due ct_law_due : Value}
    {f_straight_behind_ : Addr} {od_straight_behind an_straight_behind : Option Addr} {sl_straight_behind : Array (Option Value)} {oc_straight_behind kV_straight_behind dc_straight_behind pm_straight_behind cd_straight_behind ct_straight_behind : Value}
    {f_rows_for_end_ : Addr} {od_rows_for_end an_rows_for_end : Option Addr} {sl_rows_for_end : Array (Option Value)} {oc_rows_for_end kV_rows_for_end dc_rows_for_end pm_rows_for_end cd_rows_for_end ct_rows_for_end : Value}
    {f_least_not_laid_ : Addr} {od_least_not_laid an_least_not_laid : Option Addr} {sl_least_not_laid : Array (Option Value)} {oc_least_not_laid kV_least_not_laid dc_least_not_laid pm_least_not_laid cd_least_not_laid ct_least_not_laid : Value}
    {f_by_place_ : Addr} {od_by_place an_by_place : Option Addr} {sl_by_place : Array (Option Value)} {oc_by_place kV_by_place dc_by_place pm_by_place cd_by_place ct_by_place : Value}
    {f_laid_ : Addr} {od_laid an_laid : Option Addr} {sl_laid : Array (Option Value)} {oc_laid kV_laid dc_laid pm_laid cd_laid ct_laid : Value}
    {f_law_right_ : Addr} {od_law_right an_law_right : Option Addr} {sl_law_right : Array (Option Value)} {oc_law_right kV_law_right dc_law_right pm_law_right cd_law_right ct_law_right : Value}
    {f_law_ : Addr} {od_law an_law : Option Addr} {sl_law : Array (Option Value)} {oc_law kV_law dc_law pm_law cd_law ct_law : Value}
    (a_law_cell_at : PySem.W.nsIn K mainGlobals "_law_cell_at" = some (some (.ref f_law_cell_at_)))
    (l_law_cell_at : K.lookup f_law_cell_at_ = some ⟨oc_law_cell_at, od_law_cell_at, .func (PySem.W.fnOf "_law_cell_at" "_law_cell_at" (defArgs s_law_cell_at) (defBody s_law_cell_at) (defScope s_law_cell_at) .none kV_law_cell_at dc_law_cell_at pm_law_cell_at an_law_cell_at cd_law_cell_at ct_law_cell_at), sl_law_cell_at⟩)
    (c_law_cell_at : PySem.W.codeIn K cd_law_cell_at "_law_cell_at" = true)
    (k_law_cell_at : PySem.W.keepIn K (.ref f_law_cell_at_) = true)
    (a_law_number_by : PySem.W.nsIn K mainGlobals "_law_number_by" = some (some (.ref f_law_number_by_)))
    (l_law_number_by : K.lookup f_law_number_by_ = some ⟨oc_law_number_by, od_law_number_by, .func (PySem.W.fnOf "_law_number_by" "_law_number_by" (defArgs s_law_number_by) (defBody s_law_number_by) (defScope s_law_number_by) .none kV_law_number_by dc_law_number_by pm_law_number_by an_law_number_by cd_law_number_by ct_law_number_by), sl_law_number_by⟩)
    (c_law_number_by : PySem.W.codeIn K cd_law_number_by "_law_number_by" = true)
    (k_law_number_by : PySem.W.keepIn K (.ref f_law_number_by_) = true)
    (a_law_row_by : PySem.W.nsIn K mainGlobals "_law_row_by" = some (some (.ref f_law_row_by_)))
    (l_law_row_by : K.lookup f_law_row_by_ = some ⟨oc_law_row_by, od_law_row_by, .func (PySem.W.fnOf "_law_row_by" "_law_row_by" (defArgs s_law_row_by) (defBody s_law_row_by) (defScope s_law_row_by) .none kV_law_row_by dc_law_row_by pm_law_row_by an_law_row_by cd_law_row_by ct_law_row_by), sl_law_row_by⟩)
    (c_law_row_by : PySem.W.codeIn K cd_law_row_by "_law_row_by" = true)
    (k_law_row_by : PySem.W.keepIn K (.ref f_law_row_by_) = true)
    (a_law_goal_by : PySem.W.nsIn K mainGlobals "_law_goal_by" = some (some (.ref f_law_goal_by_)))
    (l_law_goal_by : K.lookup f_law_goal_by_ = some ⟨oc_law_goal_by, od_law_goal_by, .func (PySem.W.fnOf "_law_goal_by" "_law_goal_by" (defArgs s_law_goal_by) (defBody s_law_goal_by) (defScope s_law_goal_by) .none kV_law_goal_by dc_law_goal_by pm_law_goal_by an_law_goal_by cd_law_goal_by ct_law_goal_by), sl_law_goal_by⟩)
    (c_law_goal_by : PySem.W.codeIn K cd_law_goal_by "_law_goal_by" = true)
    (k_law_goal_by : PySem.W.keepIn K (.ref f_law_goal_by_) = true)
    (a_law_end_by : PySem.W.nsIn K mainGlobals "_law_end_by" = some (some (.ref f_law_end_by_)))
    (l_law_end_by : K.lookup f_law_end_by_ = some ⟨oc_law_end_by, od_law_end_by, .func (PySem.W.fnOf "_law_end_by" "_law_end_by" (defArgs s_law_end_by) (defBody s_law_end_by) (defScope s_law_end_by) .none kV_law_end_by dc_law_end_by pm_law_end_by an_law_end_by cd_law_end_by ct_law_end_by), sl_law_end_by⟩)
    (c_law_end_by : PySem.W.codeIn K cd_law_end_by "_law_end_by" = true)
    (k_law_end_by : PySem.W.keepIn K (.ref f_law_end_by_) = true)
    (a_law_blocks_by : PySem.W.nsIn K mainGlobals "_law_blocks_by" = some (some (.ref f_law_blocks_by_)))
    (l_law_blocks_by : K.lookup f_law_blocks_by_ = some ⟨oc_law_blocks_by, od_law_blocks_by, .func (PySem.W.fnOf "_law_blocks_by" "_law_blocks_by" (defArgs s_law_blocks_by) (defBody s_law_blocks_by) (defScope s_law_blocks_by) .none kV_law_blocks_by dc_law_blocks_by pm_law_blocks_by an_law_blocks_by cd_law_blocks_by ct_law_blocks_by), sl_law_blocks_by⟩)
    (c_law_blocks_by : PySem.W.codeIn K cd_law_blocks_by "_law_blocks_by" = true)
    (k_law_blocks_by : PySem.W.keepIn K (.ref f_law_blocks_by_) = true)
    (a_law_any_end : PySem.W.nsIn K mainGlobals "_law_any_end" = some (some (.ref f_law_any_end_)))
    (l_law_any_end : K.lookup f_law_any_end_ = some ⟨oc_law_any_end, od_law_any_end, .func (PySem.W.fnOf "_law_any_end" "_law_any_end" (defArgs s_law_any_end) (defBody s_law_any_end) (defScope s_law_any_end) .none kV_law_any_end dc_law_any_end pm_law_any_end an_law_any_end cd_law_any_end ct_law_any_end), sl_law_any_end⟩)
    (c_law_any_end : PySem.W.codeIn K cd_law_any_end "_law_any_end" = true)
    (k_law_any_end : PySem.W.keepIn K (.ref f_law_any_end_) = true)
    (a_law_order : PySem.W.nsIn K mainGlobals "_law_order" = some (some (.ref f_law_order_)))
    (l_law_order : K.lookup f_law_order_ = some ⟨oc_law_order, od_law_order, .func (PySem.W.fnOf "_law_order" "_law_order" (defArgs s_law_order) (defBody s_law_order) (defScope s_law_order) .none kV_law_order dc_law_order pm_law_order an_law_order cd_law_order ct_law_order), sl_law_order⟩)
    (c_law_order : PySem.W.codeIn K cd_law_order "_law_order" = true)
    (k_law_order : PySem.W.keepIn K (.ref f_law_order_) = true)
    (a_law_tail : PySem.W.nsIn K mainGlobals "_law_tail" = some (some (.ref f_law_tail_)))
    (l_law_tail : K.lookup f_law_tail_ = some ⟨oc_law_tail, od_law_tail, .func (PySem.W.fnOf "_law_tail" "_law_tail" (defArgs s_law_tail) (defBody s_law_tail) (defScope s_law_tail) .none kV_law_tail dc_law_tail pm_law_tail an_law_tail cd_law_tail ct_law_tail), sl_law_tail⟩)
    (c_law_tail : PySem.W.codeIn K cd_law_tail "_law_tail" = true)
    (k_law_tail : PySem.W.keepIn K (.ref f_law_tail_) = true)
    (a_law_places : PySem.W.nsIn K mainGlobals "_law_places" = some (some (.ref f_law_places_)))
    (l_law_places : K.lookup f_law_places_ = some ⟨oc_law_places, od_law_places, .func (PySem.W.fnOf "_law_places" "_law_places" (defArgs s_law_places) (defBody s_law_places) (defScope s_law_places) .none kV_law_places dc_law_places pm_law_places an_law_places cd_law_places ct_law_places), sl_law_places⟩)
    (c_law_places : PySem.W.codeIn K cd_law_places "_law_places" = true)
    (k_law_places : PySem.W.keepIn K (.ref f_law_places_) = true)
    (a_law_due : PySem.W.nsIn K mainGlobals "_law_due" = some (some (.ref f_law_due_)))
    (l_law_due : K.lookup f_law_due_ = some ⟨oc_law_due, od_law_due, .func (PySem.W.fnOf "_law_due" "_law_due" (defArgs s_law_due) (defBody s_law_due) (defScope s_law_due) .none kV_law_due dc_law_due pm_law_due an_law_due cd_law_due ct_law_due), sl_law_due⟩)
    (c_law_due : PySem.W.codeIn K cd_law_due "_law_due" = true)
    (k_law_due : PySem.W.keepIn K (.ref f_law_due_) = true)
    (a_straight_behind : PySem.W.nsIn K mainGlobals "straight_behind" = some (some (.ref f_straight_behind_)))
    (l_straight_behind : K.lookup f_straight_behind_ = some ⟨oc_straight_behind, od_straight_behind, .func (PySem.W.fnOf "straight_behind" "straight_behind" (defArgs s_straight_behind) (defBody s_straight_behind) (defScope s_straight_behind) .none kV_straight_behind dc_straight_behind pm_straight_behind an_straight_behind cd_straight_behind ct_straight_behind), sl_straight_behind⟩)
    (c_straight_behind : PySem.W.codeIn K cd_straight_behind "straight_behind" = true)
    (k_straight_behind : PySem.W.keepIn K (.ref f_straight_behind_) = true)
    (a_rows_for_end : PySem.W.nsIn K mainGlobals "rows_for_end" = some (some (.ref f_rows_for_end_)))
    (l_rows_for_end : K.lookup f_rows_for_end_ = some ⟨oc_rows_for_end, od_rows_for_end, .func (PySem.W.fnOf "rows_for_end" "rows_for_end" (defArgs s_rows_for_end) (defBody s_rows_for_end) (defScope s_rows_for_end) .none kV_rows_for_end dc_rows_for_end pm_rows_for_end an_rows_for_end cd_rows_for_end ct_rows_for_end), sl_rows_for_end⟩)
    (c_rows_for_end : PySem.W.codeIn K cd_rows_for_end "rows_for_end" = true)
    (k_rows_for_end : PySem.W.keepIn K (.ref f_rows_for_end_) = true)
    (a_least_not_laid : PySem.W.nsIn K mainGlobals "least_not_laid" = some (some (.ref f_least_not_laid_)))
    (l_least_not_laid : K.lookup f_least_not_laid_ = some ⟨oc_least_not_laid, od_least_not_laid, .func (PySem.W.fnOf "least_not_laid" "least_not_laid" (defArgs s_least_not_laid) (defBody s_least_not_laid) (defScope s_least_not_laid) .none kV_least_not_laid dc_least_not_laid pm_least_not_laid an_least_not_laid cd_least_not_laid ct_least_not_laid), sl_least_not_laid⟩)
    (c_least_not_laid : PySem.W.codeIn K cd_least_not_laid "least_not_laid" = true)
    (k_least_not_laid : PySem.W.keepIn K (.ref f_least_not_laid_) = true)
    (a_by_place : PySem.W.nsIn K mainGlobals "by_place" = some (some (.ref f_by_place_)))
    (l_by_place : K.lookup f_by_place_ = some ⟨oc_by_place, od_by_place, .func (PySem.W.fnOf "by_place" "by_place" (defArgs s_by_place) (defBody s_by_place) (defScope s_by_place) .none kV_by_place dc_by_place pm_by_place an_by_place cd_by_place ct_by_place), sl_by_place⟩)
    (c_by_place : PySem.W.codeIn K cd_by_place "by_place" = true)
    (k_by_place : PySem.W.keepIn K (.ref f_by_place_) = true)
    (a_laid : PySem.W.nsIn K mainGlobals "laid" = some (some (.ref f_laid_)))
    (l_laid : K.lookup f_laid_ = some ⟨oc_laid, od_laid, .func (PySem.W.fnOf "laid" "laid" (defArgs s_laid) (defBody s_laid) (defScope s_laid) .none kV_laid dc_laid pm_laid an_laid cd_laid ct_laid), sl_laid⟩)
    (c_laid : PySem.W.codeIn K cd_laid "laid" = true)
    (k_laid : PySem.W.keepIn K (.ref f_laid_) = true)
    (a_law_right : PySem.W.nsIn K mainGlobals "_law_right" = some (some (.ref f_law_right_)))
    (l_law_right : K.lookup f_law_right_ = some ⟨oc_law_right, od_law_right, .func (PySem.W.fnOf "_law_right" "_law_right" (defArgs s_law_right) (defBody s_law_right) (defScope s_law_right) .none kV_law_right dc_law_right pm_law_right an_law_right cd_law_right ct_law_right), sl_law_right⟩)
    (c_law_right : PySem.W.codeIn K cd_law_right "_law_right" = true)
    (k_law_right : PySem.W.keepIn K (.ref f_law_right_) = true)
    (a_law : PySem.W.nsIn K mainGlobals "law" = some (some (.ref f_law_)))
    (l_law : K.lookup f_law_ = some ⟨oc_law, od_law, .func (PySem.W.fnOf "law" "law" (defArgs s_law) (defBody s_law) (defScope s_law) .none kV_law dc_law pm_law an_law cd_law ct_law), sl_law⟩)
    (c_law : PySem.W.codeIn K cd_law "law" = true)
    (k_law : PySem.W.keepIn K (.ref f_law_) = true)
    (z_bool : PySem.W.nsIn K mainGlobals "bool" = some none)
    (z_int : PySem.W.nsIn K mainGlobals "int" = some none)
    (z_isinstance : PySem.W.nsIn K mainGlobals "isinstance" = some none)
    (z_len : PySem.W.nsIn K mainGlobals "len" = some none)
    (z_list : PySem.W.nsIn K mainGlobals "list" = some none)
    (z_min : PySem.W.nsIn K mainGlobals "min" = some none)
    (z_range : PySem.W.nsIn K mainGlobals "range" = some none)
    (z_tuple : PySem.W.nsIn K mainGlobals "tuple" = some none)
    : ∃ fd : FuncData, (∀ (s : Shared) (v : Value), BindsTo s fd ⟨[v], []⟩ [("_law_script", v)]) ∧ ∀ base : Heap, K.In base → base.Ns mainGlobals mg → FnOk l.prog w K mg base (CXW l.prog w) 4 fa fd ["_law_script"] (spM K mg 1 f_law) := by
  have e := hfa.symm.trans (PySem.W.mg_of KX G a_law)
  cases e
  have F_law_cell_at := fun_mk (st := s_law_cell_at) l_law_cell_at c_law_cell_at k_law_cell_at
  have F_law_number_by := fun_mk (st := s_law_number_by) l_law_number_by c_law_number_by k_law_number_by
  have F_law_row_by := fun_mk (st := s_law_row_by) l_law_row_by c_law_row_by k_law_row_by
  have F_law_goal_by := fun_mk (st := s_law_goal_by) l_law_goal_by c_law_goal_by k_law_goal_by
  have F_law_end_by := fun_mk (st := s_law_end_by) l_law_end_by c_law_end_by k_law_end_by
  have F_law_blocks_by := fun_mk (st := s_law_blocks_by) l_law_blocks_by c_law_blocks_by k_law_blocks_by
  have F_law_any_end := fun_mk (st := s_law_any_end) l_law_any_end c_law_any_end k_law_any_end
  have F_law_order := fun_mk (st := s_law_order) l_law_order c_law_order k_law_order
  have F_law_tail := fun_mk (st := s_law_tail) l_law_tail c_law_tail k_law_tail
  have F_law_places := fun_mk (st := s_law_places) l_law_places c_law_places k_law_places
  have F_law_due := fun_mk (st := s_law_due) l_law_due c_law_due k_law_due
  have F_straight_behind := fun_mk (st := s_straight_behind) l_straight_behind c_straight_behind k_straight_behind
  have F_rows_for_end := fun_mk (st := s_rows_for_end) l_rows_for_end c_rows_for_end k_rows_for_end
  have F_least_not_laid := fun_mk (st := s_least_not_laid) l_least_not_laid c_least_not_laid k_least_not_laid
  have F_by_place := fun_mk (st := s_by_place) l_by_place c_by_place k_by_place
  have F_laid := fun_mk (st := s_laid) l_laid c_laid k_laid
  have F_law_right := fun_mk (st := s_law_right) l_law_right c_law_right k_law_right
  have F_law := fun_mk (st := s_law) l_law c_law k_law
  let T : Tx K mg := {
    a_law_cell_at := f_law_cell_at_, d_law_cell_at := _, F_law_cell_at := F_law_cell_at, m_law_cell_at := PySem.W.mg_of KX G a_law_cell_at, b_law_cell_at := F_law_cell_at.binds (ps := ["_law_script", "_law_k"]) (fun _ _ _ _ _ _ us hl => match us, hl with | [_, _], _ => rfl),
    a_law_number_by := f_law_number_by_, d_law_number_by := _, F_law_number_by := F_law_number_by, m_law_number_by := PySem.W.mg_of KX G a_law_number_by, b_law_number_by := F_law_number_by.binds (ps := ["_law_cell"]) (fun _ _ _ _ _ _ us hl => match us, hl with | [_], _ => rfl),
    a_law_row_by := f_law_row_by_, d_law_row_by := _, F_law_row_by := F_law_row_by, m_law_row_by := PySem.W.mg_of KX G a_law_row_by, b_law_row_by := F_law_row_by.binds (ps := ["_law_cell", "_law_boxes", "_law_slots"]) (fun _ _ _ _ _ _ us hl => match us, hl with | [_, _, _], _ => rfl),
    a_law_goal_by := f_law_goal_by_, d_law_goal_by := _, F_law_goal_by := F_law_goal_by, m_law_goal_by := PySem.W.mg_of KX G a_law_goal_by, b_law_goal_by := F_law_goal_by.binds (ps := ["_law_more", "_law_block", "_law_many", "_law_turning"]) (fun _ _ _ _ _ _ us hl => match us, hl with | [_, _, _, _], _ => rfl),
    a_law_end_by := f_law_end_by_, d_law_end_by := _, F_law_end_by := F_law_end_by, m_law_end_by := PySem.W.mg_of KX G a_law_end_by, b_law_end_by := F_law_end_by.binds (ps := ["_law_cell", "_law_block", "_law_many", "_law_turning", "_law_boxes"]) (fun _ _ _ _ _ _ us hl => match us, hl with | [_, _, _, _, _], _ => rfl),
    a_law_blocks_by := f_law_blocks_by_, d_law_blocks_by := _, F_law_blocks_by := F_law_blocks_by, m_law_blocks_by := PySem.W.mg_of KX G a_law_blocks_by, b_law_blocks_by := F_law_blocks_by.binds (ps := ["_law_script", "_law_first", "_law_many", "_law_boxes", "_law_slots"]) (fun _ _ _ _ _ _ us hl => match us, hl with | [_, _, _, _, _], _ => rfl),
    a_law_any_end := f_law_any_end_, d_law_any_end := _, F_law_any_end := F_law_any_end, m_law_any_end := PySem.W.mg_of KX G a_law_any_end, b_law_any_end := F_law_any_end.binds (ps := ["_law_end", "_law_more", "_law_many"]) (fun _ _ _ _ _ _ us hl => match us, hl with | [_, _, _], _ => rfl),
    a_law_order := f_law_order_, d_law_order := _, F_law_order := F_law_order, m_law_order := PySem.W.mg_of KX G a_law_order, b_law_order := F_law_order.binds (ps := ["_law_blocks"]) (fun _ _ _ _ _ _ us hl => match us, hl with | [_], _ => rfl),
    a_law_tail := f_law_tail_, d_law_tail := _, F_law_tail := F_law_tail, m_law_tail := PySem.W.mg_of KX G a_law_tail, b_law_tail := F_law_tail.binds (ps := ["_law_end", "_law_there"]) (fun _ _ _ _ _ _ us hl => match us, hl with | [_, _], _ => rfl),
    a_law_places := f_law_places_, d_law_places := _, F_law_places := F_law_places, m_law_places := PySem.W.mg_of KX G a_law_places, b_law_places := F_law_places.binds (ps := ["_law_blocks", "_law_order_here"]) (fun _ _ _ _ _ _ us hl => match us, hl with | [_, _], _ => rfl),
    a_law_due := f_law_due_, d_law_due := _, F_law_due := F_law_due, m_law_due := PySem.W.mg_of KX G a_law_due, b_law_due := F_law_due.binds (ps := ["_law_blocks"]) (fun _ _ _ _ _ _ us hl => match us, hl with | [_], _ => rfl),
    a_straight_behind := f_straight_behind_, d_straight_behind := _, F_straight_behind := F_straight_behind, m_straight_behind := PySem.W.mg_of KX G a_straight_behind, b_straight_behind := F_straight_behind.binds (ps := ["end"]) (fun _ _ _ _ _ _ us hl => match us, hl with | [_], _ => rfl),
    a_rows_for_end := f_rows_for_end_, d_rows_for_end := _, F_rows_for_end := F_rows_for_end, m_rows_for_end := PySem.W.mg_of KX G a_rows_for_end, b_rows_for_end := F_rows_for_end.binds (ps := ["end", "places"]) (fun _ _ _ _ _ _ us hl => match us, hl with | [_, _], _ => rfl),
    a_least_not_laid := f_least_not_laid_, d_least_not_laid := _, F_least_not_laid := F_least_not_laid, m_least_not_laid := PySem.W.mg_of KX G a_least_not_laid, b_least_not_laid := F_least_not_laid.binds (ps := ["blocks", "places"]) (fun _ _ _ _ _ _ us hl => match us, hl with | [_, _], _ => rfl),
    a_by_place := f_by_place_, d_by_place := _, F_by_place := F_by_place, m_by_place := PySem.W.mg_of KX G a_by_place, b_by_place := F_by_place.binds (ps := ["row", "places"]) (fun _ _ _ _ _ _ us hl => match us, hl with | [_, _], _ => rfl),
    a_laid := f_laid_, d_laid := _, F_laid := F_laid, m_laid := PySem.W.mg_of KX G a_laid, b_laid := F_laid.binds (ps := ["blocks"]) (fun _ _ _ _ _ _ us hl => match us, hl with | [_], _ => rfl),
    a_law_right := f_law_right_, d_law_right := _, F_law_right := F_law_right, m_law_right := PySem.W.mg_of KX G a_law_right, b_law_right := F_law_right.binds (ps := ["_law_found", "_law_due_here"]) (fun _ _ _ _ _ _ us hl => match us, hl with | [_, _], _ => rfl),
    a_law := fa, d_law := _, F_law := F_law, m_law := PySem.W.mg_of KX G a_law, b_law := F_law.binds (ps := ["_law_script"]) (fun _ _ _ _ _ _ us hl => match us, hl with | [_], _ => rfl),
    n_bool := PySem.W.mg_none_of KX G z_bool,
    n_int := PySem.W.mg_none_of KX G z_int,
    n_isinstance := PySem.W.mg_none_of KX G z_isinstance,
    n_len := PySem.W.mg_none_of KX G z_len,
    n_list := PySem.W.mg_none_of KX G z_list,
    n_min := PySem.W.mg_none_of KX G z_min,
    n_range := PySem.W.mg_none_of KX G z_range,
    n_tuple := PySem.W.mg_none_of KX G z_tuple }
  exact ⟨PySem.W.fnOf "law" "law" (defArgs s_law) (defBody s_law) (defScope s_law) .none kV_law dc_law pm_law an_law cd_law ct_law, fun s v => .of_eq rfl, fun base _ _ => ok_law T⟩
theorem walk_law {l : PySem.W.OpenLaw} {q : Program} {loose : List Str} {XP : (Str → Option Value) → Heap → Prop} {YP : World → Heap → Prop} {d : DefRec} {K : Params → PySem.W.Frag} (good : ∀ ns : List Int, ns.length ≤ 63 → ∃ ph', f_law [.fl (ns.map W.int)] [] = .ok (.bl true) ph') (hn : l.most = some 63) (hdf : d.params.defaults = [])
    (hY : ∀ (w : World) (h : Heap), YP w h → (K w.params).In h)
    (F : ∀ (w : World) (mg : Str → Option Value) (fa : Addr) (h : Heap), (K w.params).In h → h.Ns mainGlobals mg → mg d.name = some (.ref fa) → ∃ fd : FuncData, (∀ (s : Shared) (u : Value), BindsTo s fd ⟨[u], []⟩ [("_law_script", u)]) ∧ ∀ base : Heap, (K w.params).In base → base.Ns mainGlobals mg → FnOk l.prog w (K w.params) mg base (CXW l.prog w) 4 fa fd ["_law_script"] (spM (K w.params) mg 1 f_law)) :
    PySem.W.WalkO q loose XP YP l.row.toRowW d [] (fun f vs => PySem.call f vs) := walk_il 4 good hn hdf ⟨rfl, by decide, by decide⟩ hY F
end IL.K27
namespace IL.K27
open PySem L2
theorem mulC_r {a b : Int} (h1 : -(2 ^ 64) < b) (h2 : b < 2 ^ 64) : mulC a b = true := by
  unfold mulC
  rw [decide_eq_true h1, decide_eq_true h2]
  simp
theorem cell_at (ns : List Int) (k : Nat) (ph : PH) : f_law_cell_at [.fl (ns.map W.int), .int (k : Int)] ph = .ok (.int (ns.getD k 0)) ph := by
  unfold f_law_cell_at b_law_cell_at
  try simp only [EVA, Nat.reduceSub, List.reduceReplicate, List.set_cons_zero, List.set_cons_succ, if_true, if_false, ↓reduceIte, String.reduceEq, reduceCtorEq, lenF]
  by_cases h : k < ns.length
  · have e : atI (ns.map W.int) (k : Int) = some (.int (ns.getD k 0)) := by
      rw [atI_nat _ _ (by simpa using h)]; simp [h]
    rw [ixF e]
    simp [h, pur, fEnd, bnd]
  · have e : ns.getD k 0 = 0 := by simp [Nat.le_of_not_lt h]
    simp [h, pur, fEnd, bnd, e]
theorem cell_0 (ns : List Int) (ph : PH) : f_law_cell_at [.fl (ns.map W.int), .int 0] ph = .ok (.int (ns.getD 0 0)) ph := cell_at ns 0 ph
theorem cell_1 (ns : List Int) (ph : PH) : f_law_cell_at [.fl (ns.map W.int), .int 1] ph = .ok (.int (ns.getD 1 0)) ph := cell_at ns 1 ph
theorem number_by (c : Int) (ph : PH) : ∃ v ph', f_law_number_by [.int c] ph = .ok (.int v) ph' ∧ Ex ph ph' := by
  unfold f_law_number_by b_law_number_by
  try simp only [EVA, Nat.reduceSub, List.reduceReplicate, List.set_cons_zero, List.set_cons_succ, if_true, if_false, ↓reduceIte, String.reduceEq, reduceCtorEq, l_mod (show (4 : Int) ≠ 0 by decide), l_mod (show (8 : Int) ≠ 0 by decide), l_mod (show (4294967296 : Int) ≠ 0 by decide), l_mod (show (100003 : Int) ≠ 0 by decide), l_mod (show (19 : Int) ≠ 0 by decide), l_div (show (4 : Int) ≠ 0 by decide) (by decide), l_mul (mulC_r (a := c.fdiv 4) (b := 48271) (by decide) (by decide))]
  by_cases h3 : c.fmod 4 = 3
  · simp only [decide_eq_true h3, if_true]
    rw [bnd_new _ _ _ (small (by simp))]
    have q := fmod_range (c.fdiv 4) 8 (by decide)
    generalize (c.fdiv 4).fmod 8 = d at q
    have : d = 0 ∨ d = 1 ∨ d = 2 ∨ d = 3 ∨ d = 4 ∨ d = 5 ∨ d = 6 ∨ d = 7 := by omega
    rcases this with rfl | rfl | rfl | rfl | rfl | rfl | rfl | rfl <;>
    · rw [bnd_ok (ixv_ref (get_new _ _) (by rfl))]
      exact ⟨_, _, rfl, Ex.one _ _⟩
  · simp only [decide_eq_false h3, Bool.false_eq_true, if_false]
    by_cases h2 : c.fmod 4 = 2
    · simp only [decide_eq_true h2, if_true]
      exact ⟨_, _, rfl, Ex.refl _⟩
    · simp only [decide_eq_false h2, Bool.false_eq_true, if_false]
      by_cases h1 : c.fmod 4 = 1
      · simp only [decide_eq_true h1, if_true]
        exact ⟨_, _, rfl, Ex.refl _⟩
      · simp only [decide_eq_false h1, Bool.false_eq_true, if_false]
        exact ⟨_, _, rfl, Ex.refl _⟩
inductive Rw where
  | put (b n : Int) | mv (a b : Int) | pull (b s : Int) | push (s b : Int) | take (b : Int) | tell (b : Int) | turn | dd (d : Int) (w : Str) (hw : PyData.strOk w = true) (a b : Int)
def Rw.W : Rw → W
  | .put b n => .tup [.str "put", .int b, .int n]
  | .mv a b => .tup [.str "move", .int a, .int b]
  | .pull b s => .tup [.str "pull", .int b, .int s]
  | .push s b => .tup [.str "push", .int s, .int b]
  | .take b => .tup [.str "take", .int b]
  | .tell b => .tup [.str "tell", .int b]
  | .turn => .tup [.str "turn"]
  | .dd d w _ a b => .tup [.str "do", .int d, .str w, .int a, .int b]
theorem row_by (c bx sl : Int) (hb : bx ≠ 0) (hs : sl ≠ 0) (ph : PH) : ∃ (r : Rw) (ph' : PH), f_law_row_by [.int c, .int bx, .int sl] ph = .ok r.W ph' ∧ Ex ph ph' := by
  unfold f_law_row_by b_law_row_by
  try simp only [EVA, Nat.reduceSub, List.reduceReplicate, List.set_cons_zero, List.set_cons_succ, if_true, if_false, ↓reduceIte, String.reduceEq, reduceCtorEq, l_mod (show (12 : Int) ≠ 0 by decide), l_mod (show (2147483647 : Int) ≠ 0 by decide), l_mod hb, l_mod hs, l_mod (show (6 : Int) ≠ 0 by decide), l_div (show (12 : Int) ≠ 0 by decide) (by decide), l_div (show (9 : Int) ≠ 0 by decide) (by decide), l_div (show (81 : Int) ≠ 0 by decide) (by decide), l_div (show (486 : Int) ≠ 0 by decide) (by decide), l_div (show (2916 : Int) ≠ 0 by decide) (by decide), l_mul (mulC_r (a := c.fdiv 12) (b := 48271) (by decide) (by decide))]
  have qk := fmod_range c 12 (by decide)
  generalize c.fmod 12 = k at qk
  generalize ((c.fdiv 12) * 48271).fmod 2147483647 = more
  by_cases h5 : k < 5
  · simp only [decide_eq_true h5, if_true]
    rw [bnd_new _ _ _ (small (by simp))]
    have q := fmod_range (more.fdiv 486) 6 (by decide)
    generalize (more.fdiv 486).fmod 6 = d at q
    have : d = 0 ∨ d = 1 ∨ d = 2 ∨ d = 3 ∨ d = 4 ∨ d = 5 := by omega
    rcases this with rfl | rfl | rfl | rfl | rfl | rfl <;>
    · rw [bnd_ok (ixv_ref (get_new _ _) (by rfl))]
      try simp only [EVA, Nat.reduceSub, List.reduceReplicate, List.set_cons_zero, List.set_cons_succ, if_true, if_false, ↓reduceIte, String.reduceEq, reduceCtorEq]
      exact ⟨.dd _ _ (so _) _ _, _, rfl, Ex.one _ _⟩
  · simp only [decide_eq_false h5, Bool.false_eq_true, if_false]
    obtain ⟨v, ph1, e1, x1⟩ := number_by (more.fdiv 9) ph
    rw [bnd_ok e1]
    try simp only [EVA, Nat.reduceSub, List.reduceReplicate, List.set_cons_zero, List.set_cons_succ, if_true, if_false, ↓reduceIte, String.reduceEq, reduceCtorEq]
    rw [bnd_new _ _ _ (small (by simp))]
    try simp only [EVA, Nat.reduceSub, List.reduceReplicate, List.set_cons_zero, List.set_cons_succ, if_true, if_false, ↓reduceIte, String.reduceEq, reduceCtorEq]
    rw [bnd_new _ _ _ (small (by simp))]
    rw [bnd_ok (add_ref ((Ex.one _ _).get (get_new _ _)) (get_new _ _) (small (by simp)))]
    try simp only [EVA, Nat.reduceSub, List.reduceReplicate, List.set_cons_zero, List.set_cons_succ, if_true, if_false, ↓reduceIte, String.reduceEq, reduceCtorEq]
    have hx : Ex ph (ph1 ++ [PO.lst [Rw.W (.put (more.fmod bx) v), Rw.W (.mv (more.fmod bx) ((more.fdiv 9).fmod bx)), Rw.W (.pull (more.fmod bx) ((more.fdiv 81).fmod sl)), Rw.W (.push ((more.fdiv 81).fmod sl) (more.fmod bx))]] ++ [PO.lst [Rw.W (.take (more.fmod bx)), Rw.W (.tell (more.fmod bx)), Rw.W .turn]]) := (x1.trans (Ex.one _ _)).trans (Ex.one _ _)
    have : k = 5 ∨ k = 6 ∨ k = 7 ∨ k = 8 ∨ k = 9 ∨ k = 10 ∨ k = 11 := by omega
    rcases this with rfl | rfl | rfl | rfl | rfl | rfl | rfl
    · rw [bnd_ok (ixv_ref (get_new _ _) (by rfl))]; exact ⟨.put _ _, _, rfl, hx.trans (Ex.one _ _)⟩
    · rw [bnd_ok (ixv_ref (get_new _ _) (by rfl))]; exact ⟨.mv _ _, _, rfl, hx.trans (Ex.one _ _)⟩
    · rw [bnd_ok (ixv_ref (get_new _ _) (by rfl))]; exact ⟨.pull _ _, _, rfl, hx.trans (Ex.one _ _)⟩
    · rw [bnd_ok (ixv_ref (get_new _ _) (by rfl))]; exact ⟨.push _ _, _, rfl, hx.trans (Ex.one _ _)⟩
    · rw [bnd_ok (ixv_ref (get_new _ _) (by rfl))]; exact ⟨.take _, _, rfl, hx.trans (Ex.one _ _)⟩
    · rw [bnd_ok (ixv_ref (get_new _ _) (by rfl))]; exact ⟨.tell _, _, rfl, hx.trans (Ex.one _ _)⟩
    · rw [bnd_ok (ixv_ref (get_new _ _) (by rfl))]; exact ⟨.turn, _, rfl, hx.trans (Ex.one _ _)⟩
end IL.K27
namespace IL.K27
open PySem L2
inductive En where
  | fin | go (n : Nat) | iff (k : Int) (y n : Nat)
def En.W : En → W
  | .fin => .tup [.str "end"]
  | .go n => .tup [.str "go", .int (n : Int)]
  | .iff k y n => .tup [.str "if", .int k, .int (y : Int), .int (n : Int)]
def En.ok (nb : Nat) : En → Prop
  | .fin => True
  | .go n => n < nb
  | .iff _ y n => y < nb ∧ n < nb
def st : En → Option Nat
  | .fin => none
  | .go n => some n
  | .iff _ _ n => some n
def oW : Option Nat → W
  | none => .non
  | some n => .int (n : Int)
theorem straight_s (e : En) (ph : PH) : f_straight_behind [e.W] ph = .ok (oW (st e)) ph := by
  unfold f_straight_behind b_straight_behind
  cases e <;>
  · unfold En.W
    try simp only [EVA, Nat.reduceSub, List.reduceReplicate, List.set_cons_zero, List.set_cons_succ, if_true, if_false, ↓reduceIte, String.reduceEq, reduceCtorEq]
    rfl
abbrev Pl := List (Nat × Nat)
def plW (pl : Pl) : List (W × W) := pl.map fun p => (.int (p.1 : Int), .int (p.2 : Int))
theorem okI (pl : Pl) (k : Int) : okKey (plW pl) (.int k) = true := by
  unfold okKey plW
  rw [Bool.or_eq_true]
  left
  simp [keyK, isT]
def pget : Pl → Nat → Option Nat
  | [], _ => none
  | p :: pl, n => if p.1 = n then some p.2 else pget pl n
theorem dget_pl : ∀ (pl : Pl) (n : Nat), dgetW (plW pl) (.int (n : Int)) = (pget pl n).map fun (p : Nat) => W.int ((p : Nat) : Int)
  | [], n => rfl
  | p :: pl, n => by
    unfold pget
    have ih := dget_pl pl n
    unfold dgetW plW at ih ⊢
    rw [List.map_cons, List.find?_cons]
    by_cases h : p.1 = n
    · simp [h]
    · have : decide ((W.int (p.1 : Int)) = W.int (n : Int)) = false := decide_eq_false (fun z => h (by have := W.int.inj z; omega))
      simp only [this, h, if_false]
      exact ih
theorem pget_some : ∀ (pl : Pl) (n : Nat), (pget pl n).isSome = decide (n ∈ pl.map (·.1))
  | [], n => by simp [pget]
  | p :: pl, n => by
    unfold pget
    by_cases h : p.1 = n
    · simp [h]
    · have h' : ¬ n = p.1 := fun z => h z.symm
      simp [h, h', pget_some pl n]
theorem in_pl {ph : PH} {d : Nat} {pl : Pl} (h : ph[d]? = some (.dct (plW pl))) (n : Nat) : lift (inV (.int (n : Int)) (.ref d)) ph = .ok (.bl (decide (n ∈ pl.map (·.1)))) ph := by
  rw [inv_dct h (okI pl _), dget_pl, Option.isSome_map, pget_some]
theorem nin_pl {ph : PH} {d : Nat} {pl : Pl} (h : ph[d]? = some (.dct (plW pl))) (n : Nat) : lift (ninV (.int (n : Int)) (.ref d)) ph = .ok (.bl (!decide (n ∈ pl.map (·.1)))) ph := by
  rw [ninv_dct h (okI pl _), dget_pl, Option.isSome_map, pget_some]
theorem put_pl (pl : Pl) (n p : Nat) (h : n ∉ pl.map (·.1)) : dputW (plW pl) (.int (n : Int)) (.int (p : Int)) = plW (pl ++ [(n, p)]) := by
  unfold dputW
  have : ((plW pl).any fun q => decide (q.1 = W.int (n : Int))) = false := by
    rw [List.any_eq_false]
    intro q hq
    unfold plW at hq
    obtain ⟨r, hr, rfl⟩ := List.mem_map.mp hq
    rw [decide_eq_true_eq]
    intro z
    have := W.int.inj z
    exact h (List.mem_map.mpr ⟨r, hr, by omega⟩)
  rw [this]
  unfold plW
  simp
def goW (n : Nat) : W := .tup [.str "go", .int (n : Int)]
def ifW (k : Int) (y : Nat) : W := .tup [.str "if", .int k, .int (y : Int)]
def endW : W := .tup [.str "end"]
def tl (e : En) (S : List Nat) : List W := match e with
  | .fin => [endW]
  | .go n => if n ∈ S then [goW n] else []
  | .iff k y n => ifW k y :: (if n ∈ S then [goW n] else [])
theorem tail_s (e : En) (pl : Pl) {d : Nat} {ph : PH} (h : ph[d]? = some (.dct (plW pl))) : ∃ ph', f_rows_for_end [e.W, .ref d] ph = .ok (.ref ph.length) ph' ∧ ph' = ph ++ [.lst (tl e (pl.map (·.1)))] := by
  unfold f_rows_for_end b_rows_for_end
  have h1 : (ph ++ [PO.lst []])[d]? = some (.dct (plW pl)) := (Ex.one _ _).get h
  have set1 : ∀ o : PO, (ph ++ [PO.lst []]).set ph.length o = ph ++ [o] := fun o => by
    have := set_mid ph [] (PO.lst []) o
    simpa using this
  have set2 : ∀ (ws : List W) (o : PO), (ph ++ [PO.lst ws]).set ph.length o = ph ++ [o] := fun ws o => by
    have := set_mid ph [] (PO.lst ws) o
    simpa using this
  cases e with
  | fin =>
    unfold En.W
    try simp only [EVA, Nat.reduceSub, List.reduceReplicate, List.set_cons_zero, List.set_cons_succ, if_true, if_false, ↓reduceIte, String.reduceEq, reduceCtorEq]
    rw [bnd_new _ _ _ (small (by simp))]
    rw [bnd_ok (chk_ref (get_new _ _))]
    rw [bnd_ok (append_ref (get_new _ _) (by decide) _), set1]
    exact ⟨_, rfl, rfl⟩
  | go n =>
    have hs := straight_s (.go n) (ph ++ [PO.lst []])
    unfold En.W at hs ⊢
    try simp only [EVA, Nat.reduceSub, List.reduceReplicate, List.set_cons_zero, List.set_cons_succ, if_true, if_false, ↓reduceIte, String.reduceEq, reduceCtorEq]
    rw [bnd_new _ _ _ (small (by simp))]
    rw [bnd_ok hs]
    show ∃ ph', bnd (lift (inV (.int (n : Int)) (.ref d))) _ _ = _ ∧ _
    rw [bnd_ok (in_pl h1 n)]
    try simp only [EVA, Nat.reduceSub, List.reduceReplicate, List.set_cons_zero, List.set_cons_succ, if_true, if_false, ↓reduceIte, String.reduceEq, reduceCtorEq]
    by_cases hn : n ∈ pl.map (·.1)
    · simp only [decide_eq_true hn, if_true]
      rw [bnd_ok (chk_ref (get_new _ _)), bnd_ok hs]
      try simp only [EVA, Nat.reduceSub, List.reduceReplicate, List.set_cons_zero, List.set_cons_succ, if_true, if_false, ↓reduceIte, String.reduceEq, reduceCtorEq]
      rw [bnd_ok (append_ref (get_new _ _) (by decide) _), set1]
      refine ⟨_, rfl, ?_⟩
      simp only [tl, if_pos hn]; rfl
    · simp only [decide_eq_false hn, Bool.false_eq_true, if_false]
      refine ⟨_, rfl, ?_⟩
      simp only [tl, if_neg hn]
  | iff k y n =>
    have hs := straight_s (.iff k y n) (ph ++ [PO.lst [ifW k y]])
    unfold En.W at hs ⊢
    have h2 : (ph ++ [PO.lst [ifW k y]])[d]? = some (.dct (plW pl)) := (Ex.one _ _).get h
    try simp only [EVA, Nat.reduceSub, List.reduceReplicate, List.set_cons_zero, List.set_cons_succ, if_true, if_false, ↓reduceIte, String.reduceEq, reduceCtorEq]
    rw [bnd_new _ _ _ (small (by simp))]
    rw [bnd_ok (chk_ref (get_new _ _))]
    try simp only [EVA, Nat.reduceSub, List.reduceReplicate, List.set_cons_zero, List.set_cons_succ, if_true, if_false, ↓reduceIte, String.reduceEq, reduceCtorEq]
    rw [bnd_ok (append_ref (get_new _ _) (by decide) _), set1]
    try simp only [EVA, Nat.reduceSub, List.reduceReplicate, List.set_cons_zero, List.set_cons_succ, if_true, if_false, ↓reduceIte, String.reduceEq, reduceCtorEq]
    show ∃ ph', bnd (f_straight_behind [.tup [.str "if", .int k, .int (y : Int), .int (n : Int)]]) _ (ph ++ [PO.lst [ifW k y]]) = _ ∧ _
    rw [bnd_ok hs]
    show ∃ ph', bnd (lift (inV (.int (n : Int)) (.ref d))) _ _ = _ ∧ _
    rw [bnd_ok (in_pl h2 n)]
    try simp only [EVA, Nat.reduceSub, List.reduceReplicate, List.set_cons_zero, List.set_cons_succ, if_true, if_false, ↓reduceIte, String.reduceEq, reduceCtorEq]
    by_cases hn : n ∈ pl.map (·.1)
    · simp only [decide_eq_true hn, if_true]
      rw [bnd_ok (chk_ref (get_new _ _)), bnd_ok hs]
      try simp only [EVA, Nat.reduceSub, List.reduceReplicate, List.set_cons_zero, List.set_cons_succ, if_true, if_false, ↓reduceIte, String.reduceEq, reduceCtorEq]
      rw [bnd_ok (append_ref (get_new _ _) (show [ifW k y].length < sizeLine from (by decide : 1 < sizeLine)) _), set2]
      refine ⟨_, rfl, ?_⟩
      simp only [tl, if_pos hn]; rfl
    · simp only [decide_eq_false hn, Bool.false_eq_true, if_false]
      refine ⟨_, rfl, ?_⟩
      simp only [tl, if_neg hn]
def lnl (nb : Nat) (S : List Nat) : Option Nat := (List.range nb).find? fun i => decide (i ∉ S)
theorem lnl_of {nb : Nat} {S : List Nat} {n : Nat} (h1 : n < nb) (h2 : n ∉ S) (h3 : ∀ i, i < n → i ∈ S) : lnl nb S = some n := by
  unfold lnl
  rw [List.find?_range_eq_some]
  refine ⟨by simpa using h2, List.mem_range.mpr h1, fun j hj => by simpa using h3 j hj⟩
theorem lnl_none {nb : Nat} {S : List Nat} (h : ∀ i, i < nb → i ∈ S) : lnl nb S = none := by
  unfold lnl
  rw [List.find?_eq_none]
  intro i hi
  simpa using h i (List.mem_range.mp hi)
theorem least_s {ph : PH} {l d nb : Nat} {ws : List W} {pl : Pl} (hl : ph[l]? = some (.lst ws)) (hn : ws.length = nb) (hb : nb ≤ 1000) (h : ph[d]? = some (.dct (plW pl))) : f_least_not_laid [.ref l, .ref d] ph = .ok (oW (lnl nb (pl.map (·.1)))) ph := by
  unfold f_least_not_laid b_least_not_laid sFor
  try simp only [EVA, Nat.reduceSub, List.reduceReplicate, List.set_cons_zero, List.set_cons_succ, if_true, if_false, ↓reduceIte, String.reduceEq, reduceCtorEq]
  rw [bnd_ok (iR1_ap (m := aCons (eCallB lenW (aCons (eVar 0) aNil)) aNil) (σ := [some (W.ref l), some (W.ref d), none]) (ph' := ph) (j := (nb : Int)) (by
    try simp only [EVA, Nat.reduceSub, List.reduceReplicate, List.set_cons_zero, List.set_cons_succ, if_true, if_false, ↓reduceIte, String.reduceEq, reduceCtorEq]
    rw [bnd_ok (len_ref hl), hn]
    try simp only [EVA, Nat.reduceSub, List.reduceReplicate, List.set_cons_zero, List.set_cons_succ, if_true, if_false, ↓reduceIte, String.reduceEq, reduceCtorEq]) (by omega) (by omega))]
  rw [Int.toNat_natCast]
  have key := forG_ret (chk := fun _ => true) (g := gN 2) (b := sIf (eT (eOp ninV (eVar 2) (eVar 1))) (sRet (eVar 2)) sNext)
    (fun w H => H = ph ∧ w = oW (lnl nb (pl.map (·.1)))) (fun k σ H => (∃ y, σ = [some (W.ref l), some (W.ref d), y]) ∧ H = ph ∧ ∀ i, i < k → i ∈ pl.map (·.1)) (rngW 0 nb) 0 [some (W.ref l), some (W.ref d), none] ph
    (fun _ _ _ _ => rfl)
    (fun j x σ H hj hI => by
      rw [Nat.zero_add] at hI ⊢
      obtain ⟨⟨y, rfl⟩, rfl, hall⟩ := hI
      obtain ⟨hjl, rfl⟩ := rngW_get hj
      rw [Int.zero_add]
      refine ⟨[some (W.ref l), some (W.ref d), some (.int (j : Int))], H, rfl, ?_⟩
      try simp only [EVA, Nat.reduceSub, List.reduceReplicate, List.set_cons_zero, List.set_cons_succ, if_true, if_false, ↓reduceIte, String.reduceEq, reduceCtorEq]
      rw [bnd_ok (nin_pl h j)]
      try simp only [EVA, Nat.reduceSub, List.reduceReplicate, List.set_cons_zero, List.set_cons_succ, if_true, if_false, ↓reduceIte, String.reduceEq, reduceCtorEq]
      by_cases hm : j ∈ pl.map (·.1)
      · simp only [decide_eq_true hm, Bool.not_true, Bool.false_eq_true, if_false]
        refine ⟨_, H, rfl, .inl ⟨_, .inl rfl, ⟨_, rfl⟩, rfl, fun i hi => ?_⟩⟩
        by_cases e : i = j
        · rw [e]; exact hm
        · exact hall i (by omega)
      · simp only [decide_eq_false hm, Bool.not_false, if_true]
        refine ⟨_, H, rfl, .inr ⟨_, rfl, rfl, ?_⟩⟩
        rw [lnl_of hjl hm hall]; rfl)
    ⟨⟨none, rfl⟩, rfl, fun i hi => by omega⟩
  rcases key with ⟨σ', ph', e, ⟨y, rfl⟩, rfl, hall⟩ | ⟨w, ph', e, rfl, rfl⟩
  · rw [bnd_ok e]
    rw [Nat.zero_add, rngW_len] at hall
    rw [lnl_none hall]
    try simp only [EVA, Nat.reduceSub, List.reduceReplicate, List.set_cons_zero, List.set_cons_succ, if_true, if_false, ↓reduceIte, String.reduceEq, reduceCtorEq]
    rfl
  · rw [bnd_ok e]
    rfl
end IL.K27
namespace IL.K27
open PySem L2
theorem nd_len : ∀ (nb : Nat) (S : List Nat), S.Nodup → (∀ x ∈ S, x < nb) → S.length ≤ nb
  | 0, S, _, h => by
    cases S with
    | nil => simp
    | cons x S => exact absurd (h x (by simp)) (by omega)
  | nb + 1, S, hd, h => by
    by_cases hm : nb ∈ S
    · have := nd_len nb (S.erase nb) (hd.erase nb) fun x hx => by
        have := (hd.mem_erase_iff.mp hx)
        have := h x this.2
        have : x ≠ nb := (hd.mem_erase_iff.mp hx).1
        omega
      rw [List.length_erase_of_mem hm] at this
      omega
    · have := nd_len nb S hd fun x hx => by
        have := h x hx
        have : x ≠ nb := fun z => hm (z ▸ hx)
        omega
      omega
theorem all_len : ∀ (nb : Nat) (S : List Nat), (∀ i, i < nb → i ∈ S) → nb ≤ S.length
  | 0, _, _ => Nat.zero_le _
  | nb + 1, S, h => by
    have hm := h nb (by omega)
    have := all_len nb (S.erase nb) fun i hi => (List.mem_erase_of_ne (by omega)).mpr (h i (by omega))
    rw [List.length_erase_of_mem hm] at this
    have : 0 < S.length := List.length_pos_of_mem hm
    omega
theorem lnl_some {nb : Nat} {S : List Nat} (h : S.length < nb) : ∃ n, lnl nb S = some n ∧ n < nb ∧ n ∉ S := by
  cases e : lnl nb S with
  | none =>
    unfold lnl at e
    rw [List.find?_eq_none] at e
    have := all_len nb S fun i hi => by simpa using e i (List.mem_range.mpr hi)
    omega
  | some n =>
    have e' := e
    unfold lnl at e
    obtain ⟨h1, h2, _⟩ := List.find?_range_eq_some.mp e
    exact ⟨n, rfl, List.mem_range.mp h2, by simpa using h1⟩
theorem lnl_full {nb : Nat} {S : List Nat} (hd : S.Nodup) (hS : ∀ x ∈ S, x < nb) (h : S.length = nb) : lnl nb S = none := by
  refine lnl_none fun i hi => ?_
  by_cases hm : i ∈ S
  · exact hm
  · have := nd_len nb (i :: S) (List.nodup_cons.mpr ⟨hm, hd⟩) fun x hx => by
      rcases List.mem_cons.mp hx with rfl | hx
      · exact hi
      · exact hS x hx
    simp at this
    omega
def nx (nb : Nat) (S : List Nat) (e : En) : Option Nat := match st e with
  | none => lnl nb S
  | some n => if n ∈ S then lnl nb S else some n
def en (es : List En) (b : Nat) : En := es.getD b .fin
def run (es : List En) : Nat → List Nat × Option Nat
  | 0 => ([], some 0)
  | k + 1 => match run es k with
    | (S, some b) => (S ++ [b], nx es.length (S ++ [b]) (en es b))
    | (S, none) => (S, none)
theorem st_lt {nb n : Nat} {e : En} (h : e.ok nb) (hs : st e = some n) : n < nb := by
  cases e with
  | fin => cases hs
  | go m => cases hs; exact h
  | iff k y m => cases hs; exact h.2
theorem en_ok {es : List En} (h : ∀ e ∈ es, e.ok es.length) (b : Nat) : (en es b).ok es.length := by
  unfold en
  by_cases hb : b < es.length
  · have : es.getD b .fin = es[b] := by simp [hb]
    rw [this]
    exact h _ (List.getElem_mem hb)
  · have : es.getD b .fin = .fin := by simp [Nat.le_of_not_lt hb]
    rw [this]; trivial
theorem run_ok {es : List En} (h : ∀ e ∈ es, e.ok es.length) (hp : 0 < es.length) : ∀ k, k ≤ es.length → (run es k).1.length = k ∧ (run es k).1.Nodup ∧ (∀ x ∈ (run es k).1, x < es.length) ∧ (k < es.length → ∃ b, (run es k).2 = some b ∧ b < es.length ∧ b ∉ (run es k).1) ∧ (k = es.length → (run es k).2 = none)
  | 0, _ => ⟨rfl, List.nodup_nil, fun x hx => (nomatch hx), fun _ => ⟨0, rfl, hp, by simp [run]⟩, fun e => by omega⟩
  | k + 1, hk => by
    obtain ⟨h1, h2, h3, h4, _⟩ := run_ok h hp k (by omega)
    obtain ⟨b, e, hb, hn⟩ := h4 (by omega)
    have er : run es (k + 1) = ((run es k).1 ++ [b], nx es.length ((run es k).1 ++ [b]) (en es b)) := by
      show (match run es k with
        | (S, some b) => (S ++ [b], nx es.length (S ++ [b]) (en es b))
        | (S, none) => (S, none)) = _
      rw [show run es k = ((run es k).1, some b) by rw [← e]]
    have l1 : ((run es k).1 ++ [b]).length = k + 1 := by simp [h1]
    have nd1 : ((run es k).1 ++ [b]).Nodup := by
      rw [List.nodup_append]
      refine ⟨h2, by simp, fun x hx y hy z => hn ?_⟩
      have : y = b := by simpa using hy
      rw [← this, ← z]; exact hx
    have lt1 : ∀ x ∈ (run es k).1 ++ [b], x < es.length := fun x hx => by
      rcases List.mem_append.mp hx with hx | hx
      · exact h3 x hx
      · have : x = b := by simpa using hx
        rw [this]; exact hb
    rw [er]
    refine ⟨l1, nd1, lt1, fun hlt => ?_, fun he => ?_⟩
    · have hS : ((run es k).1 ++ [b]).length < es.length := by omega
      unfold nx
      cases hs : st (en es b) with
      | none => exact lnl_some hS
      | some n =>
        simp only
        by_cases hm : n ∈ (run es k).1 ++ [b]
        · rw [if_pos hm]; exact lnl_some hS
        · rw [if_neg hm]; exact ⟨n, rfl, st_lt (en_ok h b) hs, hm⟩
    · have hf := lnl_full nd1 lt1 (by omega)
      show nx es.length ((run es k).1 ++ [b]) (en es b) = none
      unfold nx
      cases hs : st (en es b) with
      | none => exact hf
      | some n =>
        simp only
        by_cases hm : n ∈ (run es k).1 ++ [b]
        · rw [if_pos hm]; exact hf
        · exfalso
          have hlt := st_lt (en_ok h b) hs
          have := lnl_none (nb := es.length) (S := (run es k).1 ++ [b])
          unfold lnl at hf
          rw [List.find?_eq_none] at hf
          have := hf n (List.mem_range.mpr hlt)
          simp only [decide_eq_true_eq, Classical.not_not] at this
          exact hm this
theorem run_step {es : List En} (h : ∀ e ∈ es, e.ok es.length) (hp : 0 < es.length) {k : Nat} (hk : k < es.length) : ∃ b, b < es.length ∧ b ∉ (run es k).1 ∧ (run es k).2 = some b ∧ (run es (k + 1)).1 = (run es k).1 ++ [b] ∧ (run es (k + 1)).2 = nx es.length ((run es k).1 ++ [b]) (en es b) := by
  obtain ⟨_, _, _, h4, _⟩ := run_ok h hp k (by omega)
  obtain ⟨b, e, hb, hn⟩ := h4 hk
  have er : run es (k + 1) = ((run es k).1 ++ [b], nx es.length ((run es k).1 ++ [b]) (en es b)) := by
    show (match run es k with
      | (S, some b) => (S ++ [b], nx es.length (S ++ [b]) (en es b))
      | (S, none) => (S, none)) = _
    rw [show run es k = ((run es k).1, some b) by rw [← e]]
  exact ⟨b, hb, hn, e, by rw [er], by rw [er]⟩
end IL.K27
namespace IL.K27
open PySem L2
inductive PR where
  | rw (r : Rw) | go (n : Nat) | iff (k : Int) (y : Nat) | fin
def PR.W : PR → W
  | .rw r => r.W
  | .go n => goW n
  | .iff k y => ifW k y
  | .fin => endW
def PR.fn (pl : Pl) : PR → IL.W
  | .rw r => r.W
  | .go n => goW ((pget pl n).getD 0)
  | .iff k y => ifW k ((pget pl y).getD 0)
  | .fin => endW
def PR.ok (nb : Nat) : PR → Prop
  | .go n => n < nb
  | .iff _ y => y < nb
  | _ => True
def tlP (e : En) (S : List Nat) : List PR := match e with
  | .fin => [.fin]
  | .go n => if n ∈ S then [.go n] else []
  | .iff k y n => .iff k y :: (if n ∈ S then [.go n] else [])
theorem tlP_W (e : En) (S : List Nat) : (tlP e S).map PR.W = tl e S := by
  cases e with
  | fin => rfl
  | go n => simp only [tlP, tl]; split <;> rfl
  | iff k y n => simp only [tlP, tl]; split <;> rfl
theorem tlP_len (e : En) (S : List Nat) : (tlP e S).length ≤ 2 := by
  cases e with
  | fin => simp [tlP]
  | go n => simp only [tlP]; split <;> simp
  | iff k y n => simp only [tlP]; split <;> simp
theorem tlP_ok {nb : Nat} {e : En} (h : e.ok nb) (S : List Nat) : ∀ p ∈ tlP e S, p.ok nb := by
  intro p hp
  cases e with
  | fin =>
    have : p = .fin := by simpa [tlP] using hp
    rw [this]; trivial
  | go n =>
    simp only [tlP] at hp
    split at hp
    · have : p = .go n := by simpa using hp
      rw [this]; exact h
    · cases hp
  | iff k y n =>
    simp only [tlP] at hp
    rcases List.mem_cons.mp hp with rfl | hp
    · exact h.1
    · split at hp
      · have : p = .go n := by simpa using hp
        rw [this]; exact h.2
      · cases hp
theorem byplace_s {pl : Pl} {d : Nat} {ph : PH} (h : ph[d]? = some (.dct (plW pl))) (p : PR) (hp : ∀ n, (p = .go n ∨ ∃ k, p = .iff k n) → n ∈ pl.map (·.1)) : f_by_place [p.W, .ref d] ph = .ok (p.fn pl) ph := by
  unfold f_by_place b_by_place
  have get : ∀ n : Nat, n ∈ pl.map (·.1) → lift (ixV (.ref d) (.int (n : Int))) ph = .ok (.int (((pget pl n).getD 0 : Nat) : Int)) ph := fun n hn => by
    have hs := pget_some pl n
    rw [decide_eq_true hn] at hs
    obtain ⟨x, hx⟩ := Option.isSome_iff_exists.mp hs
    refine ixv_dct h (okI pl _) ?_
    rw [dget_pl, hx]; rfl
  cases p with
  | rw r =>
    cases r <;>
    · unfold PR.W Rw.W
      try simp only [EVA, Nat.reduceSub, List.reduceReplicate, List.set_cons_zero, List.set_cons_succ, if_true, if_false, ↓reduceIte, String.reduceEq, reduceCtorEq]
      rfl
  | fin =>
    unfold PR.W endW
    try simp only [EVA, Nat.reduceSub, List.reduceReplicate, List.set_cons_zero, List.set_cons_succ, if_true, if_false, ↓reduceIte, String.reduceEq, reduceCtorEq]
    rfl
  | go n =>
    unfold PR.W goW
    try simp only [EVA, Nat.reduceSub, List.reduceReplicate, List.set_cons_zero, List.set_cons_succ, if_true, if_false, ↓reduceIte, String.reduceEq, reduceCtorEq]
    rw [bnd_ok (get n (hp n (.inl rfl)))]
    try simp only [EVA, Nat.reduceSub, List.reduceReplicate, List.set_cons_zero, List.set_cons_succ, if_true, if_false, ↓reduceIte, String.reduceEq, reduceCtorEq]
    rfl
  | iff k y =>
    unfold PR.W ifW
    try simp only [EVA, Nat.reduceSub, List.reduceReplicate, List.set_cons_zero, List.set_cons_succ, if_true, if_false, ↓reduceIte, String.reduceEq, reduceCtorEq]
    rw [bnd_ok (get y (hp y (.inr ⟨k, rfl⟩)))]
    try simp only [EVA, Nat.reduceSub, List.reduceReplicate, List.set_cons_zero, List.set_cons_succ, if_true, if_false, ↓reduceIte, String.reduceEq, reduceCtorEq]
    rfl
abbrev Tr := Nat × List Rw × En
def tW (t : Tr) : W := .tup [.ref t.1, t.2.2.W]
def BA (ph : PH) (l : Nat) (ts : List Tr) : Prop := ph[l]? = some (.lst (ts.map tW)) ∧ ∀ t ∈ ts, ph[t.1]? = some (.lst (t.2.1.map Rw.W))
theorem BA.ex {ph H : PH} {l : Nat} {ts : List Tr} (h : BA ph l ts) (x : Ex ph H) : BA H l ts := ⟨x.get h.1, fun t ht => x.get (h.2 t ht)⟩
def ends (ts : List Tr) : List En := ts.map (·.2.2)
def rowsOf (ts : List Tr) (b : Nat) : List Rw := ((ts[b]?).map (·.2.1)).getD []
def bk (ts : List Tr) (k : Nat) : Nat := (run (ends ts) k).2.getD 0
def RR (ts : List Tr) : Nat → List PR
  | 0 => []
  | k + 1 => RR ts k ++ (rowsOf ts (bk ts k)).map PR.rw ++ tlP (en (ends ts) (bk ts k)) (run (ends ts) (k + 1)).1
def pls (ts : List Tr) : Nat → Pl
  | 0 => []
  | k + 1 => pls ts k ++ [(bk ts k, (RR ts k).length)]
structure Good (ts : List Tr) : Prop where
  ok : ∀ e ∈ ends ts, e.ok (ends ts).length
  pos : 0 < ts.length
  few : ts.length ≤ 20
  rws : ∀ t ∈ ts, t.2.1.length ≤ 10
section
variable {ts : List Tr}
theorem ends_len : (ends ts).length = ts.length := by unfold ends; simp
theorem Good.pos' (g : Good ts) : 0 < (ends ts).length := by rw [ends_len]; exact g.pos
theorem pls_keys (g : Good ts) : ∀ k, k ≤ ts.length → (pls ts k).map (·.1) = (run (ends ts) k).1
  | 0, _ => rfl
  | k + 1, hk => by
    obtain ⟨b, _, _, e, e1, _⟩ := run_step g.ok g.pos' (k := k) (by rw [ends_len]; omega)
    show (pls ts k ++ [(bk ts k, (RR ts k).length)]).map (·.1) = _
    rw [List.map_append, pls_keys g k (by omega), e1]
    have : bk ts k = b := by unfold bk; rw [e]; rfl
    rw [this]; rfl
theorem rows_len (g : Good ts) (b : Nat) : (rowsOf ts b).length ≤ 10 := by
  unfold rowsOf
  cases h : ts[b]? with
  | none => simp
  | some t => exact g.rws t (List.mem_of_getElem? h)
theorem RR_len (g : Good ts) : ∀ k, (RR ts k).length ≤ 12 * k
  | 0 => by simp [RR]
  | k + 1 => by
    have h1 := RR_len g k
    have h2 := rows_len g (bk ts k)
    have h3 := tlP_len (en (ends ts) (bk ts k)) (run (ends ts) (k + 1)).1
    show (RR ts k ++ (rowsOf ts (bk ts k)).map PR.rw ++ tlP (en (ends ts) (bk ts k)) (run (ends ts) (k + 1)).1).length ≤ _
    simp only [List.length_append, List.length_map]
    omega
theorem RR_ok (g : Good ts) : ∀ k, ∀ p ∈ RR ts k, p.ok ts.length
  | 0, p, hp => by cases hp
  | k + 1, p, hp => by
    have hp : p ∈ RR ts k ++ (rowsOf ts (bk ts k)).map PR.rw ++ tlP (en (ends ts) (bk ts k)) (run (ends ts) (k + 1)).1 := hp
    rcases List.mem_append.mp hp with hp | hp
    · rcases List.mem_append.mp hp with hp | hp
      · exact RR_ok g k p hp
      · obtain ⟨r, _, rfl⟩ := List.mem_map.mp hp
        trivial
    · have := tlP_ok (en_ok g.ok (bk ts k)) _ p hp
      rwa [ends_len] at this
theorem set_L0 (ph m : PH) (a b a' : PO) : (ph ++ [a] ++ [b] ++ m).set ph.length a' = ph ++ [a'] ++ [b] ++ m := by
  have := set_mid ph ([b] ++ m) a a'
  simpa using this
theorem set_L1 (ph m : PH) (a b b' : PO) : (ph ++ [a] ++ [b] ++ m).set (ph.length + 1) b' = ph ++ [a] ++ [b'] ++ m := by
  have := set_mid (ph ++ [a]) m b b'
  simpa using this
theorem get_L0 {ph H : PH} {a b : PO} (x : Ex (ph ++ [a] ++ [b]) H) : H[ph.length]? = some a := x.get ((Ex.one _ _).get (get_new _ _))
theorem get_L1 {ph H : PH} {a b : PO} (x : Ex (ph ++ [a] ++ [b]) H) : H[ph.length + 1]? = some b := x.get (by have := get_new (ph ++ [a]) b; simpa using this)
theorem ts_at {b : Nat} (hb : b < ts.length) : ∃ t, ts[b]? = some t ∧ t ∈ ts ∧ atI (ts.map tW) (b : Int) = some (tW t) ∧ rowsOf ts b = t.2.1 ∧ en (ends ts) b = t.2.2 := by
  refine ⟨ts[b], by simp [hb], List.getElem_mem hb, ?_, ?_, ?_⟩
  · rw [atI_nat _ _ (by simpa using hb)]; simp [hb]
  · unfold rowsOf; simp [hb]
  · unfold en ends; simp [hb]
end
end IL.K27
namespace IL.K27
open PySem L2
section
variable {ts : List Tr}
noncomputable def laidBody : SM := (sSeq (sAsg (eCallB lenW (aCons (eVar 2) aNil)) (gSubV (eVar 1) (eVar 3))) (sSeq (sAsg (eOp ixV (eOp ixV (eVar 0) (eVar 3)) (eC (.int (1)))) (gN 4)) (sSeq (sExpr (eMeth isL extendW (eVar 2) (aCons (eOp ixV (eOp ixV (eVar 0) (eVar 3)) (eC (.int (0)))) aNil))) (sSeq (sExpr (eMeth isL extendW (eVar 2) (aCons (eCall f_rows_for_end (aCons (eVar 4) (aCons (eVar 1) aNil))) aNil))) (sSeq (sAsg (eCall f_straight_behind (aCons (eVar 4) aNil)) (gN 3)) (sIf (tOrM (eT (eOp isNW (eVar 3) (eC .non))) (eT (eOp inV (eVar 3) (eVar 1)))) (sAsg (eCall f_least_not_laid (aCons (eVar 0) (aCons (eVar 1) aNil))) (gN 3)) sNext))))))
theorem oW_some (n : Nat) : oW (some n) = .int (n : Int) := rfl
theorem isNon_o (o : Option Nat) : isNon (oW o) = o.isNone := by cases o <;> rfl
theorem laid_step (g : Good ts) {ph H : PH} {l : Nat} (hb : BA ph l ts) {k : Nat} (hk : k < ts.length) (y : Option W) (x : Ex (ph ++ [.dct (plW (pls ts k))] ++ [.lst ((RR ts k).map PR.W)]) H) :
    ∃ z H', laidBody [some (.ref l), some (.ref ph.length), some (.ref (ph.length + 1)), some (oW (run (ends ts) k).2), y] H = .ok (.nx [some (.ref l), some (.ref ph.length), some (.ref (ph.length + 1)), some (oW (run (ends ts) (k + 1)).2), z]) H' ∧ Ex (ph ++ [.dct (plW (pls ts (k + 1)))] ++ [.lst ((RR ts (k + 1)).map PR.W)]) H' := by
  obtain ⟨b, hbl, hbn, e0, e1, e2⟩ := run_step g.ok g.pos' (k := k) (by rw [ends_len]; exact hk)
  rw [ends_len] at hbl
  have ebk : bk ts k = b := by unfold bk; rw [e0]; rfl
  obtain ⟨t, htb, htm, hat, hrows, hen⟩ := ts_at hbl
  have hRl := RR_len g k
  have hfew := g.few
  have hrl := g.rws t htm
  have hkeys := pls_keys g k (by omega)
  have hkeys1 := pls_keys g (k + 1) (by omega)
  rw [e0, oW_some]
  unfold laidBody
  try simp only [EVA, Nat.reduceSub, List.reduceReplicate, List.set_cons_zero, List.set_cons_succ, if_true, if_false, ↓reduceIte, String.reduceEq, reduceCtorEq]
  -- the place
  have h0 := get_L0 x
  have h1 := get_L1 x
  rw [bnd_ok (len_ref h1)]
  try simp only [EVA, Nat.reduceSub, List.reduceReplicate, List.set_cons_zero, List.set_cons_succ, if_true, if_false, ↓reduceIte, String.reduceEq, reduceCtorEq, List.length_map]
  have hnk : b ∉ (pls ts k).map (·.1) := by rw [hkeys]; exact hbn
  have hpl : (pls ts k).length ≤ 20 := by
    have : ((pls ts k).map (·.1)).length = k := by rw [hkeys]; exact (run_ok g.ok g.pos' k (by rw [ends_len]; omega)).1
    rw [List.length_map] at this
    omega
  rw [bnd_ok (setv_dct h0 (okI _ _) (Nat.lt_of_lt_of_le (show (plW (pls ts k)).length < 100000 by unfold plW; rw [List.length_map]; omega) (small (by omega))) _)]
  rw [put_pl _ _ _ hnk]
  have epl : pls ts k ++ [(b, (RR ts k).length)] = pls ts (k + 1) := by show _ = pls ts k ++ [(bk ts k, (RR ts k).length)]; rw [ebk]
  rw [epl]
  obtain ⟨m, rfl⟩ := x
  rw [set_L0]
  have x1 : Ex (ph ++ [PO.dct (plW (pls ts (k + 1)))] ++ [PO.lst ((RR ts k).map PR.W)]) (ph ++ [PO.dct (plW (pls ts (k + 1)))] ++ [PO.lst ((RR ts k).map PR.W)] ++ m) := ⟨m, rfl⟩
  generalize ph ++ [PO.dct (plW (pls ts (k + 1)))] ++ [PO.lst ((RR ts k).map PR.W)] ++ m = H1 at x1
  have hb1 := hb.ex (((Ex.one _ _).trans (Ex.one _ _)).trans x1)
  try simp only [EVA, Nat.reduceSub, List.reduceReplicate, List.set_cons_zero, List.set_cons_succ, if_true, if_false, ↓reduceIte, String.reduceEq, reduceCtorEq]
  -- the end
  rw [bnd_ok (ixv_ref hb1.1 hat)]
  unfold tW
  try simp only [EVA, Nat.reduceSub, List.reduceReplicate, List.set_cons_zero, List.set_cons_succ, if_true, if_false, ↓reduceIte, String.reduceEq, reduceCtorEq]
  -- the rows
  have hR1 := get_L1 x1
  rw [bnd_ok (chk_ref hR1)]
  rw [bnd_ok (ixv_ref hb1.1 hat)]
  unfold tW
  try simp only [EVA, Nat.reduceSub, List.reduceReplicate, List.set_cons_zero, List.set_cons_succ, if_true, if_false, ↓reduceIte, String.reduceEq, reduceCtorEq]
  rw [bnd_ok (extend_ref hR1 (hb1.2 t htm) (small (by simp only [List.length_map]; omega)))]
  obtain ⟨m1, rfl⟩ := x1
  rw [set_L1]
  try simp only [EVA, Nat.reduceSub, List.reduceReplicate, List.set_cons_zero, List.set_cons_succ, if_true, if_false, ↓reduceIte, String.reduceEq, reduceCtorEq]
  have x2 : Ex (ph ++ [PO.dct (plW (pls ts (k + 1)))] ++ [PO.lst ((RR ts k).map PR.W ++ t.2.1.map Rw.W)]) (ph ++ [PO.dct (plW (pls ts (k + 1)))] ++ [PO.lst ((RR ts k).map PR.W ++ t.2.1.map Rw.W)] ++ m1) := ⟨m1, rfl⟩
  generalize ph ++ [PO.dct (plW (pls ts (k + 1)))] ++ [PO.lst ((RR ts k).map PR.W ++ t.2.1.map Rw.W)] ++ m1 = H2 at x2
  -- what is behind them
  have hR2 := get_L1 x2
  rw [bnd_ok (chk_ref hR2)]
  obtain ⟨H3, et, eH3⟩ := tail_s t.2.2 (pls ts (k + 1)) (get_L0 x2)
  rw [bnd_ok et]
  subst eH3
  have htl : (tl t.2.2 ((pls ts (k + 1)).map (·.1))).length ≤ 2 := by rw [← tlP_W, List.length_map]; exact tlP_len _ _
  rw [bnd_ok (extend_ref ((Ex.one _ _).get hR2) (get_new _ _) (small (by simp only [List.length_append, List.length_map]; omega)))]
  obtain ⟨m2, eH⟩ := x2.trans (Ex.one H2 (.lst (tl t.2.2 ((pls ts (k + 1)).map (·.1)))))
  rw [eH, set_L1]
  have eR : (RR ts k).map PR.W ++ t.2.1.map Rw.W ++ tl t.2.2 ((pls ts (k + 1)).map (·.1)) = (RR ts (k + 1)).map PR.W := by
    show _ = (RR ts k ++ (rowsOf ts (bk ts k)).map PR.rw ++ tlP (en (ends ts) (bk ts k)) (run (ends ts) (k + 1)).1).map PR.W
    rw [List.map_append, List.map_append, tlP_W, ebk, hrows, hen, hkeys1, List.map_map]
    rfl
  rw [eR]
  have x3 : Ex (ph ++ [PO.dct (plW (pls ts (k + 1)))] ++ [PO.lst ((RR ts (k + 1)).map PR.W)]) (ph ++ [PO.dct (plW (pls ts (k + 1)))] ++ [PO.lst ((RR ts (k + 1)).map PR.W)] ++ m2) := ⟨m2, rfl⟩
  generalize ph ++ [PO.dct (plW (pls ts (k + 1)))] ++ [PO.lst ((RR ts (k + 1)).map PR.W)] ++ m2 = H4 at x3
  try simp only [EVA, Nat.reduceSub, List.reduceReplicate, List.set_cons_zero, List.set_cons_succ, if_true, if_false, ↓reduceIte, String.reduceEq, reduceCtorEq]
  rw [bnd_ok (straight_s t.2.2 H4)]
  try simp only [EVA, Nat.reduceSub, List.reduceReplicate, List.set_cons_zero, List.set_cons_succ, if_true, if_false, ↓reduceIte, String.reduceEq, reduceCtorEq, isNon_o]
  have hb4 := hb.ex (((Ex.one _ _).trans (Ex.one _ _)).trans x3)
  have hleast := least_s (nb := ts.length) hb4.1 (by simp) (by omega) (get_L0 x3)
  rw [hkeys1, e1] at hleast
  have enx : (run (ends ts) (k + 1)).2 = nx ts.length ((run (ends ts) k).1 ++ [b]) t.2.2 := by rw [e2, ends_len, hen]
  rw [enx]
  unfold nx
  cases hs : st t.2.2 with
  | none =>
    simp only [Option.isNone_none, if_true]
    rw [bnd_ok hleast]
    exact ⟨_, H4, rfl, x3⟩
  | some n =>
    simp only [Option.isNone_some, Bool.false_eq_true, if_false]
    rw [oW_some, bnd_ok (in_pl (get_L0 x3) n), hkeys1, e1]
    try simp only [EVA, Nat.reduceSub, List.reduceReplicate, List.set_cons_zero, List.set_cons_succ, if_true, if_false, ↓reduceIte, String.reduceEq, reduceCtorEq]
    by_cases hn : n ∈ (run (ends ts) k).1 ++ [b]
    · simp only [decide_eq_true hn, if_true, if_pos hn]
      rw [bnd_ok hleast]
      exact ⟨_, H4, rfl, x3⟩
    · simp only [decide_eq_false hn, Bool.false_eq_true, if_false, if_neg hn]
      exact ⟨_, H4, rfl, x3⟩
def last (ts : List Tr) : List W := (RR ts ts.length).map (PR.fn (pls ts ts.length))
theorem laid_eq : b_laid = sSeq (sAsg eDct (gN 1)) (sSeq (sAsg (eLst aNil) (gN 2)) (sSeq (sAsg (eC (.int (0))) (gN 3)) (sSeq (sWhile (eT (eOp notNW (eVar 3) (eC .non))) laidBody) (sRet (eComp (iBoth (eVar 2)) [none, some 1] (gN 0) cTrue (eCall f_by_place (aCons (eVar 0) (aCons (eVar 1) aNil)))))))) := rfl
theorem laid_s (g : Good ts) {ph : PH} {l : Nat} (hb : BA ph l ts) : ∃ r ph', f_laid [.ref l] ph = .ok (.ref r) ph' ∧ Ex ph ph' ∧ ph.length ≤ r ∧ ph'[r]? = some (.lst (last ts)) := by
  unfold f_laid
  rw [laid_eq]
  try simp only [EVA, Nat.reduceSub, List.reduceReplicate, List.set_cons_zero, List.set_cons_succ, if_true, if_false, ↓reduceIte, String.reduceEq, reduceCtorEq]
  rw [bnd_ok (newD_ap ph)]
  try simp only [EVA, Nat.reduceSub, List.reduceReplicate, List.set_cons_zero, List.set_cons_succ, if_true, if_false, ↓reduceIte, String.reduceEq, reduceCtorEq]
  rw [bnd_new _ _ _ (small (by simp))]
  rw [show (ph ++ [PO.dct []]).length = ph.length + 1 by simp]
  obtain ⟨σ', H, e, hD⟩ := while_inv (t := eT (eOp notNW (eVar 3) (eC .non))) (b := laidBody)
    (fun m σ H => ∃ k, m = ts.length - k ∧ k ≤ ts.length ∧ (∃ y, σ = [some (.ref l), some (.ref ph.length), some (.ref (ph.length + 1)), some (oW (run (ends ts) k).2), y]) ∧ Ex (ph ++ [.dct (plW (pls ts k))] ++ [.lst ((RR ts k).map PR.W)]) H)
    (fun σ H => (∃ y z, σ = [some (.ref l), some (.ref ph.length), some (.ref (ph.length + 1)), y, z]) ∧ Ex (ph ++ [.dct (plW (pls ts ts.length))] ++ [.lst ((RR ts ts.length).map PR.W)]) H)
    (fun m σ H hI => by
      obtain ⟨k, rfl, hk, ⟨y, rfl⟩, x⟩ := hI
      by_cases hlt : k < ts.length
      · obtain ⟨b, _, _, e0, _, _⟩ := run_step g.ok g.pos' (k := k) (by rw [ends_len]; exact hlt)
        obtain ⟨z, H', e1, x1⟩ := laid_step g hb hlt y x
        refine .inr ⟨H, ?_, _, H', e1, _, .inl rfl, ts.length - (k + 1), by omega, k + 1, rfl, by omega, ⟨z, rfl⟩, x1⟩
        try simp only [EVA, Nat.reduceSub, List.reduceReplicate, List.set_cons_zero, List.set_cons_succ, if_true, if_false, ↓reduceIte, String.reduceEq, reduceCtorEq, isNon_o, e0, Option.isNone_some]
      · have hk : k = ts.length := by omega
        subst hk
        have hN := (run_ok g.ok g.pos' ts.length (by rw [ends_len]; omega)).2.2.2.2 (by rw [ends_len])
        refine .inl ⟨H, ?_, ⟨_, _, rfl⟩, x⟩
        try simp only [EVA, Nat.reduceSub, List.reduceReplicate, List.set_cons_zero, List.set_cons_succ, if_true, if_false, ↓reduceIte, String.reduceEq, reduceCtorEq, isNon_o, hN, Option.isNone_none])
    ts.length [some (.ref l), some (.ref ph.length), some (.ref (ph.length + 1)), some (.int 0), none] (ph ++ [PO.dct []] ++ [PO.lst []])
    ⟨0, by omega, by omega, ⟨none, rfl⟩, Ex.refl _⟩
  obtain ⟨⟨y, z, rfl⟩, x⟩ := hD
  rw [bnd_ok e]
  try simp only [EVA, Nat.reduceSub, List.reduceReplicate, List.set_cons_zero, List.set_cons_succ, if_true, if_false, ↓reduceIte, String.reduceEq, reduceCtorEq]
  have hR := get_L1 x
  have hall : ∀ n, n < ts.length → n ∈ (pls ts ts.length).map (·.1) := fun n hn => by
    rw [pls_keys g _ (Nat.le_refl _)]
    obtain ⟨h1, h2, h3, _, _⟩ := run_ok g.ok g.pos' ts.length (by rw [ends_len]; omega)
    by_cases hm : n ∈ (run (ends ts) ts.length).1
    · exact hm
    · have := nd_len ts.length (n :: (run (ends ts) ts.length).1) (List.nodup_cons.mpr ⟨hm, h2⟩) fun q hq => by
        rcases List.mem_cons.mp hq with rfl | hq
        · exact hn
        · have := h3 q hq
          rwa [ends_len] at this
      simp at this
      omega
  obtain ⟨ph', ec, xc⟩ := comp_run (σ := [some (W.ref l), some (W.ref ph.length), some (W.ref (ph.length + 1)), y, z]) (cap := [none, some 1]) (g := gN 0) (c := cTrue) (e := eCall f_by_place (aCons (eVar 0) (aCons (eVar 1) aNil))) (RR ts ts.length) PR.W (iBoth_ref (m := eVar 2) (show eVar 2 [some (W.ref l), some (W.ref ph.length), some (W.ref (ph.length + 1)), y, z] H = .ok (.ref (ph.length + 1)) H from rfl) hR)
    (fun ph' x => decide_eq_true (x.get hR)) (small (by have := RR_len g ts.length; have := g.few; omega)) (fun p => some (PR.fn (pls ts ts.length) p)) (fun σ => ∃ y, σ = [y, some (W.ref ph.length)]) ⟨none, rfl⟩
    (fun p hp σ H1 hS hE => by
      obtain ⟨y, rfl⟩ := hS
      refine ⟨_, rfl, ⟨_, rfl⟩, true, H1, rfl, Ex.refl _, .inr ⟨rfl, PR.fn (pls ts ts.length) p, H1, ?_, Ex.refl _, rfl⟩⟩
      show eCall f_by_place (aCons (eVar 0) (aCons (eVar 1) aNil)) [some p.W, some (W.ref ph.length)] H1 = _
      try simp only [EVA, Nat.reduceSub, List.reduceReplicate, List.set_cons_zero, List.set_cons_succ, if_true, if_false, ↓reduceIte, String.reduceEq, reduceCtorEq]
      have hok := RR_ok g ts.length p hp
      exact byplace_s (hE.get (get_L0 x)) p fun n hn => by
        rcases hn with rfl | ⟨k, rfl⟩
        · exact hall n hok
        · exact hall n hok)
  rw [bnd_ok ec]
  rw [fm_some] at xc
  refine ⟨H.length, ph', rfl, (((Ex.one _ _).trans (Ex.one _ _)).trans x).trans ((Ex.one _ _).trans xc), ?_, xc.get (get_new _ _)⟩
  have := x.len
  simp at this
  omega
end
end IL.K27
namespace IL.K27
open PySem L2
theorem ixT_m2 (a b : W) : lift (ixW (.tup [a, b]) (.int (-1))) = pur b := (rfl)
theorem ixT_m3 (a b c : W) : lift (ixW (.tup [a, b, c]) (.int (-1))) = pur c := (rfl)
theorem ixT_m4 (a b c d : W) : lift (ixW (.tup [a, b, c, d]) (.int (-1))) = pur d := (rfl)
theorem Ex.set' {a b : PH} (h : Ex a b) {i : Nat} (hi : a.length ≤ i) (o : PO) : Ex a (b.set i o) := by
  obtain ⟨m, rfl⟩ := h
  rw [List.set_append_right _ _ hi]
  exact ⟨_, rfl⟩
def iN (l : List Nat) : List Int := l.map fun (n : Nat) => (n : Int)
theorem mem_iN (l : List Nat) (n : Nat) : decide ((n : Int) ∈ iN l) = decide (n ∈ l) := by
  rw [decide_eq_decide]
  unfold iN
  constructor
  · intro h
    obtain ⟨m, hm, e⟩ := List.mem_map.mp h
    have : m = n := by omega
    rw [← this]; exact hm
  · intro h
    exact List.mem_map.mpr ⟨n, h, rfl⟩
theorem in_N {ph : PH} {i : Nat} {l : List Nat} (h : ph[i]? = some (.lst ((iN l).map W.int))) (n : Nat) : lift (inV (.int (n : Int)) (.ref i)) ph = .ok (.bl (decide (n ∈ l))) ph := by
  rw [inv_ints h, mem_iN]
theorem nin_N {ph : PH} {i : Nat} {l : List Nat} (h : ph[i]? = some (.lst ((iN l).map W.int))) (n : Nat) : lift (ninV (.int (n : Int)) (.ref i)) ph = .ok (.bl (!decide (n ∈ l))) ph := by
  rw [ninv_ints h, mem_iN]
theorem iN_app (a b : List Nat) : iN (a ++ b) = iN a ++ iN b := by unfold iN; rw [List.map_append]
theorem minL_spec {ns : List Int} (h : ns ≠ []) : minL ns ∈ ns ∧ ∀ x ∈ ns, minL ns ≤ x := by
  have hp : 0 < ns.length := List.length_pos_iff.mpr h
  unfold minL
  constructor
  · obtain ⟨i, hi, e⟩ := minUp_mem (fun i => ns.getD i 0) (ns.length - 1)
    rw [e]
    have : i < ns.length := by omega
    show ns.getD i 0 ∈ ns
    rw [show ns.getD i 0 = ns[i] by simp [this]]
    exact List.getElem_mem this
  · intro x hx
    obtain ⟨i, hi, e⟩ := List.getElem_of_mem hx
    have := minUp_le (fun i => ns.getD i 0) (ns.length - 1) i (by omega)
    have e2 : ns.getD i 0 = x := by simp [hi, e]
    rw [← e2]; exact this
theorem min_lnl (nb : Nat) (S : List Nat) : minL (iN ((List.range nb).filter fun i => decide (i ∉ S)) ++ [(nb : Int)]) = (((lnl nb S).getD nb : Nat) : Int) := by
  obtain ⟨h1, h2⟩ := minL_spec (ns := iN ((List.range nb).filter fun i => decide (i ∉ S)) ++ [(nb : Int)]) (by simp)
  have mem : ∀ x ∈ iN ((List.range nb).filter fun i => decide (i ∉ S)) ++ [(nb : Int)], (∃ n : Nat, x = (n : Int) ∧ n < nb ∧ n ∉ S) ∨ x = (nb : Int) := fun x hx => by
    rcases List.mem_append.mp hx with hx | hx
    · unfold iN at hx
      obtain ⟨n, hn, rfl⟩ := List.mem_map.mp hx
      obtain ⟨a, b⟩ := List.mem_filter.mp hn
      exact .inl ⟨n, rfl, List.mem_range.mp a, by simpa using b⟩
    · exact .inr (by simpa using hx)
  cases e : lnl nb S with
  | none =>
    unfold lnl at e
    rw [List.find?_eq_none] at e
    rcases mem _ h1 with ⟨n, _, hn, hS⟩ | q
    · have := e n (List.mem_range.mpr hn)
      simp [hS] at this
    · rw [q]; rfl
  | some n =>
    obtain ⟨a, b, c⟩ := List.find?_range_eq_some.mp e
    have hn := List.mem_range.mp b
    have hS : n ∉ S := by simpa using a
    have hle := h2 (n : Int) (List.mem_append_left _ (by unfold iN; exact List.mem_map.mpr ⟨n, List.mem_filter.mpr ⟨b, a⟩, rfl⟩))
    rcases mem _ h1 with ⟨m, q, hm, hmS⟩ | q
    · rw [q] at hle ⊢
      have : ¬ m < n := fun hlt => by
        have := c m hlt
        simp at this
        exact hmS this
      show (m : Int) = (n : Int)
      omega
    · rw [q] at hle
      omega
section
variable {ts : List Tr}
noncomputable def orderBody : SM := (sSeq (sExpr (eMeth isL appendW (eVar 1) (aCons (eVar 2) aNil))) (sSeq (sAsg (eOp ixV (eOp ixV (eVar 0) (eVar 2)) (eC (.int (1)))) (gN 3)) (sIf (tAndM (eT (eOp neW (eOp ixV (eVar 3) (eC (.int (0)))) (eC (.str "end")))) (eT (eOp ninV (eOp ixV (eVar 3) (eUn negW (eC (.int (1))))) (eVar 1)))) (sAsg (eOp ixV (eVar 3) (eUn negW (eC (.int (1))))) (gN 2)) (sAsg (eCallB min1W (aCons (eOp addW (eComp (iR1 (aCons (eCallB lenW (aCons (eVar 0) aNil)) aNil)) [none, some 1] (gN 0) (eT (eOp ninV (eVar 0) (eVar 1))) (eVar 0)) (eLst (aCons (eCallB lenW (aCons (eVar 0) aNil)) aNil))) aNil)) (gN 2)))))
theorem minpart {ph : PH} {l o : Nat} {S : List Nat} {ws : List W} {nb : Nat} (hl : ph[l]? = some (.lst ws)) (hn : ws.length = nb) (hb : nb ≤ 1000) (ho : ph[o]? = some (.lst ((iN S).map W.int))) (y z : Option W) :
    ∃ ph', sAsg (eCallB min1W (aCons (eOp addW (eComp (iR1 (aCons (eCallB lenW (aCons (eVar 0) aNil)) aNil)) [none, some 1] (gN 0) (eT (eOp ninV (eVar 0) (eVar 1))) (eVar 0)) (eLst (aCons (eCallB lenW (aCons (eVar 0) aNil)) aNil))) aNil)) (gN 2) [some (.ref l), some (.ref o), y, z] ph = .ok (.nx [some (.ref l), some (.ref o), some (.int (((lnl nb S).getD nb : Nat) : Int)), z]) ph' ∧ Ex ph ph' := by
  have him : iR1 (aCons (eCallB lenW (aCons (eVar 0) aNil)) aNil) [some (.ref l), some (.ref o), y, z] ph = .ok ((List.range nb).map fun k : Nat => W.int (0 + ((k : Nat) : Int)), fun _ => true) ph := by
    rw [iR1_ap (j := (nb : Int)) (ph' := ph) (by
      try simp only [EVA, Nat.reduceSub, List.reduceReplicate, List.set_cons_zero, List.set_cons_succ, if_true, if_false, ↓reduceIte, String.reduceEq, reduceCtorEq]
      rw [bnd_ok (len_ref hl), hn]
      try simp only [EVA, Nat.reduceSub, List.reduceReplicate, List.set_cons_zero, List.set_cons_succ, if_true, if_false, ↓reduceIte, String.reduceEq, reduceCtorEq]) (by omega) (by omega), Int.toNat_natCast]; rfl
  obtain ⟨ph1, e1, x1⟩ := comp_run (cap := [none, some 1]) (g := gN 0) (c := eT (eOp ninV (eVar 0) (eVar 1))) (e := eVar 0) _ _ him (fun _ _ => rfl) (small (by simp; omega)) (fun k : Nat => if k ∈ S then none else some (W.int ((k : Nat) : Int))) (fun σ => ∃ y, σ = [y, some (.ref o)]) ⟨none, rfl⟩ (fun k hk σ H hS hE => by
    obtain ⟨y, rfl⟩ := hS
    refine ⟨_, rfl, ⟨_, rfl⟩, !decide (k ∈ S), H, ?_, Ex.refl _, ?_⟩
    · show eT (eOp ninV (eVar 0) (eVar 1)) [some (.int (0 + ((k : Nat) : Int))), some (.ref o)] H = _
      rw [Int.zero_add]
      try simp only [EVA, Nat.reduceSub, List.reduceReplicate, List.set_cons_zero, List.set_cons_succ, if_true, if_false, ↓reduceIte, String.reduceEq, reduceCtorEq]
      rw [bnd_ok (nin_N (hE.get ho) k)]
      try simp only [EVA, Nat.reduceSub, List.reduceReplicate, List.set_cons_zero, List.set_cons_succ, if_true, if_false, ↓reduceIte, String.reduceEq, reduceCtorEq]
    · by_cases hm : k ∈ S
      · exact .inl ⟨by simp [hm], by simp [hm]⟩
      · refine .inr ⟨by simp [hm], W.int ((k : Nat) : Int), H, ?_, Ex.refl _, by simp [hm]⟩
        show eVar 0 [some (.int (0 + ((k : Nat) : Int))), some (.ref o)] H = _
        rw [Int.zero_add]; rfl)
  have ef : (List.range nb).filterMap (fun k : Nat => if k ∈ S then none else some (W.int ((k : Nat) : Int))) = (iN ((List.range nb).filter fun i => decide (i ∉ S))).map W.int := by
    unfold iN
    rw [List.map_map]
    generalize List.range nb = L
    induction L with
    | nil => rfl
    | cons a L ih =>
      by_cases hm : a ∈ S
      · rw [List.filterMap_cons_none (by simp [hm]), ih, List.filter_cons, if_neg (by simp [hm])]
      · rw [List.filterMap_cons_some (b := W.int (a : Int)) (by simp [hm]), ih, List.filter_cons, if_pos (by simp [hm])]
        rfl
  rw [ef] at x1
  try simp only [EVA, Nat.reduceSub, List.reduceReplicate, List.set_cons_zero, List.set_cons_succ, if_true, if_false, ↓reduceIte, String.reduceEq, reduceCtorEq]
  rw [bnd_ok e1]
  have x01 := (Ex.one _ _).trans x1
  rw [bnd_ok (len_ref (x01.get hl)), hn]
  try simp only [EVA, Nat.reduceSub, List.reduceReplicate, List.set_cons_zero, List.set_cons_succ, if_true, if_false, ↓reduceIte, String.reduceEq, reduceCtorEq]
  rw [bnd_new _ _ _ (small (by simp))]
  have hlenf : ((List.range nb).filter fun i => decide (i ∉ S)).length ≤ nb := Nat.le_trans (List.length_filter_le _ _) (by simp)
  rw [bnd_ok (add_ref ((Ex.one _ _).get (x1.get (get_new _ _))) (get_new _ _) (small (by
    rw [List.length_map]
    unfold iN
    rw [List.length_map]
    simp only [List.length_cons, List.length_nil]
    omega)))]
  try simp only [EVA, Nat.reduceSub, List.reduceReplicate, List.set_cons_zero, List.set_cons_succ, if_true, if_false, ↓reduceIte, String.reduceEq, reduceCtorEq]
  have em : (iN ((List.range nb).filter fun i => decide (i ∉ S))).map W.int ++ [W.int (nb : Int)] = (iN ((List.range nb).filter fun i => decide (i ∉ S)) ++ [(nb : Int)]).map W.int := by rw [List.map_append]; rfl
  rw [em]
  rw [bnd_ok (min1_ref (get_new _ _) (by simp)), min_lnl]
  try simp only [EVA, Nat.reduceSub, List.reduceReplicate, List.set_cons_zero, List.set_cons_succ, if_true, if_false, ↓reduceIte, String.reduceEq, reduceCtorEq]
  exact ⟨_, rfl, (x01.trans (Ex.one _ _)).trans (Ex.one _ _)⟩
theorem order_step (g : Good ts) {ph H : PH} {l : Nat} (hb : BA ph l ts) {k : Nat} (hk : k < ts.length) (y : Option W) (x : Ex (ph ++ [.lst ((iN (run (ends ts) k).1).map W.int)]) H) :
    ∃ z H', orderBody [some (.ref l), some (.ref ph.length), some (.int (((run (ends ts) k).2.getD ts.length : Nat) : Int)), y] H = .ok (.nx [some (.ref l), some (.ref ph.length), some (.int (((run (ends ts) (k + 1)).2.getD ts.length : Nat) : Int)), z]) H' ∧ Ex (ph ++ [.lst ((iN (run (ends ts) (k + 1)).1).map W.int)]) H' := by
  obtain ⟨b, hbl, hbn, e0, e1, e2⟩ := run_step g.ok g.pos' (k := k) (by rw [ends_len]; exact hk)
  rw [ends_len] at hbl
  obtain ⟨t, htb, htm, hat, hrows, hen⟩ := ts_at hbl
  have hfew := g.few
  have hSl := (run_ok g.ok g.pos' k (by rw [ends_len]; omega)).1
  rw [e0]
  show ∃ z H', orderBody [some (.ref l), some (.ref ph.length), some (.int ((b : Nat) : Int)), y] H = _ ∧ _
  unfold orderBody
  try simp only [EVA, Nat.reduceSub, List.reduceReplicate, List.set_cons_zero, List.set_cons_succ, if_true, if_false, ↓reduceIte, String.reduceEq, reduceCtorEq]
  have h0 := x.get (get_new _ _)
  rw [bnd_ok (chk_ref h0)]
  rw [bnd_ok (append_ref h0 (Nat.lt_of_lt_of_le (show _ < 1000 by unfold iN; simp only [List.length_map, hSl]; omega) (small (by omega))) _)]
  obtain ⟨m, rfl⟩ := x
  rw [set_mid]
  have eS : (iN (run (ends ts) k).1).map W.int ++ [W.int (b : Int)] = (iN (run (ends ts) (k + 1)).1).map W.int := by rw [e1, iN_app, List.map_append]; rfl
  rw [eS]
  have x1 : Ex (ph ++ [PO.lst ((iN (run (ends ts) (k + 1)).1).map W.int)]) (ph ++ [PO.lst ((iN (run (ends ts) (k + 1)).1).map W.int)] ++ m) := ⟨m, rfl⟩
  generalize ph ++ [PO.lst ((iN (run (ends ts) (k + 1)).1).map W.int)] ++ m = H1 at x1
  have hb1 := hb.ex ((Ex.one _ _).trans x1)
  try simp only [EVA, Nat.reduceSub, List.reduceReplicate, List.set_cons_zero, List.set_cons_succ, if_true, if_false, ↓reduceIte, String.reduceEq, reduceCtorEq]
  rw [bnd_ok (ixv_ref hb1.1 hat)]
  unfold tW
  try simp only [EVA, Nat.reduceSub, List.reduceReplicate, List.set_cons_zero, List.set_cons_succ, if_true, if_false, ↓reduceIte, String.reduceEq, reduceCtorEq]
  have ho := x1.get (get_new _ _)
  have enx : (run (ends ts) (k + 1)).2 = nx ts.length (run (ends ts) (k + 1)).1 t.2.2 := by rw [e2, ends_len, hen, e1]
  rw [enx]
  have hlen : (ts.map tW).length = ts.length := by simp
  have fall : ∀ z : Option W, ∃ H', sAsg (eCallB min1W (aCons (eOp addW (eComp (iR1 (aCons (eCallB lenW (aCons (eVar 0) aNil)) aNil)) [none, some 1] (gN 0) (eT (eOp ninV (eVar 0) (eVar 1))) (eVar 0)) (eLst (aCons (eCallB lenW (aCons (eVar 0) aNil)) aNil))) aNil)) (gN 2) [some (.ref l), some (.ref ph.length), some (.int ((b : Nat) : Int)), z] H1 = .ok (.nx [some (.ref l), some (.ref ph.length), some (.int (((lnl ts.length (run (ends ts) (k + 1)).1).getD ts.length : Nat) : Int)), z]) H' ∧ Ex H1 H' := fun z => minpart hb1.1 hlen (by omega) ho _ z
  cases he : t.2.2 with
  | fin =>
    obtain ⟨H', ef, xf⟩ := fall (some En.fin.W)
    unfold En.W at ef ⊢
    try simp only [EVA, Nat.reduceSub, List.reduceReplicate, List.set_cons_zero, List.set_cons_succ, if_true, if_false, ↓reduceIte, String.reduceEq, reduceCtorEq] at ef
    try simp only [EVA, Nat.reduceSub, List.reduceReplicate, List.set_cons_zero, List.set_cons_succ, if_true, if_false, ↓reduceIte, String.reduceEq, reduceCtorEq]
    exact ⟨_, H', ef, x1.trans xf⟩
  | go n =>
    obtain ⟨H', ef, xf⟩ := fall (some (En.go n).W)
    unfold En.W at ef ⊢
    try simp only [EVA, Nat.reduceSub, List.reduceReplicate, List.set_cons_zero, List.set_cons_succ, if_true, if_false, ↓reduceIte, String.reduceEq, reduceCtorEq] at ef
    try simp only [EVA, Nat.reduceSub, List.reduceReplicate, List.set_cons_zero, List.set_cons_succ, if_true, if_false, ↓reduceIte, String.reduceEq, reduceCtorEq, ixT_m2]
    rw [bnd_ok (nin_N ho n)]
    try simp only [EVA, Nat.reduceSub, List.reduceReplicate, List.set_cons_zero, List.set_cons_succ, if_true, if_false, ↓reduceIte, String.reduceEq, reduceCtorEq]
    unfold nx
    simp only [st]
    by_cases hm : n ∈ (run (ends ts) (k + 1)).1
    · simp only [decide_eq_true hm, Bool.not_true, Bool.false_eq_true, if_false, if_pos hm]
      exact ⟨_, H', ef, x1.trans xf⟩
    · simp only [decide_eq_false hm, Bool.not_false, if_true, if_neg hm]
      exact ⟨_, H1, rfl, x1⟩
  | iff c u n =>
    obtain ⟨H', ef, xf⟩ := fall (some (En.iff c u n).W)
    unfold En.W at ef ⊢
    try simp only [EVA, Nat.reduceSub, List.reduceReplicate, List.set_cons_zero, List.set_cons_succ, if_true, if_false, ↓reduceIte, String.reduceEq, reduceCtorEq] at ef
    try simp only [EVA, Nat.reduceSub, List.reduceReplicate, List.set_cons_zero, List.set_cons_succ, if_true, if_false, ↓reduceIte, String.reduceEq, reduceCtorEq, ixT_m4]
    rw [bnd_ok (nin_N ho n)]
    try simp only [EVA, Nat.reduceSub, List.reduceReplicate, List.set_cons_zero, List.set_cons_succ, if_true, if_false, ↓reduceIte, String.reduceEq, reduceCtorEq]
    unfold nx
    simp only [st]
    by_cases hm : n ∈ (run (ends ts) (k + 1)).1
    · simp only [decide_eq_true hm, Bool.not_true, Bool.false_eq_true, if_false, if_pos hm]
      exact ⟨_, H', ef, x1.trans xf⟩
    · simp only [decide_eq_false hm, Bool.not_false, if_true, if_neg hm]
      exact ⟨_, H1, rfl, x1⟩
end
end IL.K27
namespace IL.K27
open PySem L2
section
variable {ts : List Tr}
theorem order_eq : b_law_order = sSeq (sAsg (eLst aNil) (gN 1)) (sSeq (sAsg (eC (.int (0))) (gN 2)) (sSeq (sWhile (eT (eOp ltW (eCallB lenW (aCons (eVar 1) aNil)) (eCallB lenW (aCons (eVar 0) aNil)))) orderBody) (sRet (eVar 1)))) := rfl
def ordr (ts : List Tr) : List Nat := (run (ends ts) ts.length).1
theorem order_s (g : Good ts) {ph : PH} {l : Nat} (hb : BA ph l ts) : ∃ ph', f_law_order [.ref l] ph = .ok (.ref ph.length) ph' ∧ Ex (ph ++ [.lst ((iN (ordr ts)).map W.int)]) ph' := by
  unfold f_law_order
  rw [order_eq]
  try simp only [EVA, Nat.reduceSub, List.reduceReplicate, List.set_cons_zero, List.set_cons_succ, if_true, if_false, ↓reduceIte, String.reduceEq, reduceCtorEq]
  rw [bnd_new _ _ _ (small (by simp))]
  obtain ⟨σ', H, e, hD⟩ := while_inv (t := eT (eOp ltW (eCallB lenW (aCons (eVar 1) aNil)) (eCallB lenW (aCons (eVar 0) aNil)))) (b := orderBody)
    (fun m σ H => ∃ k, m = ts.length - k ∧ k ≤ ts.length ∧ (∃ y, σ = [some (.ref l), some (.ref ph.length), some (.int (((run (ends ts) k).2.getD ts.length : Nat) : Int)), y]) ∧ Ex (ph ++ [.lst ((iN (run (ends ts) k).1).map W.int)]) H)
    (fun σ H => (∃ y z, σ = [some (.ref l), some (.ref ph.length), y, z]) ∧ Ex (ph ++ [.lst ((iN (ordr ts)).map W.int)]) H)
    (fun m σ H hI => by
      obtain ⟨k, rfl, hk, ⟨y, rfl⟩, x⟩ := hI
      have hSl := (run_ok g.ok g.pos' k (by rw [ends_len]; omega)).1
      have ht : eT (eOp ltW (eCallB lenW (aCons (eVar 1) aNil)) (eCallB lenW (aCons (eVar 0) aNil))) [some (.ref l), some (.ref ph.length), some (.int (((run (ends ts) k).2.getD ts.length : Nat) : Int)), y] H = .ok (decide ((k : Int) < (ts.length : Int))) H := by
        try simp only [EVA, Nat.reduceSub, List.reduceReplicate, List.set_cons_zero, List.set_cons_succ, if_true, if_false, ↓reduceIte, String.reduceEq, reduceCtorEq]
        rw [bnd_ok (len_ref (x.get (get_new _ _))), bnd_ok (len_ref (hb.ex ((Ex.one _ _).trans x)).1)]
        try simp only [EVA, Nat.reduceSub, List.reduceReplicate, List.set_cons_zero, List.set_cons_succ, if_true, if_false, ↓reduceIte, String.reduceEq, reduceCtorEq]
        unfold iN
        simp only [List.length_map, hSl]
      rw [ht]
      by_cases hlt : k < ts.length
      · obtain ⟨z, H', e1, x1⟩ := order_step g hb hlt y x
        refine .inr ⟨H, by rw [decide_eq_true (by omega)], _, H', e1, _, .inl rfl, ts.length - (k + 1), by omega, k + 1, rfl, by omega, ⟨z, rfl⟩, x1⟩
      · have hk : k = ts.length := by omega
        subst hk
        exact .inl ⟨H, by rw [decide_eq_false (by omega)], ⟨_, _, rfl⟩, x⟩)
    ts.length [some (.ref l), some (.ref ph.length), some (.int 0), none] (ph ++ [PO.lst []])
    ⟨0, by omega, by omega, ⟨none, rfl⟩, Ex.refl _⟩
  obtain ⟨⟨y, z, rfl⟩, x⟩ := hD
  rw [bnd_ok e]
  try simp only [EVA, Nat.reduceSub, List.reduceReplicate, List.set_cons_zero, List.set_cons_succ, if_true, if_false, ↓reduceIte, String.reduceEq, reduceCtorEq]
  exact ⟨H, rfl, x⟩
theorem run_pre (g : Good ts) : ∀ m k, k ≤ m → m ≤ ts.length → (run (ends ts) m).1.take k = (run (ends ts) k).1
  | 0, k, hk, _ => by
    have : k = 0 := by omega
    subst this; rfl
  | m + 1, k, hk, hm => by
    obtain ⟨b, _, _, _, e1, _⟩ := run_step g.ok g.pos' (k := m) (by rw [ends_len]; omega)
    have hl := (run_ok g.ok g.pos' m (by rw [ends_len]; omega)).1
    by_cases h : k = m + 1
    · subst h
      have hl1 := (run_ok g.ok g.pos' (m + 1) (by rw [ends_len]; omega)).1
      rw [List.take_of_length_le (by omega)]
    · rw [e1, List.take_append_of_le_length (by omega), run_pre g m k (by omega) (by omega)]
theorem ord_take (g : Good ts) {k : Nat} (hk : k ≤ ts.length) : (ordr ts).take k = (run (ends ts) k).1 := run_pre g _ _ hk (Nat.le_refl _)
theorem ord_len (g : Good ts) : (ordr ts).length = ts.length := (run_ok g.ok g.pos' ts.length (by rw [ends_len]; omega)).1
theorem ord_at (g : Good ts) {k : Nat} (hk : k < ts.length) : (ordr ts)[k]? = some (bk ts k) ∧ bk ts k < ts.length := by
  obtain ⟨b, hb, _, e0, e1, _⟩ := run_step g.ok g.pos' (k := k) (by rw [ends_len]; exact hk)
  have hl := (run_ok g.ok g.pos' k (by rw [ends_len]; omega)).1
  have : bk ts k = b := by unfold bk; rw [e0]; rfl
  rw [this, ← ends_len]
  refine ⟨?_, hb⟩
  have h1 := ord_take g (k := k + 1) (by omega)
  have : ((ordr ts).take (k + 1))[k]? = some b := by rw [h1, e1]; simp [hl]
  rwa [List.getElem?_take_of_lt (by omega)] at this
theorem ord_ix (g : Good ts) {k : Nat} (hk : k < ts.length) : atI ((iN (ordr ts)).map W.int) (k : Int) = some (.int ((bk ts k : Nat) : Int)) := by
  have hl := ord_len g
  rw [atI_nat _ _ (by unfold iN; simp; omega)]
  unfold iN
  rw [List.getElem?_map, List.getElem?_map, (ord_at g hk).1]; rfl
theorem ltail_s (e : En) {ph : PH} {r : Nat} {S : List Nat} (h : ph[r]? = some (.lst ((iN S).map W.int))) : f_law_tail [e.W, .ref r] ph = .ok (.int (((tlP e S).length : Nat) : Int)) ph := by
  unfold f_law_tail b_law_tail
  cases e with
  | fin =>
    unfold En.W
    try simp only [EVA, Nat.reduceSub, List.reduceReplicate, List.set_cons_zero, List.set_cons_succ, if_true, if_false, ↓reduceIte, String.reduceEq, reduceCtorEq]
    rfl
  | go n =>
    unfold En.W
    try simp only [EVA, Nat.reduceSub, List.reduceReplicate, List.set_cons_zero, List.set_cons_succ, if_true, if_false, ↓reduceIte, String.reduceEq, reduceCtorEq, ixT_m2]
    rw [bnd_ok (in_N h n)]
    try simp only [EVA, Nat.reduceSub, List.reduceReplicate, List.set_cons_zero, List.set_cons_succ, if_true, if_false, ↓reduceIte, String.reduceEq, reduceCtorEq]
    simp only [tlP]
    by_cases hn : n ∈ S
    · simp [hn]
    · simp [hn]
  | iff k y n =>
    unfold En.W
    try simp only [EVA, Nat.reduceSub, List.reduceReplicate, List.set_cons_zero, List.set_cons_succ, if_true, if_false, ↓reduceIte, String.reduceEq, reduceCtorEq, ixT_m4]
    rw [bnd_ok (in_N h n)]
    try simp only [EVA, Nat.reduceSub, List.reduceReplicate, List.set_cons_zero, List.set_cons_succ, if_true, if_false, ↓reduceIte, String.reduceEq, reduceCtorEq]
    simp only [tlP]
    by_cases hn : n ∈ S
    · simp [hn]
    · simp [hn]
theorem oNone_ap (σ : PSt) : oNone σ = pur none := (rfl)
theorem oSome_ap (m : EM) (σ : PSt) : oSome m σ = bnd (m σ) fun w => lift (match w with
  | .int i => ret (some i)
  | _ => nono) := (rfl)
theorem eSl_ap (m : EM) (lo hi : OM) (σ : PSt) : eSl m lo hi σ = bnd (m σ) fun w => bnd (lo σ) fun l => bnd (hi σ) fun h => lift (slW w l h) := (rfl)
theorem l_si (i : Int) : lift (match W.int i with
  | .int i => ret (some i)
  | _ => (nono : Po (Option Int))) = pur (some i) := (rfl)
theorem sl_ref {ph : PH} {i : Nat} {ws : List W} (h : ph[i]? = some (.lst ws)) (k : Nat) : lift (slW (.ref i) none (some (k : Int))) ph = .ok (.ref ph.length) (ph ++ [.lst (ws.take k)]) := by
  have : cutW ws none (some (k : Int)) = ws.take k := by
    unfold cutW HT.sIx
    simp
    rw [if_neg (by omega)]
    omega
  unfold lift slW
  simp only [h, this]
theorem sl_ord (g : Good ts) {ph : PH} {o : Nat} (h : ph[o]? = some (.lst ((iN (ordr ts)).map W.int))) {k : Nat} (hk : k < ts.length) : lift (slW (.ref o) none (some ((k : Int) + 1))) ph = .ok (.ref ph.length) (ph ++ [.lst ((iN (run (ends ts) (k + 1)).1).map W.int)]) := by
  have := sl_ref h (k + 1)
  rw [show ((k + 1 : Nat) : Int) = (k : Int) + 1 by omega] at this
  rw [this, ← ord_take g (k := k + 1) (by omega)]
  unfold iN
  rw [List.map_take, List.map_take]
theorem gLen2 (a b : W) (i j : Nat) (σ : PSt) : gLen 2 [gN i, gN j] (.tup [a, b]) σ = pur ((σ.set i (some a)).set j (some b)) := (rfl)
theorem places_s (g : Good ts) {ph : PH} {l o : Nat} (hb : BA ph l ts) (ho : ph[o]? = some (.lst ((iN (ordr ts)).map W.int))) : ∃ ph', f_law_places [.ref l, .ref o] ph = .ok (.ref ph.length) ph' ∧ Ex (ph ++ [.dct (plW (pls ts ts.length))]) ph' := by
  unfold f_law_places b_law_places sFor
  try simp only [EVA, Nat.reduceSub, List.reduceReplicate, List.set_cons_zero, List.set_cons_succ, if_true, if_false, ↓reduceIte, String.reduceEq, reduceCtorEq]
  rw [bnd_ok (newD_ap ph)]
  have ol := ord_len g
  have hfew := g.few
  have ho1 : (ph ++ [PO.dct []])[o]? = some (.lst ((iN (ordr ts)).map W.int)) := (Ex.one _ _).get ho
  rw [bnd_ok (iR1_ap (m := aCons (eCallB lenW (aCons (eVar 1) aNil)) aNil) (σ := [some (W.ref l), some (W.ref o), some (W.ref ph.length), some (.int 0), none, none, none]) (ph' := ph ++ [PO.dct []]) (j := (ts.length : Int)) (by
    try simp only [EVA, Nat.reduceSub, List.reduceReplicate, List.set_cons_zero, List.set_cons_succ, if_true, if_false, ↓reduceIte, String.reduceEq, reduceCtorEq]
    rw [bnd_ok (len_ref ho1)]
    try simp only [EVA, Nat.reduceSub, List.reduceReplicate, List.set_cons_zero, List.set_cons_succ, if_true, if_false, ↓reduceIte, String.reduceEq, reduceCtorEq]
    unfold iN
    simp only [List.length_map, ol]) (by omega) (by omega))]
  rw [Int.toNat_natCast]
  obtain ⟨σ', H, e, hI⟩ := forG_inv (chk := fun _ => true) (g := gN 4)
    (b := sSeq (sAsg (eOp ixV (eVar 0) (eOp ixV (eVar 1) (eVar 4))) (gLen 2 [(gN 5), (gN 6)])) (sSeq (sAsg (eVar 3) (gSubV (eVar 2) (eOp ixV (eVar 1) (eVar 4)))) (sAsg (eOp addW (eOp addW (eVar 3) (eCallB lenW (aCons (eVar 5) aNil))) (eCall f_law_tail (aCons (eVar 6) (aCons (eSl (eVar 1) oNone (oSome (eOp addW (eVar 4) (eC (.int (1)))))) aNil)))) (gN 3))))
    (fun k σ H => (∃ x y z, σ = [some (W.ref l), some (W.ref o), some (W.ref ph.length), some (.int (((RR ts k).length : Nat) : Int)), x, y, z]) ∧ Ex (ph ++ [.dct (plW (pls ts k))]) H) (rngW 0 ts.length) [some (W.ref l), some (W.ref o), some (W.ref ph.length), some (.int 0), none, none, none] (ph ++ [PO.dct []])
    (fun _ _ _ _ => rfl)
    (fun k w σ H hk hI => by
      obtain ⟨⟨a, b, c, rfl⟩, x⟩ := hI
      obtain ⟨hkl, rfl⟩ := rngW_get hk
      rw [Int.zero_add]
      refine ⟨[some (W.ref l), some (W.ref o), some (W.ref ph.length), some (.int (((RR ts k).length : Nat) : Int)), some (.int (k : Int)), b, c], H, rfl, ?_⟩
      obtain ⟨t, htb, htm, hat, hrows, hen⟩ := ts_at (ord_at g hkl).2
      have x0 := (Ex.one _ _).trans x
      have hbH := hb.ex x0
      have hoH := x0.get ho
      try simp only [EVA, Nat.reduceSub, List.reduceReplicate, List.set_cons_zero, List.set_cons_succ, if_true, if_false, ↓reduceIte, String.reduceEq, reduceCtorEq]
      rw [bnd_ok (ixv_ref hoH (ord_ix g hkl)), bnd_ok (ixv_ref hbH.1 hat)]
      unfold tW
      try simp only [EVA, Nat.reduceSub, List.reduceReplicate, List.set_cons_zero, List.set_cons_succ, if_true, if_false, ↓reduceIte, String.reduceEq, reduceCtorEq, gLen2]
      rw [bnd_ok (ixv_ref hoH (ord_ix g hkl))]
      have hnk : bk ts k ∉ (pls ts k).map (·.1) := by
        rw [pls_keys g k (by omega)]
        obtain ⟨b', _, hbn, e0, _, _⟩ := run_step g.ok g.pos' (k := k) (by rw [ends_len]; exact hkl)
        have : bk ts k = b' := by unfold bk; rw [e0]; rfl
        rw [this]; exact hbn
      have hpl : (pls ts k).length = k := by
        have : ((pls ts k).map (·.1)).length = k := by rw [pls_keys g k (by omega)]; exact (run_ok g.ok g.pos' k (by rw [ends_len]; omega)).1
        rwa [List.length_map] at this
      rw [bnd_ok (setv_dct (x.get (get_new _ _)) (okI _ _) (Nat.lt_of_lt_of_le (show (plW (pls ts k)).length < 100000 by unfold plW; rw [List.length_map]; omega) (small (by omega))) _)]
      rw [put_pl _ _ _ hnk]
      obtain ⟨m, rfl⟩ := x
      rw [set_mid]
      have x1 : Ex (ph ++ [PO.dct (plW (pls ts (k + 1)))]) (ph ++ [PO.dct (plW (pls ts k ++ [(bk ts k, (RR ts k).length)]))] ++ m) := ⟨m, rfl⟩
      generalize ph ++ [PO.dct (plW (pls ts k ++ [(bk ts k, (RR ts k).length)]))] ++ m = H1 at x1
      have x01 := (Ex.one _ _).trans x1
      have hb1 := hb.ex x01
      try simp only [EVA, Nat.reduceSub, List.reduceReplicate, List.set_cons_zero, List.set_cons_succ, if_true, if_false, ↓reduceIte, String.reduceEq, reduceCtorEq]
      rw [bnd_ok (len_ref (hb1.2 t htm))]
      try simp only [EVA, Nat.reduceSub, List.reduceReplicate, List.set_cons_zero, List.set_cons_succ, if_true, if_false, ↓reduceIte, String.reduceEq, reduceCtorEq, oNone_ap, oSome_ap, eSl_ap, l_si]
      rw [bnd_ok (sl_ord g (x01.get ho) hkl)]
      rw [bnd_ok (ltail_s t.2.2 (get_new _ _))]
      try simp only [EVA, Nat.reduceSub, List.reduceReplicate, List.set_cons_zero, List.set_cons_succ, if_true, if_false, ↓reduceIte, String.reduceEq, reduceCtorEq]
      refine ⟨_, _, rfl, _, .inl rfl, ⟨some (.int (k : Int)), some (W.ref t.1), some t.2.2.W, ?_⟩, x1.trans (Ex.one _ _)⟩
      have eR : (RR ts (k + 1)).length = (RR ts k).length + t.2.1.length + (tlP t.2.2 (run (ends ts) (k + 1)).1).length := by
        show (RR ts k ++ (rowsOf ts (bk ts k)).map PR.rw ++ tlP (en (ends ts) (bk ts k)) (run (ends ts) (k + 1)).1).length = _
        rw [List.length_append, List.length_append, List.length_map, hrows, hen]
      rw [eR, List.length_map]
      simp only [Int.natCast_add])
    ⟨⟨none, none, none, rfl⟩, Ex.refl _⟩
  obtain ⟨⟨a, b, c, rfl⟩, x⟩ := hI
  rw [rngW_len] at x
  rw [bnd_ok e]
  try simp only [EVA, Nat.reduceSub, List.reduceReplicate, List.set_cons_zero, List.set_cons_succ, if_true, if_false, ↓reduceIte, String.reduceEq, reduceCtorEq]
  exact ⟨H, rfl, x⟩
end
end IL.K27
namespace IL.K27
open PySem L2
section
variable {ts : List Tr}
noncomputable def dueBody : SM := (sSeq (sAsg (eOp ixV (eVar 0) (eOp ixV (eVar 1) (eVar 4))) (gLen 2 [(gN 5), (gN 6)])) (sSeq (sAsg (eOp addW (eVar 3) (eVar 5)) (gN 3)) (sSeq (sIf (eT (eOp eqW (eOp ixV (eVar 6) (eC (.int (0)))) (eC (.str "end")))) (sExpr (eMeth isL appendW (eVar 3) (aCons (eTup (aCons (eC (.str "end")) aNil)) aNil))) sNext) (sSeq (sIf (eT (eOp eqW (eOp ixV (eVar 6) (eC (.int (0)))) (eC (.str "if")))) (sExpr (eMeth isL appendW (eVar 3) (aCons (eTup (aCons (eC (.str "if")) (aCons (eOp ixV (eVar 6) (eC (.int (1)))) (aCons (eOp ixV (eVar 2) (eOp ixV (eVar 6) (eC (.int (2))))) aNil)))) aNil))) sNext) (sIf (tAndM (eT (eOp neW (eOp ixV (eVar 6) (eC (.int (0)))) (eC (.str "end")))) (eT (eOp inV (eOp ixV (eVar 6) (eUn negW (eC (.int (1))))) (eSl (eVar 1) oNone (oSome (eOp addW (eVar 4) (eC (.int (1))))))))) (sExpr (eMeth isL appendW (eVar 3) (aCons (eTup (aCons (eC (.str "go")) (aCons (eOp ixV (eVar 2) (eOp ixV (eVar 6) (eUn negW (eC (.int (1)))))) aNil))) aNil))) sNext)))))
theorem set_end (ph : PH) (a o : PO) : (ph ++ [a]).set ph.length o = ph ++ [o] := by
  have := set_mid ph [] a o
  simpa using this
theorem all_in (g : Good ts) {n : Nat} (hn : n < ts.length) : n ∈ (pls ts ts.length).map (·.1) := by
  rw [pls_keys g _ (Nat.le_refl _)]
  obtain ⟨h1, h2, h3, _, _⟩ := run_ok g.ok g.pos' ts.length (by rw [ends_len]; omega)
  by_cases hm : n ∈ (run (ends ts) ts.length).1
  · exact hm
  · have := nd_len ts.length (n :: (run (ends ts) ts.length).1) (List.nodup_cons.mpr ⟨hm, h2⟩) fun q hq => by
      rcases List.mem_cons.mp hq with rfl | hq
      · exact hn
      · have := h3 q hq
        rwa [ends_len] at this
    simp at this
    omega
theorem due_step (g : Good ts) {B H : PH} {l o d f : Nat} (hb : BA B l ts) (ho : B[o]? = some (.lst ((iN (ordr ts)).map W.int))) (hd : B[d]? = some (.dct (plW (pls ts ts.length)))) (x : Ex B H) (hfB : B.length ≤ f) {k : Nat} (hk : k < ts.length)
    (hf : H[f]? = some (.lst ((RR ts k).map (PR.fn (pls ts ts.length))))) (a b : Option W) :
    ∃ f' H' a' b', dueBody [some (.ref l), some (.ref o), some (.ref d), some (.ref f), some (.int (k : Int)), a, b] H = .ok (.nx [some (.ref l), some (.ref o), some (.ref d), some (.ref f'), some (.int (k : Int)), a', b']) H' ∧ Ex B H' ∧ B.length ≤ f' ∧ H'[f']? = some (.lst ((RR ts (k + 1)).map (PR.fn (pls ts ts.length)))) := by
  obtain ⟨t, htb, htm, hat, hrows, hen⟩ := ts_at (ord_at g hk).2
  have hRl := RR_len g k
  have hfew := g.few
  have hrl := g.rws t htm
  have hbH := hb.ex x
  have hoH := x.get ho
  have hle := x.len
  have hEok := en_ok g.ok (bk ts k)
  rw [hen, ends_len] at hEok
  have place : ∀ (K : PH) (n : Nat), Ex B K → n < ts.length → lift (ixV (.ref d) (.int (n : Int))) K = .ok (.int (((pget (pls ts ts.length) n).getD 0 : Nat) : Int)) K := fun K n xK hn => by
    have hs := pget_some (pls ts ts.length) n
    rw [decide_eq_true (all_in g hn)] at hs
    obtain ⟨q, hq⟩ := Option.isSome_iff_exists.mp hs
    refine ixv_dct (xK.get hd) (okI _ _) ?_
    rw [dget_pl, hq]; rfl
  have eR : (RR ts (k + 1)).map (PR.fn (pls ts ts.length)) = (RR ts k).map (PR.fn (pls ts ts.length)) ++ t.2.1.map Rw.W ++ (tlP t.2.2 (run (ends ts) (k + 1)).1).map (PR.fn (pls ts ts.length)) := by
    show (RR ts k ++ (rowsOf ts (bk ts k)).map PR.rw ++ tlP (en (ends ts) (bk ts k)) (run (ends ts) (k + 1)).1).map (PR.fn (pls ts ts.length)) = _
    rw [List.map_append, List.map_append, hrows, hen, List.map_map]
    rfl
  rw [eR]
  unfold dueBody
  try simp only [EVA, Nat.reduceSub, List.reduceReplicate, List.set_cons_zero, List.set_cons_succ, if_true, if_false, ↓reduceIte, String.reduceEq, reduceCtorEq]
  rw [bnd_ok (ixv_ref hoH (ord_ix g hk)), bnd_ok (ixv_ref hbH.1 hat)]
  unfold tW
  try simp only [EVA, Nat.reduceSub, List.reduceReplicate, List.set_cons_zero, List.set_cons_succ, if_true, if_false, ↓reduceIte, String.reduceEq, reduceCtorEq, gLen2]
  rw [bnd_ok (add_ref hf (hbH.2 t htm) (small (by simp only [List.length_map]; omega)))]
  try simp only [EVA, Nat.reduceSub, List.reduceReplicate, List.set_cons_zero, List.set_cons_succ, if_true, if_false, ↓reduceIte, String.reduceEq, reduceCtorEq]
  have hlw : ((RR ts k).map (PR.fn (pls ts ts.length)) ++ t.2.1.map Rw.W).length ≤ 500 := by
    rw [List.length_append, List.length_map, List.length_map]; omega
  generalize (RR ts k).map (PR.fn (pls ts ts.length)) ++ t.2.1.map Rw.W = ws at hlw
  have hsz : ∀ us : List W, us.length ≤ 600 → us.length < sizeLine := fun us h => Nat.lt_of_lt_of_le (show _ < 1000 by omega) (small (by omega))
  have hfl : (H ++ [PO.lst ws])[H.length]? = some (.lst ws) := get_new _ _
  cases he : t.2.2 with
  | fin =>
    unfold En.W
    try simp only [EVA, Nat.reduceSub, List.reduceReplicate, List.set_cons_zero, List.set_cons_succ, if_true, if_false, ↓reduceIte, String.reduceEq, reduceCtorEq]
    rw [bnd_ok (chk_ref hfl)]
    rw [bnd_ok (append_ref hfl (hsz _ (by omega)) _), set_end]
    try simp only [EVA, Nat.reduceSub, List.reduceReplicate, List.set_cons_zero, List.set_cons_succ, if_true, if_false, ↓reduceIte, String.reduceEq, reduceCtorEq]
    exact ⟨_, _, _, _, rfl, x.trans (Ex.one _ _), hle, get_new _ _⟩
  | go n =>
    rw [he] at hEok
    have hn : n < ts.length := hEok
    unfold En.W
    try simp only [EVA, Nat.reduceSub, List.reduceReplicate, List.set_cons_zero, List.set_cons_succ, if_true, if_false, ↓reduceIte, String.reduceEq, reduceCtorEq, ixT_m2, oNone_ap, oSome_ap, eSl_ap, l_si]
    have x1 : Ex B (H ++ [PO.lst ws]) := x.trans (Ex.one _ _)
    rw [bnd_ok (sl_ord g (x1.get ho) hk)]
    rw [bnd_ok (in_N (get_new _ _) n)]
    try simp only [EVA, Nat.reduceSub, List.reduceReplicate, List.set_cons_zero, List.set_cons_succ, if_true, if_false, ↓reduceIte, String.reduceEq, reduceCtorEq]
    simp only [tlP]
    by_cases hm : n ∈ (run (ends ts) (k + 1)).1
    · simp only [decide_eq_true hm, if_true, if_pos hm]
      rw [bnd_ok (chk_ref ((Ex.one _ _).get hfl))]
      try simp only [EVA, Nat.reduceSub, List.reduceReplicate, List.set_cons_zero, List.set_cons_succ, if_true, if_false, ↓reduceIte, String.reduceEq, reduceCtorEq, ixT_m2]
      rw [bnd_ok (place _ n (x1.trans (Ex.one _ _)) hn)]
      try simp only [EVA, Nat.reduceSub, List.reduceReplicate, List.set_cons_zero, List.set_cons_succ, if_true, if_false, ↓reduceIte, String.reduceEq, reduceCtorEq]
      rw [bnd_ok (append_ref ((Ex.one _ _).get hfl) (hsz _ (by omega)) _), set_mid]
      exact ⟨_, _, _, _, rfl, (x.trans (Ex.one _ _)).trans (Ex.one _ _), hle, (Ex.one _ _).get (get_new _ _)⟩
    · simp only [decide_eq_false hm, Bool.false_eq_true, if_false, if_neg hm, List.map_nil, List.append_nil]
      exact ⟨_, _, _, _, rfl, x1.trans (Ex.one _ _), hle, (Ex.one _ _).get hfl⟩
  | iff c u n =>
    rw [he] at hEok
    have hu : u < ts.length := hEok.1
    have hn : n < ts.length := hEok.2
    unfold En.W
    have x1 : Ex B (H ++ [PO.lst ws]) := x.trans (Ex.one _ _)
    try simp only [EVA, Nat.reduceSub, List.reduceReplicate, List.set_cons_zero, List.set_cons_succ, if_true, if_false, ↓reduceIte, String.reduceEq, reduceCtorEq]
    rw [bnd_ok (chk_ref hfl)]
    try simp only [EVA, Nat.reduceSub, List.reduceReplicate, List.set_cons_zero, List.set_cons_succ, if_true, if_false, ↓reduceIte, String.reduceEq, reduceCtorEq]
    rw [bnd_ok (place _ u x1 hu)]
    try simp only [EVA, Nat.reduceSub, List.reduceReplicate, List.set_cons_zero, List.set_cons_succ, if_true, if_false, ↓reduceIte, String.reduceEq, reduceCtorEq]
    rw [bnd_ok (append_ref hfl (hsz _ (by omega)) _), set_end]
    try simp only [EVA, Nat.reduceSub, List.reduceReplicate, List.set_cons_zero, List.set_cons_succ, if_true, if_false, ↓reduceIte, String.reduceEq, reduceCtorEq, ixT_m4, oNone_ap, oSome_ap, eSl_ap, l_si]
    rw [show (W.tup [W.str (Str.ofString "if"), W.int c, W.int (((pget (pls ts ts.length) u).getD 0 : Nat) : Int)]) = ifW c ((pget (pls ts ts.length) u).getD 0) from rfl]
    have x2 : Ex B (H ++ [PO.lst (ws ++ [ifW c ((pget (pls ts ts.length) u).getD 0)])]) := x.trans (Ex.one _ _)
    have hf2 : (H ++ [PO.lst (ws ++ [ifW c ((pget (pls ts ts.length) u).getD 0)])])[H.length]? = some (.lst (ws ++ [ifW c ((pget (pls ts ts.length) u).getD 0)])) := get_new _ _
    rw [bnd_ok (sl_ord g (x2.get ho) hk)]
    rw [bnd_ok (in_N (get_new _ _) n)]
    try simp only [EVA, Nat.reduceSub, List.reduceReplicate, List.set_cons_zero, List.set_cons_succ, if_true, if_false, ↓reduceIte, String.reduceEq, reduceCtorEq]
    simp only [tlP]
    by_cases hm : n ∈ (run (ends ts) (k + 1)).1
    · simp only [decide_eq_true hm, if_true, if_pos hm]
      rw [bnd_ok (chk_ref ((Ex.one _ _).get hf2))]
      try simp only [EVA, Nat.reduceSub, List.reduceReplicate, List.set_cons_zero, List.set_cons_succ, if_true, if_false, ↓reduceIte, String.reduceEq, reduceCtorEq, ixT_m4]
      rw [bnd_ok (place _ n (x2.trans (Ex.one _ _)) hn)]
      try simp only [EVA, Nat.reduceSub, List.reduceReplicate, List.set_cons_zero, List.set_cons_succ, if_true, if_false, ↓reduceIte, String.reduceEq, reduceCtorEq]
      rw [bnd_ok (append_ref ((Ex.one _ _).get hf2) (hsz _ (by rw [List.length_append]; simp only [List.length_cons, List.length_nil]; omega)) _), set_mid]
      refine ⟨_, _, _, _, rfl, (x.trans (Ex.one _ _)).trans (Ex.one _ _), hle, ?_⟩
      refine ((Ex.one _ _).get (get_new _ _)).trans ?_
      rw [List.append_assoc]; rfl
    · simp only [decide_eq_false hm, Bool.false_eq_true, if_false, if_neg hm]
      exact ⟨_, _, _, _, rfl, x2.trans (Ex.one _ _), hle, (Ex.one _ _).get hf2⟩
theorem due_s (g : Good ts) {ph : PH} {l : Nat} (hb : BA ph l ts) : ∃ f ph', f_law_due [.ref l] ph = .ok (.ref f) ph' ∧ Ex ph ph' ∧ ph.length ≤ f ∧ ph'[f]? = some (.lst (last ts)) := by
  unfold f_law_due b_law_due sFor
  try simp only [EVA, Nat.reduceSub, List.reduceReplicate, List.set_cons_zero, List.set_cons_succ, if_true, if_false, ↓reduceIte, String.reduceEq, reduceCtorEq]
  obtain ⟨ph1, e1, x1⟩ := order_s g hb
  rw [bnd_ok e1]
  have x01 := (Ex.one _ _).trans x1
  have ho := x1.get (get_new _ _)
  try simp only [EVA, Nat.reduceSub, List.reduceReplicate, List.set_cons_zero, List.set_cons_succ, if_true, if_false, ↓reduceIte, String.reduceEq, reduceCtorEq]
  obtain ⟨ph2, e2, x2⟩ := places_s g (hb.ex x01) ho
  rw [bnd_ok e2]
  have x12 := (Ex.one _ _).trans x2
  have hd := x2.get (get_new _ _)
  have hb2 := (hb.ex x01).ex x12
  have ho2 := x12.get ho
  try simp only [EVA, Nat.reduceSub, List.reduceReplicate, List.set_cons_zero, List.set_cons_succ, if_true, if_false, ↓reduceIte, String.reduceEq, reduceCtorEq]
  rw [bnd_new _ _ _ (small (by simp))]
  have ol := ord_len g
  have hfew := g.few
  have ho3 : (ph2 ++ [PO.lst []])[ph.length]? = some (.lst ((iN (ordr ts)).map W.int)) := (Ex.one _ _).get ho2
  rw [bnd_ok (iR1_ap (m := aCons (eCallB lenW (aCons (eVar 1) aNil)) aNil) (σ := [some (W.ref l), some (W.ref ph.length), some (W.ref ph1.length), some (W.ref ph2.length), none, none, none]) (ph' := ph2 ++ [PO.lst []]) (j := (ts.length : Int)) (by
    try simp only [EVA, Nat.reduceSub, List.reduceReplicate, List.set_cons_zero, List.set_cons_succ, if_true, if_false, ↓reduceIte, String.reduceEq, reduceCtorEq]
    rw [bnd_ok (len_ref ho3)]
    try simp only [EVA, Nat.reduceSub, List.reduceReplicate, List.set_cons_zero, List.set_cons_succ, if_true, if_false, ↓reduceIte, String.reduceEq, reduceCtorEq]
    unfold iN
    simp only [List.length_map, ol]) (by omega) (by omega))]
  rw [Int.toNat_natCast]
  obtain ⟨σ', H, e, hI⟩ := forG_inv (chk := fun _ => true) (g := gN 4) (b := dueBody)
    (fun k σ H => (∃ f a b c, σ = [some (W.ref l), some (W.ref ph.length), some (W.ref ph1.length), some (W.ref f), a, b, c] ∧ ph2.length ≤ f ∧ H[f]? = some (.lst ((RR ts k).map (PR.fn (pls ts ts.length))))) ∧ Ex ph2 H) (rngW 0 ts.length) [some (W.ref l), some (W.ref ph.length), some (W.ref ph1.length), some (W.ref ph2.length), none, none, none] (ph2 ++ [PO.lst []])
    (fun _ _ _ _ => rfl)
    (fun k w σ H hk hI => by
      obtain ⟨⟨f, a, b, c, rfl, hfB, hf⟩, x⟩ := hI
      obtain ⟨hkl, rfl⟩ := rngW_get hk
      rw [Int.zero_add]
      obtain ⟨f', H', a', b', e, x', hf', hv⟩ := due_step g hb2 ho2 hd x hfB hkl hf b c
      exact ⟨_, H, rfl, _, H', e, _, .inl rfl, ⟨f', _, a', b', rfl, hf', hv⟩, x'⟩)
    ⟨⟨ph2.length, none, none, none, rfl, Nat.le_refl _, get_new _ _⟩, Ex.one _ _⟩
  obtain ⟨⟨f, a, b, c, rfl, hfB, hf⟩, x⟩ := hI
  rw [rngW_len] at hf
  have e' : forG (fun _ => true) (gN 4) dueBody (rngW 0 ts.length) [some (W.ref l), some (W.ref ph.length), some (W.ref ph1.length), some (W.ref ph2.length), none, none, none] (ph2 ++ [PO.lst []]) = _ := e
  unfold dueBody at e'
  rw [bnd_ok e']
  try simp only [EVA, Nat.reduceSub, List.reduceReplicate, List.set_cons_zero, List.set_cons_succ, if_true, if_false, ↓reduceIte, String.reduceEq, reduceCtorEq]
  refine ⟨f, H, rfl, (x01.trans x12).trans x, ?_, hf⟩
  have := x01.len
  have := x12.len
  omega
end
end IL.K27
namespace IL.K27
open PySem L2
theorem dat_rw (ph : PH) (n : Nat) (r : Rw) : ∃ d, dat ph (n + 1) r.W = some d := by
  cases r with
  | dd d w hw a b =>
    unfold Rw.W
    simp only [dat, mapO, so, hw, if_true, Option.map_some]
    exact ⟨_, rfl⟩
  | _ =>
    unfold Rw.W
    simp only [dat, mapO, so, if_true, Option.map_some]
    exact ⟨_, rfl⟩
theorem dat_pr (ph : PH) (n : Nat) (pl : Pl) (p : PR) : ∃ d, dat ph (n + 1) (PR.fn pl p) = some d := by
  cases p with
  | rw r => exact dat_rw ph n r
  | _ =>
    simp only [PR.fn, goW, ifW, endW, dat, mapO, so, if_true, Option.map_some]
    exact ⟨_, rfl⟩
theorem dat_en (ph : PH) (n : Nat) (e : En) : ∃ d, dat ph (n + 1) e.W = some d := by
  cases e <;>
  · unfold En.W
    simp only [dat, mapO, so, if_true, Option.map_some]
    exact ⟨_, rfl⟩
theorem right_s {ph : PH} {i j : Nat} (ps : List PR) (pl : Pl) (hi : ph[i]? = some (.lst (ps.map (PR.fn pl)))) (hj : ph[j]? = some (.lst (ps.map (PR.fn pl)))) : f_law_right [.ref i, .ref j] ph = .ok (.bl true) ph := by
  unfold f_law_right b_law_right sFor
  try simp only [EVA, Nat.reduceSub, List.reduceReplicate, List.set_cons_zero, List.set_cons_succ, if_true, if_false, ↓reduceIte, String.reduceEq, reduceCtorEq]
  rw [bnd_ok (is_ref hi)]
  try simp only [EVA, Nat.reduceSub, List.reduceReplicate, List.set_cons_zero, List.set_cons_succ, if_true, if_false, ↓reduceIte, String.reduceEq, reduceCtorEq]
  obtain ⟨ds, hds⟩ := mapO_ex (f := dat ph 39) (ps.map (PR.fn pl)) fun w hw => by
    obtain ⟨p, _, rfl⟩ := List.mem_map.mp hw
    exact dat_pr ph 38 pl p
  rw [bnd_ok (l_neD (eq_same hi hj hds))]
  try simp only [EVA, Nat.reduceSub, List.reduceReplicate, List.set_cons_zero, List.set_cons_succ, if_true, if_false, ↓reduceIte, String.reduceEq, reduceCtorEq]
  rw [bnd_ok (iBoth_ref (m := eVar 0) (σ := [some (W.ref i), some (W.ref j), none]) rfl hi)]
  obtain ⟨σ', ph', e, hI⟩ := forG_inv (chk := fun p => decide (p[i]? = some (PO.lst (ps.map (PR.fn pl))))) (g := gN 2)
    (b := sSeq (sIf (tNotM (eTru (eIs "tuple" (eVar 2)))) (sRet (eC (.bl false))) sNext) (sIf (tAndM (eT (eOp inV (eOp ixV (eVar 2) (eC (.int (0)))) (eTup (aCons (eC (.str "go")) (aCons (eC (.str "if")) aNil))))) (eTru (eIs "bool" (eOp ixV (eVar 2) (eUn negW (eC (.int (1)))))))) (sRet (eC (.bl false))) sNext))
    (fun k σ H => (∃ y, σ = [some (W.ref i), some (W.ref j), y]) ∧ H = ph) (ps.map (PR.fn pl)) [some (W.ref i), some (W.ref j), none] ph
    (fun k σ H hI => by rw [hI.2]; exact decide_eq_true hi)
    (fun k w σ H hk hI => by
      obtain ⟨⟨y, rfl⟩, rfl⟩ := hI
      obtain ⟨p, _, rfl⟩ := List.mem_map.mp (List.mem_of_getElem? hk)
      refine ⟨[some (W.ref i), some (W.ref j), some (PR.fn pl p)], H, rfl, .nx [some (W.ref i), some (W.ref j), some (PR.fn pl p)], H, ?_, _, .inl rfl, ⟨_, rfl⟩, rfl⟩
      cases p with
      | rw r =>
        cases r <;>
        · unfold PR.fn Rw.W
          try simp only [EVA, Nat.reduceSub, List.reduceReplicate, List.set_cons_zero, List.set_cons_succ, if_true, if_false, ↓reduceIte, String.reduceEq, reduceCtorEq]
      | fin =>
        unfold PR.fn endW
        try simp only [EVA, Nat.reduceSub, List.reduceReplicate, List.set_cons_zero, List.set_cons_succ, if_true, if_false, ↓reduceIte, String.reduceEq, reduceCtorEq]
      | go n =>
        unfold PR.fn goW
        try simp only [EVA, Nat.reduceSub, List.reduceReplicate, List.set_cons_zero, List.set_cons_succ, if_true, if_false, ↓reduceIte, String.reduceEq, reduceCtorEq, ixT_m2]
      | iff c u =>
        unfold PR.fn ifW
        try simp only [EVA, Nat.reduceSub, List.reduceReplicate, List.set_cons_zero, List.set_cons_succ, if_true, if_false, ↓reduceIte, String.reduceEq, reduceCtorEq, ixT_m3])
    ⟨⟨none, rfl⟩, rfl⟩
  obtain ⟨⟨y, rfl⟩, rfl⟩ := hI
  rw [bnd_ok e]
  try simp only [EVA, Nat.reduceSub, List.reduceReplicate, List.set_cons_zero, List.set_cons_succ, if_true, if_false, ↓reduceIte, String.reduceEq, reduceCtorEq]
def gl (many block : Nat) (tn : List Nat) : List Nat := (List.range many).filter fun k => decide (block < k) || (decide (k ∈ tn) || (decide (k = 0) && decide (block ∈ tn)))
theorem gl_lt {many block : Nat} {tn : List Nat} : ∀ n ∈ gl many block tn, n < many := fun n hn => List.mem_range.mp (List.mem_filter.mp hn).1
theorem goal_s (more : Int) (block many : Nat) (tn : List Nat) (hm : many ≤ 1000) {ph : PH} {r : Nat} (hr : ph[r]? = some (.lst ((iN tn).map W.int))) :
    ∃ o ph', f_law_goal_by [.int more, .int (block : Int), .int (many : Int), .ref r] ph = .ok (oW o) ph' ∧ Ex ph ph' ∧ (∀ n, o = some n → n < many) ∧ (o = none ↔ gl many block tn = []) := by
  unfold f_law_goal_by b_law_goal_by
  try simp only [EVA, Nat.reduceSub, List.reduceReplicate, List.set_cons_zero, List.set_cons_succ, if_true, if_false, ↓reduceIte, String.reduceEq, reduceCtorEq]
  have him : iR1 (aCons (eVar 2) aNil) [some (.int more), some (.int (block : Int)), some (.int (many : Int)), some (W.ref r), none] ph = .ok ((List.range many).map fun k : Nat => W.int (0 + ((k : Nat) : Int)), fun _ => true) ph := by
    rw [iR1_ap (j := (many : Int)) (ph' := ph) (by try simp only [EVA, Nat.reduceSub, List.reduceReplicate, List.set_cons_zero, List.set_cons_succ, if_true, if_false, ↓reduceIte, String.reduceEq, reduceCtorEq]) (by omega) (by omega), Int.toNat_natCast]; rfl
  obtain ⟨ph1, e1, x1⟩ := comp_run (cap := [none, some 1, some 3]) (g := gN 0) (c := tOrM (eT (eOp gtW (eVar 0) (eVar 1))) (tOrM (eT (eOp inV (eVar 0) (eVar 2))) (tAndM (eT (eOp eqW (eVar 0) (eC (.int (0))))) (eT (eOp inV (eVar 1) (eVar 2)))))) (e := eVar 0) _ _ him (fun _ _ => rfl) (small (by simp; omega))
    (fun k : Nat => if (decide (block < k) || (decide (k ∈ tn) || (decide (k = 0) && decide (block ∈ tn)))) = true then some (W.int ((k : Nat) : Int)) else none) (fun σ => ∃ y, σ = [y, some (.int (block : Int)), some (.ref r)]) ⟨none, rfl⟩ (fun k hk σ H hS hE => by
    obtain ⟨y, rfl⟩ := hS
    refine ⟨_, rfl, ⟨_, rfl⟩, decide (block < k) || (decide (k ∈ tn) || (decide (k = 0) && decide (block ∈ tn))), H, ?_, Ex.refl _, ?_⟩
    · show tOrM (eT (eOp gtW (eVar 0) (eVar 1))) (tOrM (eT (eOp inV (eVar 0) (eVar 2))) (tAndM (eT (eOp eqW (eVar 0) (eC (.int (0))))) (eT (eOp inV (eVar 1) (eVar 2))))) [some (.int (0 + ((k : Nat) : Int))), some (.int (block : Int)), some (.ref r)] H = _
      rw [Int.zero_add]
      try simp only [EVA, Nat.reduceSub, List.reduceReplicate, List.set_cons_zero, List.set_cons_succ, if_true, if_false, ↓reduceIte, String.reduceEq, reduceCtorEq]
      have hrH := hE.get hr
      by_cases h1 : block < k
      · have : decide ((block : Int) < (k : Int)) = true := decide_eq_true (by omega)
        simp [this, h1, pur]
      · have h1' : decide ((block : Int) < (k : Int)) = false := decide_eq_false (by omega)
        simp only [h1', decide_eq_false h1, Bool.false_eq_true, if_false, Bool.false_or]
        rw [bnd_ok (in_N hrH k)]
        try simp only [EVA, Nat.reduceSub, List.reduceReplicate, List.set_cons_zero, List.set_cons_succ, if_true, if_false, ↓reduceIte, String.reduceEq, reduceCtorEq]
        by_cases h2 : k ∈ tn
        · simp [h2]
        · simp only [decide_eq_false h2, Bool.false_eq_true, if_false, Bool.false_or]
          by_cases h3 : k = 0
          · have : decide ((k : Int) = 0) = true := decide_eq_true (by omega)
            simp only [this, if_true, decide_eq_true h3, Bool.true_and]
            rw [bnd_ok (in_N hrH block)]
            try simp only [EVA, Nat.reduceSub, List.reduceReplicate, List.set_cons_zero, List.set_cons_succ, if_true, if_false, ↓reduceIte, String.reduceEq, reduceCtorEq]
          · have : decide ((k : Int) = 0) = false := decide_eq_false (by omega)
            simp [this, h3]
    · cases hc : (decide (block < k) || (decide (k ∈ tn) || (decide (k = 0) && decide (block ∈ tn)))) with
      | false => exact .inl ⟨rfl, by simp⟩
      | true =>
        refine .inr ⟨rfl, W.int ((k : Nat) : Int), H, ?_, Ex.refl _, by simp⟩
        show eVar 0 [some (.int (0 + ((k : Nat) : Int))), some (.int (block : Int)), some (.ref r)] H = _
        rw [Int.zero_add]; rfl)
  have ef : (List.range many).filterMap (fun k : Nat => if (decide (block < k) || (decide (k ∈ tn) || (decide (k = 0) && decide (block ∈ tn)))) = true then some (W.int ((k : Nat) : Int)) else none) = (iN (gl many block tn)).map W.int := by
    unfold iN gl
    rw [List.map_map]
    generalize List.range many = L
    induction L with
    | nil => rfl
    | cons a L ih =>
      cases hc : (decide (block < a) || (decide (a ∈ tn) || (decide (a = 0) && decide (block ∈ tn)))) with
      | false => rw [List.filterMap_cons_none (by simp only [hc, Bool.false_eq_true, if_false]), ih, List.filter_cons, hc, if_neg Bool.false_ne_true]
      | true =>
        rw [List.filterMap_cons_some (b := W.int (a : Int)) (by simp only [hc, if_true]), ih, List.filter_cons, hc, if_pos rfl]
        rfl
  rw [ef] at x1
  rw [bnd_ok e1]
  try simp only [EVA, Nat.reduceSub, List.reduceReplicate, List.set_cons_zero, List.set_cons_succ, if_true, if_false, ↓reduceIte, String.reduceEq, reduceCtorEq]
  have hs := x1.get (get_new _ _)
  rw [bnd_new _ _ _ (small (by simp))]
  have hs2 : (ph1 ++ [PO.lst []])[ph.length]? = some (.lst ((iN (gl many block tn)).map W.int)) := (Ex.one _ _).get hs
  rw [bnd_ok (l_eqD (eq_nil hs2 (get_new _ _) (mapO_map _ W.int PyData.int (fun a => dat_i _ _ a) _)))]
  try simp only [EVA, Nat.reduceSub, List.reduceReplicate, List.set_cons_zero, List.set_cons_succ, if_true, if_false, ↓reduceIte, String.reduceEq, reduceCtorEq]
  have x02 : Ex ph (ph1 ++ [PO.lst []]) := ((Ex.one _ _).trans x1).trans (Ex.one _ _)
  cases hg : gl many block tn with
  | nil =>
    simp only [iN, List.map_nil, List.isEmpty_nil, if_true]
    exact ⟨none, _, rfl, x02, fun n h => (by cases h), by simp⟩
  | cons a L =>
    rw [hg] at hs2
    simp only [iN, List.map_cons, List.isEmpty_cons, Bool.false_eq_true, if_false]
    rw [bnd_ok (len_ref hs2)]
    have hlen : (((iN (a :: L)).map W.int).length : Int) = ((a :: L).length : Int) := by unfold iN; simp
    rw [hlen]
    have hne : ((a :: L).length : Int) ≠ 0 := by simp only [List.length_cons]; omega
    rw [l_mod hne, bnd_pur]
    have q := fmod_range more ((a :: L).length : Int) (by simp only [List.length_cons]; omega)
    obtain ⟨d, hd⟩ : ∃ d : Nat, more.fmod ((a :: L).length : Int) = (d : Int) := ⟨(more.fmod ((a :: L).length : Int)).toNat, by omega⟩
    rw [hd] at q ⊢
    have hdl : d < (a :: L).length := by omega
    have hat : atI ((iN (a :: L)).map W.int) (d : Int) = some (.int (((a :: L)[d] : Nat) : Int)) := by
      rw [atI_nat _ _ (by unfold iN; simpa using hdl)]
      unfold iN
      rw [List.getElem?_map, List.getElem?_map, List.getElem?_eq_getElem hdl]; rfl
    rw [bnd_ok (ixv_ref hs2 hat)]
    refine ⟨some ((a :: L)[d]), _, rfl, x02, fun n h => ?_, by simp⟩
    cases h
    exact gl_lt _ (by rw [hg]; exact List.getElem_mem hdl)
theorem end_s (cell : Int) (block many : Nat) (tn : List Nat) (bx : Int) (hbx : bx ≠ 0) (hm : many ≤ 1000) {ph : PH} {r : Nat} (hr : ph[r]? = some (.lst ((iN tn).map W.int))) :
    ∃ (e : En) (ph' : PH), f_law_end_by [.int cell, .int (block : Int), .int (many : Int), .ref r, .int bx] ph = .ok e.W ph' ∧ Ex ph ph' ∧ e.ok many := by
  unfold f_law_end_by b_law_end_by
  try simp only [EVA, Nat.reduceSub, List.reduceReplicate, List.set_cons_zero, List.set_cons_succ, if_true, if_false, ↓reduceIte, String.reduceEq, reduceCtorEq, l_mul (mulC_r (a := cell) (b := 48271) (by decide) (by decide)), l_mod (show (2147483647 : Int) ≠ 0 by decide), l_div (show (8 : Int) ≠ 0 by decide) (by decide)]
  generalize (cell * 48271).fmod 2147483647 = c
  obtain ⟨y, ph1, e1, x1, hy, hyn⟩ := goal_s (c.fdiv 8) block many tn hm hr
  rw [bnd_ok e1]
  try simp only [EVA, Nat.reduceSub, List.reduceReplicate, List.set_cons_zero, List.set_cons_succ, if_true, if_false, ↓reduceIte, String.reduceEq, reduceCtorEq, l_div (show (800 : Int) ≠ 0 by decide) (by decide)]
  obtain ⟨n, ph2, e2, x2, hn, hnn⟩ := goal_s (c.fdiv 800) block many tn hm (x1.get hr)
  rw [bnd_ok e2]
  try simp only [EVA, Nat.reduceSub, List.reduceReplicate, List.set_cons_zero, List.set_cons_succ, if_true, if_false, ↓reduceIte, String.reduceEq, reduceCtorEq, isNon_o, l_mod (show (8 : Int) ≠ 0 by decide), l_mod hbx, l_div (show (80000 : Int) ≠ 0 by decide) (by decide)]
  have x := x1.trans x2
  cases y with
  | none =>
    simp only [Option.isNone_none, if_true]
    exact ⟨.fin, _, rfl, x, trivial⟩
  | some y =>
    simp only [Option.isNone_some, Bool.false_eq_true, if_false]
    by_cases h0 : c.fmod 8 = 0
    · simp only [decide_eq_true h0, if_true]
      exact ⟨.fin, _, rfl, x, trivial⟩
    · simp only [decide_eq_false h0, Bool.false_eq_true, if_false]
      cases n with
      | none => exact absurd (hyn.mpr (hnn.mp rfl)) (by simp)
      | some n =>
        by_cases h4 : c.fmod 8 < 4
        · simp only [decide_eq_true h4, if_true]
          exact ⟨.iff _ y n, _, rfl, x, hy y rfl, hn n rfl⟩
        · simp only [decide_eq_false h4, Bool.false_eq_true, if_false]
          exact ⟨.go y, _, rfl, x, hy y rfl⟩
end IL.K27
namespace IL.K27
open PySem L2
theorem ints_of : ∀ ws : List W, (∀ (j : Nat) w, ws[j]? = some w → ∃ c : Int, w = .int c) → ∃ cs : List Int, ws = cs.map W.int
  | [], _ => ⟨[], rfl⟩
  | w :: ws, h => by
    obtain ⟨c, rfl⟩ := h 0 w rfl
    obtain ⟨cs, rfl⟩ := ints_of ws fun j u hu => h (j + 1) u (by simpa using hu)
    exact ⟨c :: cs, rfl⟩
theorem mulC_l {a b : Int} (h1 : -(2 ^ 64) < a) (h2 : a < 2 ^ 64) : mulC a b = true := by
  unfold mulC
  rw [decide_eq_true h1, decide_eq_true h2]
  simp
theorem cs_at {cs : List Int} {k : Nat} (h : k < cs.length) : atI (cs.map W.int) (k : Int) = some (.int (cs.getD k 0)) := by
  rw [atI_nat _ _ (by simpa using h)]
  simp [h]
theorem cells_s (ns : List Int) (first many : Nat) (hm : many ≤ 20) (a b c d e f g h : Option W) (ph : PH) : ∃ (cs : List Int) (ph' : PH), cs.length = 4 * many ∧ eComp (iR1 (aCons (eOp mulV (eC (.int (4))) (eVar 2)) aNil)) [none, some 0, some 1] (gN 0) cTrue (eOp addW (eCall f_law_cell_at (aCons (eVar 1) (aCons (eOp addW (eVar 2) (eOp modW (eVar 0) (eC (.int (40))))) aNil))) (eOp mulV (eC (.int (91))) (eOp divW (eVar 0) (eC (.int (40)))))) [some (.fl (ns.map W.int)), some (.int (first : Int)), some (.int (many : Int)), a, b, c, d, e, f, g, h] ph = .ok (.ref ph.length) ph' ∧ Ex (ph ++ [.lst (cs.map W.int)]) ph' := by
  have h4 : mulC 4 (many : Int) = true := mulC_l (by decide) (by decide)
  have him : iR1 (aCons (eOp mulV (eC (.int (4))) (eVar 2)) aNil) [some (.fl (ns.map W.int)), some (.int (first : Int)), some (.int (many : Int)), a, b, c, d, e, f, g, h] ph = .ok ((List.range (4 * many)).map fun k : Nat => W.int (0 + ((k : Nat) : Int)), fun _ => true) ph := by
    rw [iR1_ap (j := ((4 * many : Nat) : Int)) (ph' := ph) (by
      try simp only [EVA, Nat.reduceSub, List.reduceReplicate, List.set_cons_zero, List.set_cons_succ, if_true, if_false, ↓reduceIte, String.reduceEq, reduceCtorEq, l_mul h4]
      rw [Int.natCast_mul]; rfl) (by omega) (by omega), Int.toNat_natCast]; rfl
  obtain ⟨ws, ph', e', x, hl, hR⟩ := comp_rel (cap := [none, some 0, some 1]) (g := gN 0) (c := cTrue) (e := eOp addW (eCall f_law_cell_at (aCons (eVar 1) (aCons (eOp addW (eVar 2) (eOp modW (eVar 0) (eC (.int (40))))) aNil))) (eOp mulV (eC (.int (91))) (eOp divW (eVar 0) (eC (.int (40)))))) _ _ him (fun _ _ => rfl) (small (by simp; omega)) (fun _ w => ∃ c : Int, w = .int c) (fun σ => ∃ y, σ = [y, some (.fl (ns.map W.int)), some (.int (first : Int))]) ⟨none, rfl⟩ (fun j k hk σ H hS hE => by
    obtain ⟨y, rfl⟩ := hS
    refine ⟨_, rfl, ⟨_, rfl⟩, H, rfl, Ex.refl _, ?_⟩
    show ∃ w H2, eOp addW (eCall f_law_cell_at (aCons (eVar 1) (aCons (eOp addW (eVar 2) (eOp modW (eVar 0) (eC (.int (40))))) aNil))) (eOp mulV (eC (.int (91))) (eOp divW (eVar 0) (eC (.int (40))))) [some (.int (0 + (k : Int))), some (.fl (ns.map W.int)), some (.int (first : Int))] H = .ok w H2 ∧ Ex H H2 ∧ ∃ c : Int, w = .int c
    have hm : mulC 91 ((0 + (k : Int)).fdiv 40) = true := mulC_l (by decide) (by decide)
    try simp only [EVA, Nat.reduceSub, List.reduceReplicate, List.set_cons_zero, List.set_cons_succ, if_true, if_false, ↓reduceIte, String.reduceEq, reduceCtorEq, l_mod (show (40 : Int) ≠ 0 by decide)]
    have q := fmod_range (0 + (k : Int)) 40 (by decide)
    obtain ⟨t, ht⟩ : ∃ t : Nat, (first : Int) + (0 + (k : Int)).fmod 40 = (t : Int) := ⟨((first : Int) + (0 + (k : Int)).fmod 40).toNat, by omega⟩
    rw [ht, bnd_ok (cell_at ns t H)]
    try simp only [EVA, Nat.reduceSub, List.reduceReplicate, List.set_cons_zero, List.set_cons_succ, if_true, if_false, ↓reduceIte, String.reduceEq, reduceCtorEq, l_div (show (40 : Int) ≠ 0 by decide) (by decide), l_mul hm]
    exact ⟨_, H, rfl, Ex.refl _, _, rfl⟩)
  obtain ⟨cs, rfl⟩ := ints_of ws hR
  exact ⟨cs, ph', by simpa using hl, e', x⟩
theorem turning_s (cs : List Int) (many : Nat) (hm : many ≤ 20) (hc : cs.length = 4 * many) (u v a b d e f g h : Option W) {ph : PH} {c : Nat} (hcs : ph[c]? = some (.lst (cs.map W.int))) (z : Option W) : ∃ (tn : List Nat) (ph' : PH), eComp (iR1 (aCons (eVar 2) aNil)) [none, some 5] (gN 0) (eT (eOp eqW (eOp modW (eOp ixV (eVar 1) (eOp mulV (eC (.int (4))) (eVar 0))) (eC (.int (4)))) (eC (.int (1))))) (eVar 0) [u, v, some (.int (many : Int)), a, b, some (.ref c), d, e, f, g, h] ph = .ok (.ref ph.length) ph' ∧ Ex (ph ++ [.lst ((iN tn).map W.int)]) ph' := by
  have him : iR1 (aCons (eVar 2) aNil) [u, v, some (.int (many : Int)), a, b, some (.ref c), d, e, f, g, h] ph = .ok ((List.range many).map fun k : Nat => W.int (0 + ((k : Nat) : Int)), fun _ => true) ph := by
    rw [iR1_ap (j := (many : Int)) (ph' := ph) (by try simp only [EVA, Nat.reduceSub, List.reduceReplicate, List.set_cons_zero, List.set_cons_succ, if_true, if_false, ↓reduceIte, String.reduceEq, reduceCtorEq]) (by omega) (by omega), Int.toNat_natCast]; rfl
  obtain ⟨ph1, e1, x1⟩ := comp_run (cap := [none, some 5]) (g := gN 0) (c := eT (eOp eqW (eOp modW (eOp ixV (eVar 1) (eOp mulV (eC (.int (4))) (eVar 0))) (eC (.int (4)))) (eC (.int (1))))) (e := eVar 0) _ _ him (fun _ _ => rfl) (small (by simp; omega))
    (fun k : Nat => if (decide ((cs.getD (4 * k) 0).fmod 4 = 1)) = true then some (W.int ((k : Nat) : Int)) else none) (fun σ => ∃ y, σ = [y, some (.ref c)]) ⟨none, rfl⟩ (fun k hk σ H hS hE => by
    obtain ⟨y, rfl⟩ := hS
    have hkm := List.mem_range.mp hk
    refine ⟨_, rfl, ⟨_, rfl⟩, decide ((cs.getD (4 * k) 0).fmod 4 = 1), H, ?_, Ex.refl _, ?_⟩
    · show eT (eOp eqW (eOp modW (eOp ixV (eVar 1) (eOp mulV (eC (.int (4))) (eVar 0))) (eC (.int (4)))) (eC (.int (1)))) [some (.int (0 + ((k : Nat) : Int))), some (.ref c)] H = _
      rw [Int.zero_add]
      have h4 : mulC 4 (k : Int) = true := mulC_l (by decide) (by decide)
      try simp only [EVA, Nat.reduceSub, List.reduceReplicate, List.set_cons_zero, List.set_cons_succ, if_true, if_false, ↓reduceIte, String.reduceEq, reduceCtorEq, l_mul h4]
      rw [show (4 : Int) * (k : Int) = ((4 * k : Nat) : Int) by omega]
      rw [bnd_ok (ixv_ref (hE.get hcs) (cs_at (by omega)))]
      try simp only [EVA, Nat.reduceSub, List.reduceReplicate, List.set_cons_zero, List.set_cons_succ, if_true, if_false, ↓reduceIte, String.reduceEq, reduceCtorEq, l_mod (show (4 : Int) ≠ 0 by decide)]
    · cases hcc : (decide ((cs.getD (4 * k) 0).fmod 4 = 1)) with
      | false => exact .inl ⟨rfl, by simp⟩
      | true =>
        refine .inr ⟨rfl, W.int ((k : Nat) : Int), H, ?_, Ex.refl _, by simp⟩
        show eVar 0 [some (.int (0 + ((k : Nat) : Int))), some (.ref c)] H = _
        rw [Int.zero_add]; rfl)
  refine ⟨(List.range many).filter (fun k => decide ((cs.getD (4 * k) 0).fmod 4 = 1)), ph1, e1, ?_⟩
  have ef : (List.range many).filterMap (fun k : Nat => if (decide ((cs.getD (4 * k) 0).fmod 4 = 1)) = true then some (W.int ((k : Nat) : Int)) else none) = (iN ((List.range many).filter (fun k => decide ((cs.getD (4 * k) 0).fmod 4 = 1)))).map W.int := by
    unfold iN
    rw [List.map_map]
    generalize List.range many = L
    induction L with
    | nil => rfl
    | cons a L ih =>
      cases hc : (decide ((cs.getD (4 * a) 0).fmod 4 = 1)) with
      | false => rw [List.filterMap_cons_none (by simp only [hc, Bool.false_eq_true, if_false]), ih, List.filter_cons, hc, if_neg Bool.false_ne_true]
      | true =>
        rw [List.filterMap_cons_some (b := W.int (a : Int)) (by simp only [hc, if_true]), ih, List.filter_cons, hc, if_pos rfl]
        rfl
  rw [← ef]; exact x1
noncomputable def rowLoop : SM := (sExpr (eMeth isL appendW (eVar 9) (aCons (eCall f_law_row_by (aCons (eOp addW (eOp mulV (eOp ixV (eVar 5) (eOp addW (eOp addW (eOp mulV (eC (.int (4))) (eVar 8)) (eC (.int (1)))) (eOp modW (eVar 10) (eC (.int (2)))))) (eOp addW (eC (.int (1))) (eVar 10))) (eVar 8)) (aCons (eVar 3) (aCons (eVar 4) aNil)))) aNil)))
theorem rows_loop {bx sl : Int} (hb : bx ≠ 0) (hs : sl ≠ 0) {cs : List Int} {many k : Nat} (hc : cs.length = 4 * many) (hk : k < many) {c : Nat} (u v w : Option W) (tq : Option W) (bq : Option W) (n : Nat) (hn : n ≤ 3) (r0 : List Rw) (hr0 : r0.length ≤ 1) {P H0 : PH} (hcs : P[c]? = some (.lst (cs.map W.int))) (x0 : Ex (P ++ [.lst (r0.map Rw.W)]) H0) (z : Option W) :
    ∃ (rs : List Rw) (z' : Option W) (H : PH), rs.length ≤ 10 ∧ forG (fun _ => true) (gN 10) rowLoop (rngW 0 n) [u, v, w, some (.int bx), some (.int sl), some (.ref c), tq, bq, some (.int (k : Int)), some (.ref P.length), z] H0 = .ok (.nx [u, v, w, some (.int bx), some (.int sl), some (.ref c), tq, bq, some (.int (k : Int)), some (.ref P.length), z']) H ∧ Ex (P ++ [.lst (rs.map Rw.W)]) H := by
  obtain ⟨σ', H, e, hI⟩ := forG_inv (chk := fun _ => true) (g := gN 10) (b := rowLoop)
    (fun j σ H => (∃ z, σ = [u, v, w, some (.int bx), some (.int sl), some (.ref c), tq, bq, some (.int (k : Int)), some (.ref P.length), z]) ∧ ∃ rs : List Rw, rs.length = r0.length + j ∧ Ex (P ++ [.lst (rs.map Rw.W)]) H) (rngW 0 n) [u, v, w, some (.int bx), some (.int sl), some (.ref c), tq, bq, some (.int (k : Int)), some (.ref P.length), z] H0
    (fun _ _ _ _ => rfl)
    (fun j q σ H hj hI => by
      obtain ⟨⟨z, rfl⟩, rs, hrl, x⟩ := hI
      obtain ⟨hjl, rfl⟩ := rngW_get hj
      rw [Int.zero_add]
      refine ⟨[u, v, w, some (.int bx), some (.int sl), some (.ref c), tq, bq, some (.int (k : Int)), some (.ref P.length), some (.int (j : Int))], H, rfl, ?_⟩
      unfold rowLoop
      have h4 : mulC 4 (k : Int) = true := mulC_l (by decide) (by decide)
      have hR := x.get (get_new _ _)
      try simp only [EVA, Nat.reduceSub, List.reduceReplicate, List.set_cons_zero, List.set_cons_succ, if_true, if_false, ↓reduceIte, String.reduceEq, reduceCtorEq]
      rw [bnd_ok (chk_ref hR)]
      try simp only [EVA, Nat.reduceSub, List.reduceReplicate, List.set_cons_zero, List.set_cons_succ, if_true, if_false, ↓reduceIte, String.reduceEq, reduceCtorEq, l_mul h4, l_mod (show (2 : Int) ≠ 0 by decide)]
      have q := fmod_range (j : Int) 2 (by decide)
      obtain ⟨t, ht⟩ : ∃ t : Nat, 4 * (k : Int) + 1 + (j : Int).fmod 2 = (t : Int) := ⟨(4 * (k : Int) + 1 + (j : Int).fmod 2).toNat, by omega⟩
      rw [ht, bnd_ok (ixv_ref ((x.get ((Ex.one _ _).get hcs))) (cs_at (by omega)))]
      try simp only [EVA, Nat.reduceSub, List.reduceReplicate, List.set_cons_zero, List.set_cons_succ, if_true, if_false, ↓reduceIte, String.reduceEq, reduceCtorEq, l_mul (mulC_r (a := cs.getD t 0) (b := 1 + (j : Int)) (by omega) (by omega))]
      obtain ⟨r, H2, e2, x2⟩ := row_by (cs.getD t 0 * (1 + (j : Int)) + (k : Int)) bx sl hb hs H
      rw [bnd_ok e2]
      rw [bnd_ok (append_ref (x2.get hR) (Nat.lt_of_lt_of_le (show _ < 1000 by rw [List.length_map]; omega) (small (by omega))) _)]
      refine ⟨_, _, rfl, _, .inl rfl, ⟨_, rfl⟩, rs ++ [r], by simp [hrl]; omega, ?_⟩
      obtain ⟨m, rfl⟩ := x.trans x2
      rw [set_mid, List.map_append]
      exact ⟨m, rfl⟩)
    ⟨⟨z, rfl⟩, r0, by omega, x0⟩
  obtain ⟨⟨z', rfl⟩, rs, hrl, x⟩ := hI
  rw [rngW_len] at hrl
  exact ⟨rs, z', H, by omega, e, x⟩
end IL.K27
namespace IL.K27
open PySem L2
noncomputable def blkBody : SM := (sSeq (sAsg (eOp mulV (eLst (aCons (eTup (aCons (eC (.str "turn")) aNil)) aNil)) (eCallB intW (aCons (eOp inV (eVar 8) (eVar 6)) aNil))) (gN 9)) (sSeq (sFor (iR1 (aCons (eOp ixV (eLst (aCons (eC (.int (0))) (aCons (eC (.int (0))) (aCons (eC (.int (1))) (aCons (eC (.int (2))) (aCons (eC (.int (3))) aNil)))))) (eOp modW (eOp divW (eOp ixV (eVar 5) (eOp mulV (eC (.int (4))) (eVar 8))) (eC (.int (4)))) (eC (.int (5))))) aNil)) (gN 10) rowLoop) (sExpr (eMeth isL appendW (eVar 7) (aCons (eTup (aCons (eVar 9) (aCons (eCall f_law_end_by (aCons (eOp addW (eOp ixV (eVar 5) (eOp addW (eOp mulV (eC (.int (4))) (eVar 8)) (eC (.int (3))))) (eVar 8)) (aCons (eVar 8) (aCons (eVar 2) (aCons (eVar 6) (aCons (eVar 3) aNil)))))) aNil))) aNil)))))
theorem blk_step {bx sl : Int} (hb : bx ≠ 0) (hs : sl ≠ 0) {cs : List Int} {many k : Nat} (hm : many ≤ 20) (hc : cs.length = 4 * many) (hk : k < many) {c r : Nat} {tn : List Nat} {B H : PH} (hcs : B[c]? = some (.lst (cs.map W.int))) (hr : B[r]? = some (.lst ((iN tn).map W.int)))
    (x : Ex B H) (ts : List Tr) (htl : ts.length = k) (hL : H[B.length]? = some (.lst (ts.map tW))) (hts : ∀ t ∈ ts, t.1 ≠ B.length ∧ H[t.1]? = some (.lst (t.2.1.map Rw.W))) (u v p q : Option W) :
    ∃ (t : Tr) (p' q' : Option W) (H' : PH), blkBody [u, v, some (.int (many : Int)), some (.int bx), some (.int sl), some (.ref c), some (.ref r), some (.ref B.length), some (.int (k : Int)), p, q] H = .ok (.nx [u, v, some (.int (many : Int)), some (.int bx), some (.int sl), some (.ref c), some (.ref r), some (.ref B.length), some (.int (k : Int)), p', q']) H' ∧ Ex B H' ∧ t.2.2.ok many ∧ t.2.1.length ≤ 10 ∧ H'[B.length]? = some (.lst ((ts ++ [t]).map tW)) ∧ ∀ t' ∈ ts ++ [t], t'.1 ≠ B.length ∧ H'[t'.1]? = some (.lst (t'.2.1.map Rw.W)) := by
  unfold blkBody sFor
  try simp only [EVA, Nat.reduceSub, List.reduceReplicate, List.set_cons_zero, List.set_cons_succ, if_true, if_false, ↓reduceIte, String.reduceEq, reduceCtorEq]
  rw [bnd_new _ _ _ (small (by simp))]
  have x1 : Ex B (H ++ [PO.lst [W.tup [W.str (Str.ofString "turn")]]]) := x.trans (Ex.one _ _)
  rw [bnd_ok (in_N (x1.get hr) k)]
  try simp only [EVA, Nat.reduceSub, List.reduceReplicate, List.set_cons_zero, List.set_cons_succ, if_true, if_false, ↓reduceIte, String.reduceEq, reduceCtorEq]
  obtain ⟨r0, hr0, er0⟩ : ∃ r0 : List Rw, r0.length ≤ 1 ∧ (List.replicate (if decide (k ∈ tn) = true then (1 : Int) else 0).toNat [W.tup [W.str (Str.ofString "turn")]]).flatten = r0.map Rw.W := by
    by_cases hkt : k ∈ tn
    · exact ⟨[.turn], by simp, by simp [hkt]; rfl⟩
    · exact ⟨[], by simp, by simp [hkt]⟩
  have hi01 : (if decide (k ∈ tn) = true then (1 : Int) else 0) = 0 ∨ (if decide (k ∈ tn) = true then (1 : Int) else 0) = 1 := by split <;> simp
  rw [bnd_ok (mulv_ref (get_new _ _) (by omega) (by omega) (small (by simp only [List.length_cons, List.length_nil]; omega))), er0]
  try simp only [EVA, Nat.reduceSub, List.reduceReplicate, List.set_cons_zero, List.set_cons_succ, if_true, if_false, ↓reduceIte, String.reduceEq, reduceCtorEq]
  have hPl : H.length < (H ++ [PO.lst [W.tup [W.str (Str.ofString "turn")]]]).length := by simp
  generalize hP : H ++ [PO.lst [W.tup [W.str (Str.ofString "turn")]]] = P at x1 hPl
  have hcP := x1.get hcs
  have h4 : mulC 4 (k : Int) = true := mulC_l (by decide) (by decide)
  -- how many rows
  have hR : ∃ (n : Nat) (H0 : PH), n ≤ 3 ∧ Ex (P ++ [PO.lst (r0.map Rw.W)]) H0 ∧ iR1 (aCons (eOp ixV (eLst (aCons (eC (.int (0))) (aCons (eC (.int (0))) (aCons (eC (.int (1))) (aCons (eC (.int (2))) (aCons (eC (.int (3))) aNil)))))) (eOp modW (eOp divW (eOp ixV (eVar 5) (eOp mulV (eC (.int (4))) (eVar 8))) (eC (.int (4)))) (eC (.int (5))))) aNil) [u, v, some (.int (many : Int)), some (.int bx), some (.int sl), some (.ref c), some (.ref r), some (.ref B.length), some (.int (k : Int)), some (.ref P.length), q] (P ++ [PO.lst (r0.map Rw.W)]) = .ok (rngW 0 n, fun _ => true) H0 := by
    have d := fmod_range ((cs.getD (4 * k) 0).fdiv 4) 5 (by decide)
    have ev : ∀ n : Nat, n ≤ 3 → atI [W.int 0, .int 0, .int 1, .int 2, .int 3] (((cs.getD (4 * k) 0).fdiv 4).fmod 5) = some (.int (n : Int)) → aCons (eOp ixV (eLst (aCons (eC (.int (0))) (aCons (eC (.int (0))) (aCons (eC (.int (1))) (aCons (eC (.int (2))) (aCons (eC (.int (3))) aNil)))))) (eOp modW (eOp divW (eOp ixV (eVar 5) (eOp mulV (eC (.int (4))) (eVar 8))) (eC (.int (4)))) (eC (.int (5))))) aNil [u, v, some (.int (many : Int)), some (.int bx), some (.int sl), some (.ref c), some (.ref r), some (.ref B.length), some (.int (k : Int)), some (.ref P.length), q] (P ++ [PO.lst (r0.map Rw.W)]) = .ok [.int (n : Int)] (P ++ [PO.lst (r0.map Rw.W)] ++ [PO.lst [W.int 0, .int 0, .int 1, .int 2, .int 3]]) := fun n hn hat => by
      try simp only [EVA, Nat.reduceSub, List.reduceReplicate, List.set_cons_zero, List.set_cons_succ, if_true, if_false, ↓reduceIte, String.reduceEq, reduceCtorEq, l_mul h4]
      rw [bnd_new _ _ _ (small (by simp))]
      rw [show (4 : Int) * (k : Int) = ((4 * k : Nat) : Int) by omega]
      rw [bnd_ok (ixv_ref ((Ex.one _ _).get ((Ex.one _ _).get hcP)) (cs_at (by omega)))]
      try simp only [EVA, Nat.reduceSub, List.reduceReplicate, List.set_cons_zero, List.set_cons_succ, if_true, if_false, ↓reduceIte, String.reduceEq, reduceCtorEq, l_mod (show (5 : Int) ≠ 0 by decide), l_div (show (4 : Int) ≠ 0 by decide) (by decide)]
      rw [bnd_ok (ixv_ref (get_new _ _) hat)]
      try simp only [EVA, Nat.reduceSub, List.reduceReplicate, List.set_cons_zero, List.set_cons_succ, if_true, if_false, ↓reduceIte, String.reduceEq, reduceCtorEq]
    have fin : ∀ n : Nat, n ≤ 3 → atI [W.int 0, .int 0, .int 1, .int 2, .int 3] (((cs.getD (4 * k) 0).fdiv 4).fmod 5) = some (.int (n : Int)) → ∃ (n : Nat) (H0 : PH), n ≤ 3 ∧ Ex (P ++ [PO.lst (r0.map Rw.W)]) H0 ∧ iR1 (aCons (eOp ixV (eLst (aCons (eC (.int (0))) (aCons (eC (.int (0))) (aCons (eC (.int (1))) (aCons (eC (.int (2))) (aCons (eC (.int (3))) aNil)))))) (eOp modW (eOp divW (eOp ixV (eVar 5) (eOp mulV (eC (.int (4))) (eVar 8))) (eC (.int (4)))) (eC (.int (5))))) aNil) [u, v, some (.int (many : Int)), some (.int bx), some (.int sl), some (.ref c), some (.ref r), some (.ref B.length), some (.int (k : Int)), some (.ref P.length), q] (P ++ [PO.lst (r0.map Rw.W)]) = .ok (rngW 0 n, fun _ => true) H0 := fun n hn hat => by
      refine ⟨n, P ++ [PO.lst (r0.map Rw.W)] ++ [PO.lst [W.int 0, .int 0, .int 1, .int 2, .int 3]], hn, Ex.one _ _, ?_⟩
      rw [iR1_ap (ev n hn hat) (by omega) (by omega), Int.toNat_natCast]
    generalize ((cs.getD (4 * k) 0).fdiv 4).fmod 5 = m at d fin
    have : m = 0 ∨ m = 1 ∨ m = 2 ∨ m = 3 ∨ m = 4 := by omega
    rcases this with rfl | rfl | rfl | rfl | rfl
    · exact fin 0 (by omega) rfl
    · exact fin 0 (by omega) rfl
    · exact fin 1 (by omega) rfl
    · exact fin 2 (by omega) rfl
    · exact fin 3 (by omega) rfl
  obtain ⟨n, H0, hn, x0, e0⟩ := hR
  rw [bnd_ok e0]
  obtain ⟨rs, z', H2, hrl, e2, x2⟩ := rows_loop hb hs hc hk u v (some (.int (many : Int))) (some (.ref r)) (some (.ref B.length)) n hn r0 hr0 hcP x0 q
  rw [bnd_ok e2]
  try simp only [EVA, Nat.reduceSub, List.reduceReplicate, List.set_cons_zero, List.set_cons_succ, if_true, if_false, ↓reduceIte, String.reduceEq, reduceCtorEq]
  have xP2 : Ex P H2 := (Ex.one _ _).trans x2
  have xB2 := x1.trans xP2
  have xH2 : Ex H H2 := by rw [← hP] at xP2; exact (Ex.one _ _).trans xP2
  rw [bnd_ok (chk_ref (xH2.get hL))]
  try simp only [EVA, Nat.reduceSub, List.reduceReplicate, List.set_cons_zero, List.set_cons_succ, if_true, if_false, ↓reduceIte, String.reduceEq, reduceCtorEq, l_mul h4]
  rw [show (4 : Int) * (k : Int) + 3 = ((4 * k + 3 : Nat) : Int) by omega]
  rw [bnd_ok (ixv_ref (xB2.get hcs) (cs_at (by omega)))]
  try simp only [EVA, Nat.reduceSub, List.reduceReplicate, List.set_cons_zero, List.set_cons_succ, if_true, if_false, ↓reduceIte, String.reduceEq, reduceCtorEq]
  obtain ⟨e, H3, e3, x3, hok⟩ := end_s (cs.getD (4 * k + 3) 0 + (k : Int)) k many tn bx hb (by omega) (xB2.get hr)
  rw [bnd_ok e3]
  try simp only [EVA, Nat.reduceSub, List.reduceReplicate, List.set_cons_zero, List.set_cons_succ, if_true, if_false, ↓reduceIte, String.reduceEq, reduceCtorEq]
  rw [bnd_ok (append_ref (x3.get (xH2.get hL)) (Nat.lt_of_lt_of_le (show _ < 1000 by rw [List.length_map]; omega) (small (by omega))) _)]
  have hBl : B.length < H.length := (List.getElem?_eq_some_iff.mp hL).1
  refine ⟨(P.length, rs, e), _, _, _, rfl, Ex.set' (xB2.trans x3) (Nat.le_refl _) _, hok, hrl, ?_, fun t' ht' => ?_⟩
  · rw [List.getElem?_set_self (Nat.lt_of_lt_of_le hBl (Nat.le_trans xH2.len x3.len)), List.map_append]
    rfl
  · rcases List.mem_append.mp ht' with ht' | ht'
    · obtain ⟨h1, h2⟩ := hts t' ht'
      refine ⟨h1, ?_⟩
      rw [List.getElem?_set_ne (Ne.symm h1)]
      exact x3.get (xH2.get h2)
    · have : t' = (P.length, rs, e) := by simpa using ht'
      subst this
      have hne : P.length ≠ B.length := by omega
      refine ⟨hne, ?_⟩
      show (H3.set B.length _)[P.length]? = _
      rw [List.getElem?_set_ne (Ne.symm hne)]
      exact x3.get (x2.get (get_new _ _))
theorem blocks_s (ns : List Int) (many : Nat) (bx sl : Int) (hb : bx ≠ 0) (hs : sl ≠ 0) (hm : many ≤ 20) (hp : 0 < many) (ph : PH) :
    ∃ (l : Nat) (ts : List Tr) (ph' : PH), f_law_blocks_by [.fl (ns.map W.int), .int 2, .int (many : Int), .int bx, .int sl] ph = .ok (.ref l) ph' ∧ Ex ph ph' ∧ BA ph' l ts ∧ ts.length = many ∧ Good ts := by
  unfold f_law_blocks_by b_law_blocks_by
  try simp only [EVA, Nat.reduceSub, List.reduceReplicate, List.set_cons_zero, List.set_cons_succ, if_true, if_false, ↓reduceIte, String.reduceEq, reduceCtorEq]
  obtain ⟨cs, ph1, hcl, e1, x1⟩ := cells_s ns 2 many hm (some (.int bx)) (some (.int sl)) none none none none none none ph
  rw [show ((2 : Nat) : Int) = 2 from rfl] at e1
  rw [bnd_ok e1]
  try simp only [EVA, Nat.reduceSub, List.reduceReplicate, List.set_cons_zero, List.set_cons_succ, if_true, if_false, ↓reduceIte, String.reduceEq, reduceCtorEq]
  obtain ⟨tn, ph2, e2, x2⟩ := turning_s cs many hm hcl (some (.fl (ns.map W.int))) (some (.int 2)) (some (.int bx)) (some (.int sl)) none none none none none (x1.get (get_new _ _)) none
  rw [bnd_ok e2]
  try simp only [EVA, Nat.reduceSub, List.reduceReplicate, List.set_cons_zero, List.set_cons_succ, if_true, if_false, ↓reduceIte, String.reduceEq, reduceCtorEq]
  rw [bnd_new _ _ _ (small (by simp))]
  have x12 := (Ex.one _ _).trans x2
  have hcs := x12.get (x1.get (get_new _ _))
  have hr := x2.get (get_new _ _)
  have him : iR1 (aCons (eVar 2) aNil) [some (.fl (ns.map W.int)), some (.int 2), some (.int (many : Int)), some (.int bx), some (.int sl), some (.ref ph.length), some (.ref ph1.length), some (.ref ph2.length), none, none, none] (ph2 ++ [PO.lst []]) = .ok (rngW 0 many, fun _ => true) (ph2 ++ [PO.lst []]) := by
    rw [iR1_ap (j := (many : Int)) (ph' := ph2 ++ [PO.lst []]) (by try simp only [EVA, Nat.reduceSub, List.reduceReplicate, List.set_cons_zero, List.set_cons_succ, if_true, if_false, ↓reduceIte, String.reduceEq, reduceCtorEq]) (by omega) (by omega), Int.toNat_natCast]
  obtain ⟨σ', H, e, hI⟩ := forG_inv (chk := fun _ => true) (g := gN 8) (b := blkBody)
    (fun k σ H => (∃ a p q, σ = [some (.fl (ns.map W.int)), some (.int 2), some (.int (many : Int)), some (.int bx), some (.int sl), some (.ref ph.length), some (.ref ph1.length), some (.ref ph2.length), a, p, q]) ∧ Ex ph2 H ∧ ∃ ts : List Tr, ts.length = k ∧ H[ph2.length]? = some (.lst (ts.map tW)) ∧ (∀ t ∈ ts, t.1 ≠ ph2.length ∧ H[t.1]? = some (.lst (t.2.1.map Rw.W))) ∧ ∀ t ∈ ts, t.2.2.ok many ∧ t.2.1.length ≤ 10) (rngW 0 many) [some (.fl (ns.map W.int)), some (.int 2), some (.int (many : Int)), some (.int bx), some (.int sl), some (.ref ph.length), some (.ref ph1.length), some (.ref ph2.length), none, none, none] (ph2 ++ [PO.lst []])
    (fun _ _ _ _ => rfl)
    (fun k w σ H hk hI => by
      obtain ⟨⟨a, p, q, rfl⟩, x, ts, htl, hL, hts, hgd⟩ := hI
      obtain ⟨hkl, rfl⟩ := rngW_get hk
      rw [Int.zero_add]
      obtain ⟨t, p', q', H', e', x', h1, h2, h3, h4⟩ := blk_step hb hs hm hcl hkl hcs hr x ts htl hL hts (some (.fl (ns.map W.int))) (some (.int 2)) p q
      refine ⟨_, H, rfl, _, H', e', _, .inl rfl, ⟨_, _, _, rfl⟩, x', ts ++ [t], by simp [htl], h3, h4, fun t' ht' => ?_⟩
      rcases List.mem_append.mp ht' with ht' | ht'
      · exact hgd t' ht'
      · have : t' = t := by simpa using ht'
        rw [this]; exact ⟨h1, h2⟩)
    ⟨⟨none, none, none, rfl⟩, Ex.one _ _, [], rfl, get_new _ _, fun t ht => (nomatch ht), fun t ht => (nomatch ht)⟩
  obtain ⟨⟨a, p, q, rfl⟩, x, ts, htl, hL, hts, hgd⟩ := hI
  rw [rngW_len] at htl
  have e' : bnd (iR1 (aCons (eVar 2) aNil) [some (.fl (ns.map W.int)), some (.int 2), some (.int (many : Int)), some (.int bx), some (.int sl), some (.ref ph.length), some (.ref ph1.length), some (.ref ph2.length), none, none, none]) (fun r => forG r.2 (gN 8) blkBody r.1 [some (.fl (ns.map W.int)), some (.int 2), some (.int (many : Int)), some (.int bx), some (.int sl), some (.ref ph.length), some (.ref ph1.length), some (.ref ph2.length), none, none, none]) (ph2 ++ [PO.lst []]) = _ := (bnd_ok him).trans e
  have e'' : sFor (iR1 (aCons (eVar 2) aNil)) (gN 8) blkBody [some (.fl (ns.map W.int)), some (.int 2), some (.int (many : Int)), some (.int bx), some (.int sl), some (.ref ph.length), some (.ref ph1.length), some (.ref ph2.length), none, none, none] (ph2 ++ [PO.lst []]) = _ := e'
  unfold blkBody rowLoop at e''
  rw [bnd_ok e'']
  try simp only [EVA, Nat.reduceSub, List.reduceReplicate, List.set_cons_zero, List.set_cons_succ, if_true, if_false, ↓reduceIte, String.reduceEq, reduceCtorEq]
  refine ⟨ph2.length, ts, H, rfl, ((Ex.one _ _).trans x1).trans (x12.trans x), ⟨hL, fun t ht => (hts t ht).2⟩, htl, ?_, by omega, by omega, fun t ht => (hgd t ht).2⟩
  intro en hen
  unfold ends at hen
  obtain ⟨t, ht, rfl⟩ := List.mem_map.mp hen
  rw [ends_len, htl]
  exact (hgd t ht).1
end IL.K27
namespace IL.K27
open PySem L2
noncomputable def b_law_10 : SM := (sRet (eAnd (eCall f_law_right (aCons (eCall f_laid (aCons (eVar 5) aNil)) (aCons (eVar 6) aNil))) (eAnd (eOp eqW (eVar 7) (eLst aNil)) (eOp eqW (eVar 5) (eVar 3)))))
noncomputable def b_law_9 : SM := sSeq (sExpr (eMeth isL clearW (eVar 7) aNil)) b_law_10
noncomputable def b_law_8 : SM := sSeq (sIf (tOrM (tNotM (eTru (eCall f_law_right (aCons (eVar 7) (aCons (eVar 6) aNil))))) (eT (eOp neW (eVar 5) (eVar 3)))) (sRet (eC (.bl false))) sNext) b_law_9
noncomputable def b_law_7 : SM := sSeq (sAsg (eCall f_laid (aCons (eVar 5) aNil)) (gN 7)) b_law_8
noncomputable def b_law_6 : SM := sSeq (sAsg (eCall f_law_due (aCons (eVar 3) aNil)) (gN 6)) b_law_7
noncomputable def b_law_5 : SM := sSeq (sAsg (eComp (iBoth (eVar 3)) [none, none] (gLen 2 [(gN 0), (gN 1)]) cTrue (eTup (aCons (eCallB listW (aCons (eVar 0) aNil)) (aCons (eVar 1) aNil)))) (gN 5)) b_law_6
noncomputable def b_law_4 : SM := sSeq (sIf (eT (eOp eqW (eOp modW (eOp divW (eCall f_law_cell_at (aCons (eVar 0) (aCons (eC (.int (1))) aNil))) (eC (.int (96)))) (eC (.int (8)))) (eC (.int (1))))) (sSeq (sAsg (eOp divW (eCall f_law_cell_at (aCons (eVar 0) (aCons (eC (.int (1))) aNil))) (eC (.int (768)))) (gN 4)) (sAsg (eComp (iR1 (aCons (eVar 1) aNil)) [none, some 1, some 3, some 4] (gN 0) cTrue (eTup (aCons (eOp ixV (eOp ixV (eVar 2) (eVar 0)) (eC (.int (0)))) (aCons (eCall f_law_any_end (aCons (eOp ixV (eOp ixV (eVar 2) (eVar 0)) (eC (.int (1)))) (aCons (eOp addW (eOp divW (eVar 3) (eOp addW (eVar 0) (eC (.int (1))))) (eVar 0)) (aCons (eVar 1) aNil)))) aNil)))) (gN 3))) sNext) b_law_5
noncomputable def b_law_3 : SM := sSeq (sAsg (eCall f_law_blocks_by (aCons (eVar 0) (aCons (eC (.int (2))) (aCons (eVar 1) (aCons (eVar 2) (aCons (eOp addW (eC (.int (1))) (eOp modW (eOp divW (eCall f_law_cell_at (aCons (eVar 0) (aCons (eC (.int (1))) aNil))) (eC (.int (8)))) (eC (.int (12))))) aNil)))))) (gN 3)) b_law_4
noncomputable def b_law_2 : SM := sSeq (sAsg (eOp addW (eC (.int (2))) (eOp modW (eCall f_law_cell_at (aCons (eVar 0) (aCons (eC (.int (1))) aNil))) (eC (.int (8))))) (gN 2)) b_law_3
noncomputable def b_law_1 : SM := sSeq (sIf (eT (eOp eqW (eOp modW (eOp divW (eCall f_law_cell_at (aCons (eVar 0) (aCons (eC (.int (0))) aNil))) (eC (.int (7)))) (eC (.int (9)))) (eC (.int (1))))) (sAsg (eOp addW (eC (.int (8))) (eOp modW (eOp divW (eCall f_law_cell_at (aCons (eVar 0) (aCons (eC (.int (0))) aNil))) (eC (.int (63)))) (eC (.int (7))))) (gN 1)) sNext) b_law_2
noncomputable def b_law_0 : SM := sSeq (sAsg (eOp addW (eC (.int (1))) (eOp modW (eCall f_law_cell_at (aCons (eVar 0) (aCons (eC (.int (0))) aNil))) (eC (.int (7))))) (gN 1)) b_law_1
theorem b_law_eq : b_law = b_law_0 := rfl
def Fine (o : Out Fl) : Prop := ∃ ph', o = .ok (.rt (.bl true)) ph'
section
variable {ts us : List Tr}
theorem ends_same (h : ts.map (·.2) = us.map (·.2)) : ends ts = ends us := by
  have : ∀ l : List Tr, ends l = (l.map (·.2)).map (·.2) := fun l => by unfold ends; rw [List.map_map]; rfl
  rw [this, this, h]
theorem rows_same (h : ts.map (·.2) = us.map (·.2)) (b : Nat) : rowsOf ts b = rowsOf us b := by
  have : ∀ l : List Tr, rowsOf l b = (((l.map (·.2))[b]?).map (·.1)).getD [] := fun l => by unfold rowsOf; rw [List.getElem?_map]; cases l[b]? <;> rfl
  rw [this, this, h]
theorem len_same (h : ts.map (·.2) = us.map (·.2)) : ts.length = us.length := by
  have := congrArg List.length h
  simpa using this
theorem RR_same (h : ts.map (·.2) = us.map (·.2)) : ∀ k, RR ts k = RR us k
  | 0 => rfl
  | k + 1 => by
    show RR ts k ++ (rowsOf ts (bk ts k)).map PR.rw ++ tlP (en (ends ts) (bk ts k)) (run (ends ts) (k + 1)).1 = RR us k ++ (rowsOf us (bk us k)).map PR.rw ++ tlP (en (ends us) (bk us k)) (run (ends us) (k + 1)).1
    have hb : bk ts k = bk us k := by unfold bk; rw [ends_same h]
    rw [RR_same h k, hb, rows_same h, ends_same h]
theorem pls_same (h : ts.map (·.2) = us.map (·.2)) : ∀ k, pls ts k = pls us k
  | 0 => rfl
  | k + 1 => by
    show pls ts k ++ [(bk ts k, (RR ts k).length)] = pls us k ++ [(bk us k, (RR us k).length)]
    have hb : bk ts k = bk us k := by unfold bk; rw [ends_same h]
    rw [pls_same h k, hb, RR_same h]
theorem last_same (h : ts.map (·.2) = us.map (·.2)) : last ts = last us := by
  unfold last
  rw [len_same h, RR_same h, pls_same h]
theorem Good.same (g : Good ts) (h : ts.map (·.2) = us.map (·.2)) : Good us where
  ok := by rw [← ends_same h]; exact g.ok
  pos := by rw [← len_same h]; exact g.pos
  few := by rw [← len_same h]; exact g.few
  rws := fun t ht => by
    have : t.2 ∈ us.map (·.2) := List.mem_map.mpr ⟨t, ht, rfl⟩
    rw [← h] at this
    obtain ⟨u, hu, e⟩ := List.mem_map.mp this
    rw [← e]; exact g.rws u hu
end
theorem dat_blk {H : PH} {t u : Tr} (h : t.2 = u.2) (h1 : H[t.1]? = some (.lst (t.2.1.map Rw.W))) (h2 : H[u.1]? = some (.lst (u.2.1.map Rw.W))) : dat H 39 (tW t) = dat H 39 (tW u) := by
  unfold tW
  simp only [dat, mapO, h1, h2, h]
theorem dat_blk_ex {H : PH} {t : Tr} (h1 : H[t.1]? = some (.lst (t.2.1.map Rw.W))) : ∃ d, dat H 39 (tW t) = some d := by
  obtain ⟨ds, hds⟩ := mapO_ex (f := dat H 37) (t.2.1.map Rw.W) fun w hw => by
    obtain ⟨r, _, rfl⟩ := List.mem_map.mp hw
    exact dat_rw H 36 r
  obtain ⟨d, hd⟩ := dat_en H 37 t.2.2
  unfold tW
  have e1 : dat H 38 (.ref t.1) = some (.list ds) := by simp only [dat, h1, hds, Option.map_some]
  simp only [dat, mapO, e1, hd, Option.map_some] at *
  rw [h1]
  simp only [hds, Option.map_some]
  exact ⟨_, rfl⟩
theorem mapO_blk {H : PH} : ∀ {ts us : List Tr}, ts.map (·.2) = us.map (·.2) → (∀ t ∈ ts, H[t.1]? = some (.lst (t.2.1.map Rw.W))) → (∀ t ∈ us, H[t.1]? = some (.lst (t.2.1.map Rw.W))) → mapO (dat H 39) (ts.map tW) = mapO (dat H 39) (us.map tW)
  | [], [], _, _, _ => rfl
  | [], _ :: _, h, _, _ => by simp at h
  | _ :: _, [], h, _, _ => by simp at h
  | t :: ts, u :: us, h, h1, h2 => by
    simp only [List.map_cons, List.cons.injEq] at h
    rw [List.map_cons, List.map_cons]
    unfold mapO
    rw [dat_blk h.1 (h1 t (by simp)) (h2 u (by simp)), mapO_blk h.2 (fun t ht => h1 t (by simp [ht])) (fun t ht => h2 t (by simp [ht]))]
theorem eq_blk {H : PH} {ts us : List Tr} {l m : Nat} (h : ts.map (·.2) = us.map (·.2)) (h1 : BA H l ts) (h2 : BA H m us) : eqD H (.ref l) (.ref m) = some true := by
  obtain ⟨ds, hds⟩ := mapO_ex (f := dat H 39) (ts.map tW) fun w hw => by
    obtain ⟨t, ht, rfl⟩ := List.mem_map.mp hw
    exact dat_blk_ex (h1.2 t ht)
  have hds' := hds
  rw [mapO_blk h h1.2 h2.2] at hds'
  refine eqD_of (d := .list ds) ?_ ?_
  · simp only [dat, h1.1, hds, Option.map_some]
  · simp only [dat, h2.1, hds', Option.map_some]
theorem tr_of (P : Nat → Tr → Prop) : ∀ (k : Nat) (ws : List W), (∀ (j : Nat) w, ws[j]? = some w → ∃ t, w = tW t ∧ P (k + j) t) → ∃ ts : List Tr, ws = ts.map tW ∧ ∀ j t, ts[j]? = some t → P (k + j) t
  | _, [], _ => ⟨[], rfl, fun j t h => by simp at h⟩
  | k, w :: ws, h => by
    obtain ⟨t, rfl, hp⟩ := h 0 w rfl
    obtain ⟨ts, rfl, hts⟩ := tr_of P (k + 1) ws fun j u hu => by
      have := h (j + 1) u (by simpa using hu)
      rw [show k + (j + 1) = k + 1 + j by omega] at this
      exact this
    refine ⟨t :: ts, rfl, fun j u hu => ?_⟩
    cases j with
    | zero => cases hu; exact hp
    | succ j =>
      have := hts j u (by simpa using hu)
      rw [show k + 1 + j = k + (j + 1) by omega] at this
      exact this
theorem handed_s {ts : List Tr} (hf : ts.length ≤ 20) {ph : PH} {l : Nat} (hb : BA ph l ts) (a b c d e f g : Option W) : ∃ (us : List Tr) (ph' : PH), eComp (iBoth (eVar 3)) [none, none] (gLen 2 [(gN 0), (gN 1)]) cTrue (eTup (aCons (eCallB listW (aCons (eVar 0) aNil)) (aCons (eVar 1) aNil))) [a, b, c, some (.ref l), d, e, f, g] ph = .ok (.ref ph.length) ph' ∧ Ex ph ph' ∧ BA ph' ph.length us ∧ us.map (·.2) = ts.map (·.2) := by
  obtain ⟨ws, ph', e1, x, hl, hR⟩ := comp_relH (cap := [none, none]) (g := gLen 2 [(gN 0), (gN 1)]) (c := cTrue) (e := eTup (aCons (eCallB listW (aCons (eVar 0) aNil)) (aCons (eVar 1) aNil))) ts tW (iBoth_ref (m := eVar 3) (show eVar 3 [a, b, c, some (.ref l), d, e, f, g] ph = .ok (.ref l) ph from rfl) hb.1)
    (fun ph' x => decide_eq_true (x.get hb.1)) (small (by omega)) (fun j w H => ∃ t : Tr, w = tW t ∧ (ts[j]?).map (·.2) = some t.2 ∧ t.1 ≠ ph.length ∧ H[t.1]? = some (.lst (t.2.1.map Rw.W)))
    (fun j w H H' h x => by
      obtain ⟨t, h1, h2, h3, h4⟩ := h
      exact ⟨t, h1, h2, h3, x.get h4⟩)
    (fun j w H o h => by
      obtain ⟨t, h1, h2, h3, h4⟩ := h
      exact ⟨t, h1, h2, h3, by rw [List.getElem?_set_ne (Ne.symm h3)]; exact h4⟩)
    (fun σ => ∃ y z, σ = [y, z]) ⟨none, none, rfl⟩
    (fun j t hj σ H hS hE hlt => by
      obtain ⟨y, z, rfl⟩ := hS
      refine ⟨[some (.ref t.1), some t.2.2.W], rfl, ⟨_, _, rfl⟩, H, rfl, Ex.refl _, ?_⟩
      have ht := hE.get (hb.2 t (List.mem_of_getElem? hj))
      refine ⟨tW (H.length, t.2), H ++ [.lst (t.2.1.map Rw.W)], ?_, Ex.one _ _, (H.length, t.2), rfl, by rw [hj]; rfl, by show H.length ≠ ph.length; omega, get_new _ _⟩
      show eTup (aCons (eCallB listW (aCons (eVar 0) aNil)) (aCons (eVar 1) aNil)) [some (.ref t.1), some t.2.2.W] H = _
      try simp only [EVA, Nat.reduceSub, List.reduceReplicate, List.set_cons_zero, List.set_cons_succ, if_true, if_false, ↓reduceIte, String.reduceEq, reduceCtorEq]
      rw [bnd_ok (list_ref ht)]
      try simp only [EVA, Nat.reduceSub, List.reduceReplicate, List.set_cons_zero, List.set_cons_succ, if_true, if_false, ↓reduceIte, String.reduceEq, reduceCtorEq]
      rfl)
  obtain ⟨us, rfl, hus⟩ := tr_of (fun j t => (ts[j]?).map (·.2) = some t.2 ∧ ph'[t.1]? = some (.lst (t.2.1.map Rw.W))) 0 ws fun j w hw => by
    obtain ⟨t, h1, h2, _, h4⟩ := hR j w hw
    rw [Nat.zero_add]
    exact ⟨t, h1, h2, h4⟩
  refine ⟨us, ph', e1, (Ex.one _ _).trans x, ⟨x.get (get_new _ _), fun t ht => ?_⟩, ?_⟩
  · obtain ⟨j, hj, ej⟩ := List.getElem_of_mem ht
    exact (hus j t (by rw [List.getElem?_eq_getElem hj, ej])).2
  · refine List.ext_getElem? fun j => ?_
    rw [List.getElem?_map, List.getElem?_map]
    have hlen : us.length = ts.length := by simpa using hl
    cases q : us[j]? with
    | none =>
      have : ts[j]? = none := by
        rw [List.getElem?_eq_none_iff] at q ⊢
        omega
      rw [this]
      all_goals rfl
    | some t =>
      have := (hus j t q).1
      rw [Nat.zero_add] at this
      rw [this]
      all_goals rfl
theorem t5 {ts : List Tr} (gd : Good ts) {ph : PH} {l : Nat} (hb : BA ph l ts) (a b c d e f g : Option W) : Fine (b_law_5 [a, b, c, some (.ref l), d, e, f, g] ph) := by
  unfold b_law_5 b_law_6 b_law_7 b_law_8 b_law_9 b_law_10
  try simp only [EVA, Nat.reduceSub, List.reduceReplicate, List.set_cons_zero, List.set_cons_succ, if_true, if_false, ↓reduceIte, String.reduceEq, reduceCtorEq]
  obtain ⟨us, ph1, e1, x1, hu1, hsame⟩ := handed_s gd.few hb a b c d e f g
  have gu := gd.same hsame.symm
  rw [bnd_ok e1]
  try simp only [EVA, Nat.reduceSub, List.reduceReplicate, List.set_cons_zero, List.set_cons_succ, if_true, if_false, ↓reduceIte, String.reduceEq, reduceCtorEq]
  have hb1 := hb.ex x1
  obtain ⟨dd, ph2, e2, x2, hd1, hd2⟩ := due_s gd hb1
  rw [bnd_ok e2]
  try simp only [EVA, Nat.reduceSub, List.reduceReplicate, List.set_cons_zero, List.set_cons_succ, if_true, if_false, ↓reduceIte, String.reduceEq, reduceCtorEq]
  have hu2 := hu1.ex x2
  obtain ⟨r, ph3, e3, x3, hr1, hr2⟩ := laid_s gu hu2
  rw [bnd_ok e3]
  try simp only [EVA, Nat.reduceSub, List.reduceReplicate, List.set_cons_zero, List.set_cons_succ, if_true, if_false, ↓reduceIte, String.reduceEq, reduceCtorEq]
  have hlast : last us = last ts := last_same hsame
  rw [hlast] at hr2
  have hd3 := x3.get hd2
  have right : ∀ (K : PH) (i j : Nat), K[i]? = some (.lst (last ts)) → K[j]? = some (.lst (last ts)) → f_law_right [.ref i, .ref j] K = .ok (.bl true) K := fun K i j h1 h2 => right_s (RR ts ts.length) (pls ts ts.length) h1 h2
  rw [bnd_ok (right ph3 r dd hr2 hd3)]
  try simp only [EVA, Nat.reduceSub, List.reduceReplicate, List.set_cons_zero, List.set_cons_succ, if_true, if_false, ↓reduceIte, String.reduceEq, reduceCtorEq]
  have hb3 := (hb1.ex x2).ex x3
  have hu3 := hu2.ex x3
  rw [bnd_ok (l_neD (eq_blk hsame hu3 hb3))]
  try simp only [EVA, Nat.reduceSub, List.reduceReplicate, List.set_cons_zero, List.set_cons_succ, if_true, if_false, ↓reduceIte, String.reduceEq, reduceCtorEq]
  rw [bnd_ok (chk_ref hr2)]
  rw [bnd_ok (clear_ref hr2)]
  try simp only [EVA, Nat.reduceSub, List.reduceReplicate, List.set_cons_zero, List.set_cons_succ, if_true, if_false, ↓reduceIte, String.reduceEq, reduceCtorEq]
  -- all that stood ahead of the first answer stays
  have hlt : ∀ i o, ph2[i]? = some o → i < ph2.length := fun i o h => (List.getElem?_eq_some_iff.mp h).1
  have keep : ∀ i o, ph2[i]? = some o → (ph3.set r (PO.lst []))[i]? = some o := fun i o h => by
    have := hlt i o h
    rw [List.getElem?_set_ne (by omega)]
    exact x3.get h
  have hb2 := hb1.ex x2
  have hu4 : BA (ph3.set r (PO.lst [])) ph.length us := ⟨keep _ _ hu2.1, fun t ht => keep _ _ (hu2.2 t ht)⟩
  have hb4 : BA (ph3.set r (PO.lst [])) l ts := ⟨keep _ _ hb2.1, fun t ht => keep _ _ (hb2.2 t ht)⟩
  have hd4 := keep _ _ hd2
  have hr4 : (ph3.set r (PO.lst []))[r]? = some (.lst []) := by rw [List.getElem?_set_self (List.getElem?_eq_some_iff.mp hr2).1]
  generalize ph3.set r (PO.lst []) = ph4 at hu4 hb4 hd4 hr4
  obtain ⟨r5, ph5, e5, x5, _, hr5⟩ := laid_s gu hu4
  rw [hlast] at hr5
  rw [bnd_ok e5]
  try simp only [EVA, Nat.reduceSub, List.reduceReplicate, List.set_cons_zero, List.set_cons_succ, if_true, if_false, ↓reduceIte, String.reduceEq, reduceCtorEq]
  rw [bnd_ok (right ph5 r5 dd hr5 (x5.get hd4))]
  try simp only [EVA, Nat.reduceSub, List.reduceReplicate, List.set_cons_zero, List.set_cons_succ, if_true, if_false, ↓reduceIte, String.reduceEq, reduceCtorEq]
  rw [bnd_new _ _ _ (small (by simp))]
  rw [bnd_ok (l_eqD (eq_same (ws := []) (ds := []) ((Ex.one _ _).get (x5.get hr4)) (get_new _ _) rfl))]
  try simp only [EVA, Nat.reduceSub, List.reduceReplicate, List.set_cons_zero, List.set_cons_succ, if_true, if_false, ↓reduceIte, String.reduceEq, reduceCtorEq]
  rw [bnd_ok (l_eqD (eq_blk hsame ((hu4.ex x5).ex (Ex.one _ _)) ((hb4.ex x5).ex (Ex.one _ _))))]
  exact ⟨_, rfl⟩
theorem any_s (e : En) (more : Int) (many : Nat) (hp : 0 < many) (hm : many ≤ 20) (ph : PH) : ∃ e' : En, f_law_any_end [e.W, .int more, .int (many : Int)] ph = .ok e'.W ph ∧ e'.ok many := by
  have h0 : (many : Int) ≠ 0 := by omega
  have h1 : (many : Int).natAbs < 2 ^ 64 := by omega
  have q1 := fmod_range more (many : Int) (by omega)
  have q2 := fmod_range (more.fdiv (many : Int)) (many : Int) (by omega)
  unfold f_law_any_end b_law_any_end
  cases e with
  | fin =>
    unfold En.W
    try simp only [EVA, Nat.reduceSub, List.reduceReplicate, List.set_cons_zero, List.set_cons_succ, if_true, if_false, ↓reduceIte, String.reduceEq, reduceCtorEq]
    exact ⟨.fin, rfl, trivial⟩
  | go n =>
    unfold En.W
    try simp only [EVA, Nat.reduceSub, List.reduceReplicate, List.set_cons_zero, List.set_cons_succ, if_true, if_false, ↓reduceIte, String.reduceEq, reduceCtorEq, l_mod h0]
    refine ⟨.go (more.fmod (many : Int)).toNat, ?_, by show _ < many; omega⟩
    simp only [show (((more.fmod (many : Int)).toNat : Nat) : Int) = more.fmod (many : Int) by omega]
  | iff k y n =>
    unfold En.W
    try simp only [EVA, Nat.reduceSub, List.reduceReplicate, List.set_cons_zero, List.set_cons_succ, if_true, if_false, ↓reduceIte, String.reduceEq, reduceCtorEq, l_mod h0, l_div h0 h1]
    refine ⟨.iff k (more.fmod (many : Int)).toNat ((more.fdiv (many : Int)).fmod (many : Int)).toNat, ?_, ?_⟩
    · simp only [show (((more.fmod (many : Int)).toNat : Nat) : Int) = more.fmod (many : Int) by omega, show ((((more.fdiv (many : Int)).fmod (many : Int)).toNat : Nat) : Int) = (more.fdiv (many : Int)).fmod (many : Int) by omega]
    · exact ⟨by omega, by omega⟩
theorem anyc_s {ts : List Tr} (gd : Good ts) {ph : PH} {l : Nat} (hb : BA ph l ts) (more : Int) (a b e f g : Option W) : ∃ (us : List Tr) (ph' : PH), eComp (iR1 (aCons (eVar 1) aNil)) [none, some 1, some 3, some 4] (gN 0) cTrue (eTup (aCons (eOp ixV (eOp ixV (eVar 2) (eVar 0)) (eC (.int (0)))) (aCons (eCall f_law_any_end (aCons (eOp ixV (eOp ixV (eVar 2) (eVar 0)) (eC (.int (1)))) (aCons (eOp addW (eOp divW (eVar 3) (eOp addW (eVar 0) (eC (.int (1))))) (eVar 0)) (aCons (eVar 1) aNil)))) aNil))) [a, some (.int (ts.length : Int)), b, some (.ref l), some (.int more), e, f, g] ph = .ok (.ref ph.length) ph' ∧ Ex ph ph' ∧ BA ph' ph.length us ∧ Good us := by
  have hfew := gd.few
  have him : iR1 (aCons (eVar 1) aNil) [a, some (.int (ts.length : Int)), b, some (.ref l), some (.int more), e, f, g] ph = .ok ((List.range ts.length).map fun k : Nat => W.int (0 + ((k : Nat) : Int)), fun _ => true) ph := by
    rw [iR1_ap (j := (ts.length : Int)) (ph' := ph) (by try simp only [EVA, Nat.reduceSub, List.reduceReplicate, List.set_cons_zero, List.set_cons_succ, if_true, if_false, ↓reduceIte, String.reduceEq, reduceCtorEq]) (by omega) (by omega), Int.toNat_natCast]; rfl
  obtain ⟨ws, ph', e1, x, hl, hR⟩ := comp_rel (cap := [none, some 1, some 3, some 4]) (g := gN 0) (c := cTrue) (e := eTup (aCons (eOp ixV (eOp ixV (eVar 2) (eVar 0)) (eC (.int (0)))) (aCons (eCall f_law_any_end (aCons (eOp ixV (eOp ixV (eVar 2) (eVar 0)) (eC (.int (1)))) (aCons (eOp addW (eOp divW (eVar 3) (eOp addW (eVar 0) (eC (.int (1))))) (eVar 0)) (aCons (eVar 1) aNil)))) aNil))) _ _ him (fun _ _ => rfl) (small (by simp; omega)) (fun j w => ∃ t : Tr, w = tW t ∧ t.2.2.ok ts.length ∧ ∃ t0 ∈ ts, t.1 = t0.1 ∧ t.2.1 = t0.2.1) (fun σ => ∃ y, σ = [y, some (.int (ts.length : Int)), some (.ref l), some (.int more)]) ⟨none, rfl⟩ (fun j k hj σ H hS hE => by
    obtain ⟨y, rfl⟩ := hS
    have hk : k < ts.length := List.mem_range.mp (List.mem_of_getElem? hj)
    obtain ⟨t, htb, htm, hat, _, _⟩ := ts_at hk
    refine ⟨_, rfl, ⟨_, rfl⟩, H, rfl, Ex.refl _, ?_⟩
    obtain ⟨e', ee, hok⟩ := any_s t.2.2 (more.fdiv ((k : Int) + 1) + (k : Int)) ts.length gd.pos hfew H
    refine ⟨tW (t.1, t.2.1, e'), H, ?_, Ex.refl _, (t.1, t.2.1, e'), rfl, hok, t, htm, rfl, rfl⟩
    show eTup (aCons (eOp ixV (eOp ixV (eVar 2) (eVar 0)) (eC (.int (0)))) (aCons (eCall f_law_any_end (aCons (eOp ixV (eOp ixV (eVar 2) (eVar 0)) (eC (.int (1)))) (aCons (eOp addW (eOp divW (eVar 3) (eOp addW (eVar 0) (eC (.int (1))))) (eVar 0)) (aCons (eVar 1) aNil)))) aNil)) [some (.int (0 + ((k : Nat) : Int))), some (.int (ts.length : Int)), some (.ref l), some (.int more)] H = _
    rw [Int.zero_add]
    have hbH := hb.ex hE
    try simp only [EVA, Nat.reduceSub, List.reduceReplicate, List.set_cons_zero, List.set_cons_succ, if_true, if_false, ↓reduceIte, String.reduceEq, reduceCtorEq]
    rw [bnd_ok (ixv_ref hbH.1 hat)]
    unfold tW
    try simp only [EVA, Nat.reduceSub, List.reduceReplicate, List.set_cons_zero, List.set_cons_succ, if_true, if_false, ↓reduceIte, String.reduceEq, reduceCtorEq]
    rw [bnd_ok (ixv_ref hbH.1 hat)]
    unfold tW
    try simp only [EVA, Nat.reduceSub, List.reduceReplicate, List.set_cons_zero, List.set_cons_succ, if_true, if_false, ↓reduceIte, String.reduceEq, reduceCtorEq, l_div (show ((k : Int) + 1) ≠ 0 by omega) (show ((k : Int) + 1).natAbs < 2 ^ 64 by omega)]
    rw [bnd_ok ee]
    try simp only [EVA, Nat.reduceSub, List.reduceReplicate, List.set_cons_zero, List.set_cons_succ, if_true, if_false, ↓reduceIte, String.reduceEq, reduceCtorEq])
  obtain ⟨us, rfl, hus⟩ := tr_of (fun _ t => t.2.2.ok ts.length ∧ ∃ t0 ∈ ts, t.1 = t0.1 ∧ t.2.1 = t0.2.1) 0 ws fun j w hw => by
    obtain ⟨t, h1, h2, h3⟩ := hR j w hw
    exact ⟨t, h1, h2, h3⟩
  have hul : us.length = ts.length := by simpa using hl
  have hmem : ∀ t ∈ us, t.2.2.ok ts.length ∧ ∃ t0 ∈ ts, t.1 = t0.1 ∧ t.2.1 = t0.2.1 := fun t ht => by
    obtain ⟨j, hj, ej⟩ := List.getElem_of_mem ht
    exact hus j t (by rw [List.getElem?_eq_getElem hj, ej])
  refine ⟨us, ph', e1, (Ex.one _ _).trans x, ⟨x.get (get_new _ _), fun t ht => ?_⟩, ?_, ?_, ?_, fun t ht => ?_⟩
  · obtain ⟨_, t0, ht0, h1, h2⟩ := hmem t ht
    rw [h1, h2]
    exact ((Ex.one _ _).trans x).get (hb.2 t0 ht0)
  · intro en hen
    unfold ends at hen
    obtain ⟨t, ht, rfl⟩ := List.mem_map.mp hen
    rw [ends_len, hul]
    exact (hmem t ht).1
  · rw [hul]; exact gd.pos
  · rw [hul]; exact hfew
  · obtain ⟨_, t0, ht0, _, h2⟩ := hmem t ht
    rw [h2]; exact gd.rws t0 ht0
theorem t2 (ns : List Int) (many : Nat) (hp : 0 < many) (hm : many ≤ 20) (ph : PH) (b c d e f g : Option W) : Fine (b_law_2 [some (.fl (ns.map W.int)), some (.int (many : Int)), b, c, d, e, f, g] ph) := by
  unfold b_law_2 b_law_3 b_law_4
  try simp only [EVA, Nat.reduceSub, List.reduceReplicate, List.set_cons_zero, List.set_cons_succ, if_true, if_false, ↓reduceIte, String.reduceEq, reduceCtorEq]
  rw [bnd_ok (cell_1 ns ph)]
  try simp only [EVA, Nat.reduceSub, List.reduceReplicate, List.set_cons_zero, List.set_cons_succ, if_true, if_false, ↓reduceIte, String.reduceEq, reduceCtorEq, l_mod (show (8 : Int) ≠ 0 by decide)]
  rw [bnd_ok (cell_1 ns ph)]
  try simp only [EVA, Nat.reduceSub, List.reduceReplicate, List.set_cons_zero, List.set_cons_succ, if_true, if_false, ↓reduceIte, String.reduceEq, reduceCtorEq, l_mod (show (12 : Int) ≠ 0 by decide), l_div (show (8 : Int) ≠ 0 by decide) (by decide)]
  have q1 := fmod_range (ns.getD 1 0) 8 (by decide)
  have q2 := fmod_range ((ns.getD 1 0).fdiv 8) 12 (by decide)
  obtain ⟨l, ts, ph1, e1, x1, hb, htl, gd⟩ := blocks_s ns many (2 + (ns.getD 1 0).fmod 8) (1 + ((ns.getD 1 0).fdiv 8).fmod 12) (by omega) (by omega) hm hp ph
  rw [bnd_ok e1]
  try simp only [EVA, Nat.reduceSub, List.reduceReplicate, List.set_cons_zero, List.set_cons_succ, if_true, if_false, ↓reduceIte, String.reduceEq, reduceCtorEq]
  rw [bnd_ok (cell_1 ns ph1)]
  try simp only [EVA, Nat.reduceSub, List.reduceReplicate, List.set_cons_zero, List.set_cons_succ, if_true, if_false, ↓reduceIte, String.reduceEq, reduceCtorEq, l_mod (show (8 : Int) ≠ 0 by decide), l_div (show (96 : Int) ≠ 0 by decide) (by decide)]
  by_cases h : ((ns.getD 1 0).fdiv 96).fmod 8 = 1
  · simp only [decide_eq_true h, if_true]
    rw [bnd_ok (cell_1 ns ph1)]
    try simp only [EVA, Nat.reduceSub, List.reduceReplicate, List.set_cons_zero, List.set_cons_succ, if_true, if_false, ↓reduceIte, String.reduceEq, reduceCtorEq, l_div (show (768 : Int) ≠ 0 by decide) (by decide)]
    obtain ⟨us, ph2, e2, x2, hb2, gd2⟩ := anyc_s gd hb ((ns.getD 1 0).fdiv 768) (some (.fl (ns.map W.int))) (some (.int (2 + (ns.getD 1 0).fmod 8))) e f g
    rw [htl] at e2
    rw [bnd_ok e2]
    try simp only [EVA, Nat.reduceSub, List.reduceReplicate, List.set_cons_zero, List.set_cons_succ, if_true, if_false, ↓reduceIte, String.reduceEq, reduceCtorEq]
    exact t5 gd2 hb2 _ _ _ _ _ _ _
  · simp only [decide_eq_false h, Bool.false_eq_true, if_false]
    exact t5 gd hb _ _ _ _ _ _ _
theorem good (ns : List Int) (_ : ns.length ≤ 63) : ∃ ph', f_law [.fl (ns.map W.int)] [] = .ok (.bl true) ph' := by
  unfold f_law
  rw [b_law_eq]
  unfold b_law_0 b_law_1
  try simp only [EVA, Nat.reduceSub, List.reduceReplicate, List.set_cons_zero, List.set_cons_succ, if_true, if_false, ↓reduceIte, String.reduceEq, reduceCtorEq]
  rw [bnd_ok (cell_0 ns _)]
  try simp only [EVA, Nat.reduceSub, List.reduceReplicate, List.set_cons_zero, List.set_cons_succ, if_true, if_false, ↓reduceIte, String.reduceEq, reduceCtorEq, l_mod (show (7 : Int) ≠ 0 by decide)]
  rw [bnd_ok (cell_0 ns _)]
  try simp only [EVA, Nat.reduceSub, List.reduceReplicate, List.set_cons_zero, List.set_cons_succ, if_true, if_false, ↓reduceIte, String.reduceEq, reduceCtorEq, l_mod (show (9 : Int) ≠ 0 by decide), l_div (show (7 : Int) ≠ 0 by decide) (by decide)]
  have q1 := fmod_range (ns.getD 0 0) 7 (by decide)
  by_cases h : ((ns.getD 0 0).fdiv 7).fmod 9 = 1
  · simp only [decide_eq_true h, if_true]
    rw [bnd_ok (cell_0 ns _)]
    try simp only [EVA, Nat.reduceSub, List.reduceReplicate, List.set_cons_zero, List.set_cons_succ, if_true, if_false, ↓reduceIte, String.reduceEq, reduceCtorEq, l_mod (show (7 : Int) ≠ 0 by decide), l_div (show (63 : Int) ≠ 0 by decide) (by decide)]
    have q2 := fmod_range ((ns.getD 0 0).fdiv 63) 7 (by decide)
    obtain ⟨n, hn⟩ : ∃ n : Nat, 8 + ((ns.getD 0 0).fdiv 63).fmod 7 = (n : Int) := ⟨(8 + ((ns.getD 0 0).fdiv 63).fmod 7).toNat, by omega⟩
    rw [hn]
    obtain ⟨ph', e⟩ := t2 ns n (by omega) (by omega) [] none none none none none none
    rw [bnd_ok e]
    exact ⟨_, rfl⟩
  · simp only [decide_eq_false h, Bool.false_eq_true, if_false]
    obtain ⟨n, hn⟩ : ∃ n : Nat, 1 + (ns.getD 0 0).fmod 7 = (n : Int) := ⟨(1 + (ns.getD 0 0).fmod 7).toNat, by omega⟩
    rw [hn]
    obtain ⟨ph', e⟩ := t2 ns n (by omega) (by omega) [] none none none none none none
    rw [bnd_ok e]
    exact ⟨_, rfl⟩
end IL.K27
open PySem PySem.W PyProof.Rows
set_option maxHeartbeats 0 in
theorem PySem.Challenge.cw_boxwright_k27_blocks_laid_holds : PySem.Challenge.rw_boxwright_k27_blocks_laid.Holds := by
  w_on
  o_law
  k_head
  (case hw => w_witness2)
  k_fill
  refine IL.K27.walk_law (l := PySem.Challenge.rw_boxwright_k27_blocks_laid) (fun ns hn => IL.K27.good ns hn) rfl rfl (fun w h Y => PySem.W.kIn_of Y) ?F
  case F =>
    intro w mg fa h KX G hmg
    refine' IL.K27.all_mk KX G hmg ?a_law_cell_at ?l_law_cell_at ?c_law_cell_at ?k_law_cell_at ?a_law_number_by ?l_law_number_by ?c_law_number_by ?k_law_number_by ?a_law_row_by ?l_law_row_by ?c_law_row_by ?k_law_row_by ?a_law_goal_by ?l_law_goal_by ?c_law_goal_by ?k_law_goal_by ?a_law_end_by ?l_law_end_by ?c_law_end_by ?k_law_end_by ?a_law_blocks_by ?l_law_blocks_by ?c_law_blocks_by ?k_law_blocks_by ?a_law_any_end ?l_law_any_end ?c_law_any_end ?k_law_any_end ?a_law_order ?l_law_order ?c_law_order ?k_law_order ?a_law_tail ?l_law_tail ?c_law_tail ?k_law_tail ?a_law_places ?l_law_places ?c_law_places ?k_law_places ?a_law_due ?l_law_due ?c_law_due ?k_law_due ?a_straight_behind ?l_straight_behind ?c_straight_behind ?k_straight_behind ?a_rows_for_end ?l_rows_for_end ?c_rows_for_end ?k_rows_for_end ?a_least_not_laid ?l_least_not_laid ?c_least_not_laid ?k_least_not_laid ?a_by_place ?l_by_place ?c_by_place ?k_by_place ?a_laid ?l_laid ?c_laid ?k_laid ?a_law_right ?l_law_right ?c_law_right ?k_law_right ?a_law ?l_law ?c_law ?k_law ?z_bool ?z_int ?z_isinstance ?z_len ?z_list ?z_min ?z_range ?z_tuple
    (case a_law_cell_at => k_is)
    (case l_law_cell_at => k_is)
    (case c_law_cell_at => k_is)
    (case k_law_cell_at => k_is)
    (case a_law_number_by => k_is)
    (case l_law_number_by => k_is)
    (case c_law_number_by => k_is)
    (case k_law_number_by => k_is)
    (case a_law_row_by => k_is)
    (case l_law_row_by => k_is)
    (case c_law_row_by => k_is)
    (case k_law_row_by => k_is)
    (case a_law_goal_by => k_is)
    (case l_law_goal_by => k_is)
    (case c_law_goal_by => k_is)
    (case k_law_goal_by => k_is)
    (case a_law_end_by => k_is)
    (case l_law_end_by => k_is)
    (case c_law_end_by => k_is)
    (case k_law_end_by => k_is)
    (case a_law_blocks_by => k_is)
    (case l_law_blocks_by => k_is)
    (case c_law_blocks_by => k_is)
    (case k_law_blocks_by => k_is)
    (case a_law_any_end => k_is)
    (case l_law_any_end => k_is)
    (case c_law_any_end => k_is)
    (case k_law_any_end => k_is)
    (case a_law_order => k_is)
    (case l_law_order => k_is)
    (case c_law_order => k_is)
    (case k_law_order => k_is)
    (case a_law_tail => k_is)
    (case l_law_tail => k_is)
    (case c_law_tail => k_is)
    (case k_law_tail => k_is)
    (case a_law_places => k_is)
    (case l_law_places => k_is)
    (case c_law_places => k_is)
    (case k_law_places => k_is)
    (case a_law_due => k_is)
    (case l_law_due => k_is)
    (case c_law_due => k_is)
    (case k_law_due => k_is)
    (case a_straight_behind => k_is)
    (case l_straight_behind => k_is)
    (case c_straight_behind => k_is)
    (case k_straight_behind => k_is)
    (case a_rows_for_end => k_is)
    (case l_rows_for_end => k_is)
    (case c_rows_for_end => k_is)
    (case k_rows_for_end => k_is)
    (case a_least_not_laid => k_is)
    (case l_least_not_laid => k_is)
    (case c_least_not_laid => k_is)
    (case k_least_not_laid => k_is)
    (case a_by_place => k_is)
    (case l_by_place => k_is)
    (case c_by_place => k_is)
    (case k_by_place => k_is)
    (case a_laid => k_is)
    (case l_laid => k_is)
    (case c_laid => k_is)
    (case k_laid => k_is)
    (case a_law_right => k_is)
    (case l_law_right => k_is)
    (case c_law_right => k_is)
    (case k_law_right => k_is)
    (case a_law => k_is)
    (case l_law => k_is)
    (case c_law => k_is)
    (case k_law => k_is)
    (case z_bool => k_is)
    (case z_int => k_is)
    (case z_isinstance => k_is)
    (case z_len => k_is)
    (case z_list => k_is)
    (case z_min => k_is)
    (case z_range => k_is)
    (case z_tuple => k_is)
