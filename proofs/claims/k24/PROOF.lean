import PyProof.Rows.All
import Wide.All
import OpenK.AllK
import Wide.FinOn
import Lean
import PyProof.EqAt
import PyProof.EqKinds
import PyProof.TupleCall
import PyProof.P3Eq
import PyProof.NeData
import PyProof.AttrMissHeap
import KE.KDictOf
import PyProof.DictItems
import PyProof.Rows.Range3
import KE.KEqDict
import PySem.Challenge.RW_boxwright_k24_whole_order_alike
set_option Elab.async false
set_option linter.all false
set_option maxRecDepth 100000
set_option maxHeartbeats 8000000
namespace L2
open PySem PySem.Spec PyProof.Rows
abbrev Key := Sum Int Str
def keyIs : Key -> Value -> Bool
 | .inl k, v => Value.isInt k v
 | .inr x, v => Value.isStrOf x v
def keyH (w : World) : Key -> Int
 | .inl k => hashInt k
 | .inr x => hashStr w x
theorem keyIs_shape : ∀ {k : Key} {v : Value}, keyIs k v = true -> (∃ i t, k = Sum.inl i /\ v = Value.int i t) \/ (∃ x t, k = Sum.inr x /\ v = Value.str x t)
 | .inl i, v, h => by
  obtain ⟨t, e⟩ := Value.isInt_shape (k := i) (v := v) h
  exact .inl ⟨i, t, rfl, e⟩
 | .inr x, v, h => by
  obtain ⟨t, e⟩ := Value.isStrOf_shape (x := x) (v := v) h
  exact .inr ⟨x, t, rfl, e⟩
theorem keyIs_int (i : Int) (t : Tok) : keyIs (.inl i) (.int i t) = true := by simp [keyIs, Value.isInt]
theorem keyIs_str (x : Str) (t : Tok) : keyIs (.inr x) (.str x t) = true := by simp [keyIs, Value.isStrOf]
theorem key_ll (a b : Int) : decide ((Sum.inl a : Key) = Sum.inl b) = (a == b) := by
 by_cases e : a = b
 ·subst e; simp
 ·have h : ¬ (Sum.inl a : Key) = Sum.inl b := fun q => e (Sum.inl.inj q)
  rw [decide_eq_false h]
  exact (beq_eq_false_iff_ne.mpr e).symm
theorem key_rr (a b : Str) : decide ((Sum.inr a : Key) = Sum.inr b) = decide (a = b) := by
 by_cases e : a = b
 ·subst e; simp
 ·have h : ¬ (Sum.inr a : Key) = Sum.inr b := fun q => e (Sum.inr.inj q)
  rw [decide_eq_false h, decide_eq_false e]
theorem key_lr (a : Int) (b : Str) : decide ((Sum.inl a : Key) = Sum.inr b) = false := decide_eq_false (fun q => nomatch q)
theorem key_rl (a : Str) (b : Int) : decide ((Sum.inr a : Key) = Sum.inl b) = false := decide_eq_false (fun q => nomatch q)
def mixKind (prog : Program) (w : World) : PySem.KeyKind prog w Key where
 is := keyIs
 hash := keyH w
 inj := fun v a b ha hb => by
  rcases keyIs_shape ha with ⟨i, t, rfl, rfl⟩ | ⟨x, t, rfl, rfl⟩
  ·rcases keyIs_shape hb with ⟨j, u, rfl, e⟩ | ⟨y, u, rfl, e⟩
   ·injection e with e1 _; rw [e1]
   ·exact nomatch e
  ·rcases keyIs_shape hb with ⟨j, u, rfl, e⟩ | ⟨y, u, rfl, e⟩
   ·exact nomatch e
   ·injection e with e1 _; rw [e1]
 byValue := fun k v h => by
  rcases keyIs_shape h with ⟨i, t, rfl, rfl⟩ | ⟨x, t, rfl, rfl⟩ <;> rfl
 pyHash := fun hv h => by
  rcases keyIs_shape hv with ⟨i, t, rfl, rfl⟩ | ⟨x, t, rfl, rfl⟩
  ·exact wpAny_pyHash_int h
  ·exact wpAny_pyHash_str h
 eqBool := fun hu hv h => by
  rcases keyIs_shape hu with ⟨i, t, rfl, rfl⟩ | ⟨x, t, rfl, rfl⟩
  ·rcases keyIs_shape hv with ⟨j, u, rfl, rfl⟩ | ⟨y, u, rfl, rfl⟩
   ·rw [key_ll] at h; exact wpAny_eqBool_int h
   ·rw [key_lr] at h; exact SeqAt.EqAt.int_str i t y u _ _ _ _ h
  ·rcases keyIs_shape hv with ⟨j, u, rfl, rfl⟩ | ⟨y, u, rfl, rfl⟩
   ·rw [key_rl] at h; exact SeqAt.EqAt.str_int x t j u _ _ _ _ h
   ·rw [key_rr] at h; exact wpAny_eqBool_str h
 «strs» := fun k x t v h => by
  rcases keyIs_shape h with ⟨i, u, rfl, e⟩ | ⟨y, u, rfl, e⟩
  ·exact nomatch e
  ·injection e with e1 _
   subst e1
   cases v <;> rfl
theorem mixKind_int (prog : Program) (w : World) (i : Int) (t : Tok) : (mixKind prog w).is (.inl i) (.int i t) = true := keyIs_int i t
theorem mixKind_str (prog : Program) (w : World) (x : Str) (t : Tok) : (mixKind prog w).is (.inr x) (.str x t) = true := keyIs_str x t
end L2
namespace L2
open PySem PySem.Spec PyProof.Rows
inductive V where
 | non | bl (b : Bool) | int (i : Int) | str (x : Str) | byt (b : Array UInt8) | flt (b : UInt64) | ref (a : Addr) | ty (n : String)
 deriving DecidableEq
def RelV : V -> Value -> Prop
 | .non, u => u = Value.none
 | .bl b, u => u = Value.bool b
 | .int i, u => ∃ t, u = Value.int i t
 | .str x, u => ∃ t, u = Value.str x t
 | .byt b, u => ∃ t, u = Value.bytes b t
 | .flt b, u => ∃ t, u = Value.float b t
 | .ref a, u => u = Value.ref a
 | .ty n, u => u = Value.type n
abbrev Vals : List V -> List Value -> Prop := Paired RelV
theorem Vals.length {xs : List V} {us : List Value} (r : Vals xs us) : xs.length = us.length := Paired.length r
theorem Vals.get : ∀ {xs : List V} {us : List Value} {i : Nat} {x : V}, Vals xs us -> xs[i]? = some x -> ∃ u, us[i]? = some u /\ RelV x u
 | _, _, _, _, .nil, e => by simp at e
 | _, _, 0, _, .cons r _, e => by simp at e; subst e; exact ⟨_, rfl, r⟩
 | _, _, i + 1, x, .cons _ t, e => by
  obtain ⟨u, h1, h2⟩ := Vals.get (i := i) (x := x) t (by simpa using e)
  exact ⟨u, by simpa using h1, h2⟩
theorem Vals.set {x : V} {u : Value} (r : RelV x u) : ∀ {xs : List V} {us : List Value} (i : Nat), Vals xs us -> Vals (xs.set i x) (us.set i u)
 | _, _, _, .nil => .nil
 | _, _, 0, .cons _ t => .cons r t
 | _, _, i + 1, .cons q t => .cons q (Vals.set r i t)
theorem Vals.append : ∀ {xs ys : List V} {us ws : List Value}, Vals xs us -> Vals ys ws -> Vals (xs ++ ys) (us ++ ws)
 | _, _, _, _, .nil, s => s
 | _, _, _, _, .cons r t, s => .cons r (Vals.append t s)
theorem Vals.take : ∀ {xs : List V} {us : List Value} (n : Nat), Vals xs us -> Vals (xs.take n) (us.take n)
 | _, _, 0, _ => .nil
 | _, _, _ + 1, .nil => .nil
 | _, _, n + 1, .cons r t => .cons r (Vals.take n t)
theorem Vals.drop : ∀ {xs : List V} {us : List Value} (n : Nat), Vals xs us -> Vals (xs.drop n) (us.drop n)
 | _, _, 0, r => r
 | _, _, _ + 1, .nil => .nil
 | _, _, n + 1, .cons _ t => Vals.drop n t
def RelO : Option V -> Option Value -> Prop
 | some v, some u => RelV v u
 | none, none => True
 | _, _ => False
def KV {κ : Type} : List (κ × V) -> List (κ × Value) -> Prop := Paired fun (p : κ × V) (q : κ × Value) => p.1 = q.1 /\ RelV p.2 q.2
def kV : Key -> V
 | .inl i => .int i
 | .inr x => .str x
inductive HO where
 /-- a list -/
 | lst (xs : List V)
 /-- a tuple (never changes) -/
 | tup (xs : List V)
 /-- a dict whose keys are ints and texts; one whose keys are tuples of ints and texts (the empty one is both) -/
 | dK (kvs : List (Key × V)) | dT (kvs : List (List Key × V))
 /-- a set of ints: its members, its size -/
 | set (S : Int -> Bool) (n : Nat)
 /-- an instance of the class at C, its dict at dx, its attributes -/
 | ins (C dx : Addr) (fs : List (Str × V))
 /-- the dict of the instance at x -/
 | own (x : Addr)
 /-- the dict of an exception -/
 | xd (fs : List (Str × V))
 /-- a bound method, f of x -/
 | met (f x : Addr)
 /-- a range object lo, lo + 1, .. below hi -/
 | rng (lo hi : Int)
 /-- a thing that is known to the object (the script; a dict while a loop walks it): read, never written while it is so -/
 | frz (o : Obj) (u : HO)
 /-- a code object's table -/
 | tbl (ps : Array Value)
 /-- any other thing, by what is true of its one object (a def of one's own: SetO a S n := HO.ext fun h => ..) -/
 | ext (φ : Heap -> Prop)
abbrev Hp := Addr -> Option HO
def upd (H : Hp) (a : Addr) (o : HO) : Hp := fun b => if b = a then some o else H b
theorem upd_same {H : Hp} {a : Addr} {o : HO} : upd H a o a = some o := by unfold upd; rw [if_pos rfl]
theorem upd_ne {H : Hp} {a b : Addr} {o : HO} (h : b ≠ a) : upd H a o b = H b := by unfold upd; rw [if_neg h]
theorem upd_upd {H : Hp} {a : Addr} {o u : HO} : upd (upd H a o) a u = upd H a u := by
 funext b; unfold upd; split <;> rfl
theorem ne_of {H : Hp} {a b : Addr} {o u : HO} (h : H a = some o) (h' : H b = some u) (d : o ≠ u) : a ≠ b := by
 intro e; subst e; rw [h] at h'; exact d (Option.some.inj h')
theorem ne_of_none {H : Hp} {a b : Addr} {o : HO} (h : H a = some o) (h' : H b = none) : a ≠ b := by
 intro e; subst e; rw [h] at h'; cases h'
section
variable (P : Program) (w : World)
def ObjOk (H : Hp) (h : Heap) (a : Addr) : HO -> Prop
 | .lst xs => xs.length <= sizeLine /\ ∃ (its : List Value) (n : Nat), Vals xs its /\ h.get? a = some { cls := .type "list", data := .seq its.toArray n }
 | .tup xs => xs.length <= sizeLine /\ ∃ its : List Value, Vals xs its /\ IsTup h a its.toArray
 | .dK kvs => kvs.length <= sizeLine /\ (a == sysModules) = false /\ ∃ vs, KV kvs vs /\ h.DictOf (mixKind P w) a vs
 | .dT kvs => kvs.length <= sizeLine /\ (a == sysModules) = false /\ ∃ xs : List (List Key × Addr × Value),
   Paired (fun (p : List Key × V) (q : List Key × Addr × Value) => p.1 = q.1 /\ H q.2.1 = some (.tup (p.1.map kV)) /\ RelV p.2 q.2.2) kvs xs /\
   ∃ o es ep, h.get? a = some o /\ o.ExactDict /\ o.data = .dict es ep /\ es.toList = xs.map (entryOfKey (tupleKind (mixKind P w))) /\ (xs.map (·.1)).Nodup
 | .set S n => h.SetOf (intKind P w) a S n
 | .ins C dx fs => H dx = some (.own a) /\ fs.length <= 1000 /\ dx ≠ a /\ h.get? a = some (PySem.W.instObj C dx) /\
   ∃ mA, h.Ns1 dx mA /\ (∀ f, RelO (fs.lookup f) (mA f)) /\ PySem.Within mA (fs.map (·.1))
 | .own _ => ∃ o, h.get? a = some o
 | .xd fs => ∃ mA, h.Ns1 a mA /\ ∀ f, RelO (fs.lookup f) (mA f)
 | .rng lo hi => ∃ t u v, h.get? a = some { cls := .type "range", data := .fields #[.int lo t, .int hi u, .int 1 v] }
 | .frz o u => h.get? a = some o /\ ObjOk H h a u
 | .tbl ps => h.get? a = some { cls := .none, data := .fields ps }
 | .met f x => h.get? a = some (PySem.W.methodObj (.ref f) (.ref x))
 | .ext φ => φ h /\ (∃ o, h.get? a = some o) /\ ∀ h1 h2 : Heap, φ h1 -> (∀ o, h1.get? a = some o -> h2.get? a = some o) -> φ h2
def HOk (H : Hp) (h : Heap) : Prop := ∀ a o, H a = some o -> ObjOk P w H h a o
end
section
variable {P : Program} {w : World} {H H' : Hp} {h h' : Heap} {a : Addr} {o : HO}
theorem ObjOk.lt (x : ObjOk P w H h a o) : a < h.objs.size := by
 cases o with
 | lst xs => obtain ⟨_, _, _, _, e⟩ := x; exact Heap.lt_size e
 | tup xs => obtain ⟨_, _, _, p⟩ := x; exact p.lt
 | dK kvs => obtain ⟨_, _, _, _, o, _, _, e, _⟩ := x; exact Heap.lt_size e
 | dT kvs => obtain ⟨_, _, _, _, o, _, _, e, _⟩ := x; exact Heap.lt_size e
 | set S n => obtain ⟨o, _, _, _, e, _⟩ := x; exact Heap.lt_size e
 | ins C dx fs => obtain ⟨_, _, _, e, _⟩ := x; exact Heap.lt_size e
 | own y => obtain ⟨_, e⟩ := x; exact Heap.lt_size e
 | xd fs => obtain ⟨_, ⟨_, _, _, e, _⟩, _⟩ := x; exact Heap.lt_size e
 | rng lo hi => obtain ⟨_, _, _, e⟩ := x; exact Heap.lt_size e
 | frz ob u => obtain ⟨e, _⟩ := x; exact Heap.lt_size e
 | tbl ps => exact Heap.lt_size (show h.get? a = some _ from x)
 | met f y => exact Heap.lt_size (show h.get? a = some _ from x)
 | ext φ => obtain ⟨_, ⟨_, e⟩, _⟩ := x; exact Heap.lt_size e
theorem Paired.mapP {α β : Type} {F G : α -> β -> Prop} : ∀ {l₁ : List α} {l₂ : List β}, Paired F l₁ l₂ -> (∀ a b, F a b -> G a b) -> Paired G l₁ l₂
 | _, _, .nil, _ => .nil
 | _, _, .cons r t, f => .cons (f _ _ r) (Paired.mapP t f)
theorem ObjOk.stay (x : ObjOk P w H h a o) (k : ∀ b u, (b = a \/ H b = some (.own a)) -> h.get? b = some u -> h'.get? b = some u)
  (ho : ∀ b, H b = some (.own a) -> H' b = some (.own a)) (ht : ∀ b xs, H b = some (.tup xs) -> H' b = some (.tup xs)) : ObjOk P w H' h' a o := by
 induction o with
 | lst xs => obtain ⟨z, its, n, r, e⟩ := x; exact ⟨z, its, n, r, k _ _ (.inl rfl) e⟩
 | tup xs => obtain ⟨z, its, r, ob, e, c⟩ := x; exact ⟨z, its, r, ob, k _ _ (.inl rfl) e, c⟩
 | dK kvs => obtain ⟨z, y, vs, r, ob, es, ep, e, c⟩ := x; exact ⟨z, y, vs, r, ob, es, ep, k _ _ (.inl rfl) e, c⟩
 | dT kvs =>
  obtain ⟨z, y, xs, r, ob, es, ep, e, c⟩ := x
  exact ⟨z, y, xs, Paired.mapP r fun p q z => ⟨z.1, ht _ _ z.2.1, z.2.2⟩, ob, es, ep, k _ _ (.inl rfl) e, c⟩
 | set S n => obtain ⟨ob, es, ep, t, e, c⟩ := x; exact ⟨ob, es, ep, t, k _ _ (.inl rfl) e, c⟩
 | ins C dx fs =>
  obtain ⟨d, z, ne, e, mA, ⟨od, es, ep, e2, c⟩, r⟩ := x
  exact ⟨ho _ d, z, ne, k _ _ (.inl rfl) e, mA, ⟨od, es, ep, k _ _ (.inr d) e2, c⟩, r⟩
 | own y => obtain ⟨ob, e⟩ := x; exact ⟨ob, k _ _ (.inl rfl) e⟩
 | xd fs => obtain ⟨mA, ⟨od, es, ep, e, c⟩, r⟩ := x; exact ⟨mA, ⟨od, es, ep, k _ _ (.inl rfl) e, c⟩, r⟩
 | rng lo hi => obtain ⟨t, u, v, e⟩ := x; exact ⟨t, u, v, k _ _ (.inl rfl) e⟩
 | frz ob u ih => obtain ⟨e, q⟩ := x; exact ⟨k _ _ (.inl rfl) e, ih q⟩
 | tbl ps =>
  have e : h.get? a = some { cls := .none, data := .fields ps } := x
  show h'.get? a = some { cls := .none, data := .fields ps }
  exact k a _ (.inl rfl) e
 | met f y =>
  have e : h.get? a = some (PySem.W.methodObj (.ref f) (.ref y)) := x
  show h'.get? a = some (PySem.W.methodObj (.ref f) (.ref y))
  exact k a _ (.inl rfl) e
 | ext φ => obtain ⟨p, ⟨o, e⟩, st⟩ := x; exact ⟨st _ _ p fun o q => k _ _ (.inl rfl) q, ⟨o, k _ _ (.inl rfl) e⟩, st⟩
theorem HOk.lt (x : HOk P w H h) (e : H a = some o) : a < h.objs.size := (x a o e).lt
theorem HOk.fresh (x : HOk P w H h) (e : h.objs.size <= a) : H a = none := by
 cases q : H a with
 | none => rfl
 | some u => exact absurd (Nat.lt_of_lt_of_le (x.lt q) e) (Nat.lt_irrefl _)
theorem HOk.kept (x : HOk P w H h) (k : ∀ b u, h.get? b = some u -> h'.get? b = some u) : HOk P w H h' := fun a o e =>
 (x a o e).stay (fun b u _ q => k b u q) (fun _ q => q) fun _ _ q => q
theorem HOk.laid (x : HOk P w H h) (k : ∀ b u, h.get? b = some u -> h'.get? b = some u) (hp : h.objs.size <= a) (new : ObjOk P w (upd H a o) h' a o) : HOk P w (upd H a o) h' := fun b u e => by
 have hn := x.fresh hp
 by_cases hb : b = a
 ·subst hb; rw [upd_same] at e; cases e; exact new
 ·rw [upd_ne hb] at e
  exact (x b u e).stay (fun c v _ q => k c v q) (fun c q => by rw [upd_ne (ne_of_none q hn)]; exact q) fun c xs q => by rw [upd_ne (ne_of_none q hn)]; exact q
end
def Rd (H : Hp) (a : Addr) (u : HO) : Prop := H a = some u \/ ∃ o, H a = some (.frz o u)
theorem Rd.ok {P : Program} {w : World} {H : Hp} {h : Heap} {a : Addr} {u : HO} (r : Rd H a u) (x : HOk P w H h) : ObjOk P w H h a u := by
 rcases r with r | ⟨o, r⟩
 ·exact x a u r
 ·obtain ⟨_, q⟩ := x a _ r
  exact q
def Mut : Option HO -> Prop
 | some (.lst _) => True
 | some (.dK _) => True
 | some (.dT _) => True
 | some (.set _ _) => True
 | some (.ins _ _ _) => True
 | some (.ext _) => True
 | _ => False
section
variable {P : Program} {w : World} {H : Hp} {h h' : Heap} {x e : Addr} {o' : HO}
theorem HOk.write (ok : HOk P w H h) (mu : Mut (H x)) (he : e = x \/ H e = some (.own x)) (k : ∀ b u, b ≠ e -> h.get? b = some u -> h'.get? b = some u) (heo : ∃ u, h'.get? e = some u)
  (new : ObjOk P w (upd H x o') h' x o') : HOk P w (upd H x o') h' := fun b u q => by
 have nown : ∀ c y, H c = some (.own y) -> c ≠ x := fun c y r z => by subst z; rw [r] at mu; exact mu
 have ntup : ∀ c xs, H c = some (.tup xs) -> c ≠ x := fun c xs r z => by subst z; rw [r] at mu; exact mu
 by_cases hb : b = x
 ·subst hb; rw [upd_same] at q; cases q; exact new
 ·rw [upd_ne hb] at q
  by_cases hbe : b = e
  ·have q' : H b = some (.own x) := by
    rcases he with z | z
    ·exact absurd (hbe.trans z) hb
    ·rw [hbe]; exact z
   rw [q] at q'; cases q'
   obtain ⟨v, hv⟩ := heo
   exact ⟨v, by rw [hbe]; exact hv⟩
  ·refine (ok b u q).stay (fun c v hc r => k c v ?_ r) (fun c r => by rw [upd_ne (nown c b r)]; exact r) fun c xs r => by rw [upd_ne (ntup c xs r)]; exact r
   rcases hc with rfl | hc
   ·exact hbe
   ·rintro rfl
    rcases he with z | z
    ·exact nown c b hc z
    ·rw [hc] at z; cases z; exact hb rfl
end
structure Un (fs ex : List Addr) (H H' : Hp) (h h' : Heap) : Prop where
 keep : ∀ b o, h.get? b = some o -> H b = none -> b ∉ fs -> b ∉ ex -> h'.get? b = some o
 slot : ∀ b o, h.get? b = some o -> H b = none -> b ∈ fs -> b ∉ ex -> ∃ sl, h'.get? b = some { o with slots := sl }
 free : ∀ b o, h.get? b = some o -> H b = none -> b ∉ ex -> H' b = none
 there : ∀ b o, h.get? b = some o -> b ∉ ex -> ∃ o', h'.get? b = some o'
 tups : ∀ b xs, H b = some (.tup xs) -> H' b = some (.tup xs)
 frzs : ∀ b o u, H b = some (.frz o u) -> H' b = some (.frz o u)
 tbls : ∀ b ps, H b = some (.tbl ps) -> ∃ more, H' b = some (.tbl (ps ++ more))
section
variable {fs fs' ex ex' : List Addr} {H H1 H2 : Hp} {h h1 h2 h' : Heap} {a x e : Addr} {o : HO}
theorem Un.any (u : Un fs ex H H1 h h1) {b : Addr} {ob : Obj} (q : h.get? b = some ob) (n : H b = none) (hx : b ∉ ex) : ∃ sl, h1.get? b = some { ob with slots := sl } := by
 by_cases hb : b ∈ fs
 ·exact u.slot b ob q n hb hx
 ·exact ⟨ob.slots, u.keep b ob q n hb hx⟩
theorem Un.trans (a : Un fs ex H H1 h h1) (b : Un fs ex H1 H2 h1 h2) : Un fs ex H H2 h h2 where
 keep := fun c ob q n hc hx => b.keep c ob (a.keep c ob q n hc hx) (a.free c ob q n hx) hc hx
 slot := fun c ob q n hc hx => by
  obtain ⟨sl, e1⟩ := a.slot c ob q n hc hx
  obtain ⟨sl', e2⟩ := b.slot c _ e1 (a.free c ob q n hx) hc hx
  exact ⟨sl', e2⟩
 free := fun c ob q n hx => by
  obtain ⟨o', e1⟩ := a.there c ob q hx
  exact b.free c o' e1 (a.free c ob q n hx) hx
 there := fun c ob q hx => by
  obtain ⟨o', e1⟩ := a.there c ob q hx
  exact b.there c o' e1 hx
 tups := fun c xs q => b.tups c xs (a.tups c xs q)
 frzs := fun c ob xs q => b.frzs c ob xs (a.frzs c ob xs q)
 tbls := fun c ps q => by
  obtain ⟨m1, e1⟩ := a.tbls c ps q
  obtain ⟨m2, e2⟩ := b.tbls c _ e1
  exact ⟨m1 ++ m2, by rw [e2, Array.append_assoc]⟩
theorem Un.kept (k : ∀ b u, h.get? b = some u -> h'.get? b = some u) : Un fs ex H H h h' :=
 ⟨fun b ob q _ _ _ => k b ob q, fun b ob q _ _ _ => ⟨ob.slots, k b ob q⟩, fun _ _ _ n _ => n, fun b ob q _ => ⟨ob, k b ob q⟩, fun _ _ q => q, fun _ _ _ q => q, fun _ ps q => ⟨#[], by rw [q]; simp⟩⟩
theorem Un.refl : Un fs ex H H h h := Un.kept fun _ _ q => q
theorem Un.laid (k : ∀ b u, h.get? b = some u -> h'.get? b = some u) (hp : h.objs.size <= a) (hn : H a = none) : Un fs ex H (upd H a o) h h' where
 keep := fun b u q _ _ _ => k b u q
 slot := fun b u q _ _ _ => ⟨u.slots, k b u q⟩
 free := fun b u q n _ => by rw [upd_ne (Nat.ne_of_lt (Nat.lt_of_lt_of_le (Heap.lt_size q) hp))]; exact n
 there := fun b u q _ => ⟨u, k b u q⟩
 tups := fun b xs q => by rw [upd_ne (ne_of_none q hn)]; exact q
 frzs := fun b u xs q => by rw [upd_ne (ne_of_none q hn)]; exact q
 tbls := fun b ps q => ⟨#[], by rw [upd_ne (ne_of_none q hn), q]; simp⟩
theorem Un.write (mu : Mut (H x)) (he : e = x \/ H e = some (.own x)) (k : ∀ b u, b ≠ e -> h.get? b = some u -> h'.get? b = some u) (heo : ∃ u, h'.get? e = some u) : Un fs ex H (upd H x o) h h' := by
 have hx : ∀ b, H b = none -> b ≠ x := fun b n z => by subst z; rw [n] at mu; exact mu
 have hb : ∀ b, H b = none -> b ≠ e := fun b n z => by
  subst z
  rcases he with r | r
  ·exact hx b n r
  ·rw [n] at r; cases r
 have hm : ∀ b u, H b = some u -> ¬ Mut (some u) -> b ≠ x := fun b u q nm z => by subst z; rw [q] at mu; exact nm mu
 refine ⟨fun b u q n _ _ => k b u (hb b n) q, fun b u q n _ _ => ⟨u.slots, k b u (hb b n) q⟩, fun b u q n _ => by rw [upd_ne (hx b n)]; exact n, fun b u q _ => ?_,
  fun b xs q => by rw [upd_ne (hm b _ q fun z => z)]; exact q, fun b u xs q => by rw [upd_ne (hm b _ q fun z => z)]; exact q, fun b ps q => ⟨#[], by rw [upd_ne (hm b _ q fun z => z), q]; simp⟩⟩
 by_cases hbe : b = e
 ·subst hbe; exact heo
 ·exact ⟨u, k b u hbe q⟩
theorem Un.mono (u : Un fs ex H H1 h h1) (hs : ∀ b ∈ fs, b ∈ fs') (hx : ∀ b ∈ ex, b ∈ ex') : Un fs' ex' H H1 h h1 :=
 ⟨fun b ob q n hb he => u.keep b ob q n (fun z => hb (hs b z)) fun z => he (hx b z), fun _ _ q n _ he => u.any q n fun z => he (hx _ z), fun b ob q n he => u.free b ob q n fun z => he (hx b z), fun b ob q he => u.there b ob q fun z => he (hx b z), u.tups, u.frzs, u.tbls⟩
end
def trk (h : Heap) (H : Hp) : List Addr := (List.range h.objs.size).filter fun a => (H a).isSome
def hidT (h : Heap) (H : Hp) : Heap := PySem.W.hideAll h (trk h H)
theorem hidT_size (h : Heap) (H : Hp) : (hidT h H).objs.size = h.objs.size := PySem.W.hideAll_size _ _
theorem hidT_get {h : Heap} {H : Hp} {b : Addr} {o : Obj} (e : h.get? b = some o) (n : H b = none) : (hidT h H).get? b = some o :=
 PySem.W.hideAll_get _ e fun hm => by
  have q : (H b).isSome = true := (List.mem_filter.mp hm).2
  rw [n] at q; simp at q
theorem of_hidT {h : Heap} {H : Hp} {b : Addr} {o : Obj} (e : (hidT h H).get? b = some o) : h.get? b = some o /\ H b = none := by
 have e' : h.get? b = some o := PySem.W.of_hideAll (trk h H) e
 refine ⟨e', ?_⟩
 cases q : H b with
 | none => rfl
 | some x =>
  have hm : b ∈ trk h H := List.mem_filter.mpr ⟨List.mem_range.mpr (Heap.lt_size e'), by simp [q]⟩
  have z : (hidT h H).get? b = none := PySem.W.hideAll_none (trk h H) hm
  rw [z] at e; cases e
def allNews (g h : Heap) (L : Addr) : List (Addr × Obj) := (List.range h.objs.size).filterMap fun a => if a = L \/ (g.get? a).isSome = true then none else (h.get? a).map fun o => (a, o)
def rest (g h : Heap) (L d : Addr) : List (Addr × Obj) := (allNews g h L).filter fun p => decide (p.1 ≠ d)
end L2
namespace L2
open PySem PySem.Spec PyProof.Rows
structure Mod (K : PySem.W.Frag) (mg : Str -> Option Value) (base : Heap) : Prop where
 kin : K.In base
 glob : base.Ns mainGlobals mg
 blt : ∃ mb, base.Ns builtinsNs mb /\ ∀ x : Str, x ≠ "__name__" -> mb x = bootBuiltins x
 nolimit : base.NoLimit
structure Cx where
 prog : Program
 w : World
 K : PySem.W.Frag
 mg : Str -> Option Value
 base : Heap
 A : Around
 N : List Str
 s₀ : Shared
 H₀ : Hp
 env : Env
 outer : List Env
 stack : List Env
 ex : List Addr
 fn : Str -> Bool
 calm : Bool
 pn : List (Addr × Obj)
 xe : Value -> Shared -> Prop
def frs (l : List Env) : List Addr := l.filterMap (·.frame)
abbrev Cx.fs (X : Cx) : List Addr := frs X.outer
def Vis (sc : Scope) (x : Str) : Prop := sc.names.lookup x = some .local \/ sc.names.lookup x = some .cell \/ sc.names.lookup x = some .free
def Loc (sc : Scope) (x : Str) : Prop := sc.names.lookup x = some .local \/ sc.names.lookup x = some .cell
def Look (env : Env) (h : Heap) (m : Str -> Option Value) (x : Str) (u : Value) : Prop :=
 (env.kindOf x = some .local /\ m x = some u) \/ ((env.kindOf x = some .cell \/ env.kindOf x = some .free) /\ ∃ c, env.cells.lookup x = some c /\ h.IsCell c (some u))
structure Cx.Ok (X : Cx) : Prop where
 mod : Mod X.K X.mg X.base
 kind : X.env.scope.kind = .function
 glob : X.env.globals = mainGlobals
 blt : X.env.builtins = builtinsNs
 above : X.s₀.heap.objs.size <= X.env.locals
 inj : ∀ x y c, X.env.cells.lookup x = some c -> X.env.cells.lookup y = some c -> x = y
 has : ∀ x, (X.env.kindOf x = some .cell \/ X.env.kindOf x = some .free) -> ∃ c, X.env.cells.lookup x = some c
 cab : ∀ x c, X.fn x = true -> X.env.cells.lookup x = some c -> X.s₀.heap.objs.size <= c
 hd : X.calm = true -> X.A.handled = none
 frames : X.A.frames = some X.stack
 stk : X.stack = X.outer \/ (X.stack = X.env :: X.outer /\ X.env.frame = some X.env.locals)
 exf : ∀ b ∈ X.ex, b ≠ X.env.locals /\ ∀ x c, X.env.cells.lookup x = some c -> c ≠ b
 bs : ∀ b o, X.base.get? b = some o -> X.s₀.heap.get? b = some o /\ X.H₀ b = none
 bsz : X.base.objs.size <= X.s₀.heap.objs.size
 noex : ∀ b o, X.base.get? b = some o -> b ∉ X.ex
 exfs : ∀ b ∈ X.ex, b ∉ X.fs
 funs : X.s₀.heap.FunFrames X.base X.outer
 frf : ∀ b ∈ X.fs, X.H₀ b = none
structure Inv (X : Cx) (pins : List (Addr × Obj)) (σ : List (Option V)) (H : Hp) (s : Shared) : Prop where
 ok : X.Ok
 os : s.os = X.s₀.os
 bare : AllBare s.gens
 base : Un X.fs X.ex X.H₀ H X.s₀.heap s.heap
 loc : ∃ m, s.heap.Ns X.env.locals m /\ ∀ (i : Nat) (x : Str) (v : V), X.N[i]? = some x -> σ[i]? = some (some v) -> Vis X.env.scope x -> ∃ u, RelV v u /\ Look X.env s.heap m x u
 cell : ∀ x c, X.env.cells.lookup x = some c -> ∃ v, s.heap.IsCell c v
 free : H X.env.locals = none
 freeC : ∀ x c, X.env.cells.lookup x = some c -> H c = none
 pin : ∀ p ∈ X.pn ++ pins, s.heap.get? p.1 = some p.2 /\ H p.1 = none /\ p.1 ≠ X.env.locals /\ p.1 ∉ X.fs /\ ∀ v, p.2.data ≠ .cell v
 hok : HOk X.prog X.w H s.heap
 len : σ.length = X.N.length
section
variable {X : Cx} {pins : List (Addr × Obj)} {σ : List (Option V)} {H H' : Hp} {s : Shared} {h' : Heap}
theorem Cx.Ok.nofr (ok : X.Ok) {b : Addr} {o : Obj} (e : X.base.get? b = some o) : b ∉ X.fs := fun hb => by
 have := (ok.funs.mem hb).1
 rw [e] at this; cases this
theorem Inv.bs (I : Inv X pins σ H s) : ∀ b o, X.base.get? b = some o -> s.heap.get? b = some o /\ H b = none := fun b o e =>
 ⟨I.base.keep b o (I.ok.bs b o e).1 (I.ok.bs b o e).2 (I.ok.nofr e) (I.ok.noex b o e), I.base.free b o (I.ok.bs b o e).1 (I.ok.bs b o e).2 (I.ok.noex b o e)⟩
theorem Inv.bk (I : Inv X pins σ H s) : ∀ b o, X.base.get? b = some o -> s.heap.get? b = some o := fun b o e => (I.bs b o e).1
theorem Inv.mod (I : Inv X pins σ H s) : Mod X.K X.mg X.base := I.ok.mod
theorem Inv.kIn (I : Inv X pins σ H s) : X.K.In s.heap := I.ok.mod.kin.keeps I.bk
theorem Inv.nolimit (I : Inv X pins σ H s) : s.heap.NoLimit := I.ok.mod.nolimit.keeps I.bk
theorem Inv.fr (I : Inv X pins σ H s) : ∃ m, Fr X.base X.env.locals s.heap m :=
 let ⟨m, hn, _⟩ := I.loc
 ⟨m, hn, I.bk, Nat.le_trans I.ok.bsz I.ok.above⟩
theorem Inv.lt (I : Inv X pins σ H s) : X.env.locals < s.heap.objs.size := let ⟨_, hn, _⟩ := I.loc; hn.lt
theorem Inv.sz (I : Inv X pins σ H s) : X.s₀.heap.objs.size <= s.heap.objs.size := Nat.le_trans I.ok.above (Nat.le_of_lt I.lt)
theorem Inv.nofs (I : Inv X pins σ H s) {a : Addr} (h : s.heap.objs.size <= a) : a ∉ X.fs := fun hb => by
 obtain ⟨_, o, ho, _⟩ := I.ok.funs.mem hb
 exact absurd (Nat.lt_of_lt_of_le (Heap.lt_size ho) (Nat.le_trans I.sz h)) (Nat.lt_irrefl _)
theorem Inv.cne (I : Inv X pins σ H s) : ∀ x c, X.env.cells.lookup x = some c -> c ≠ X.env.locals := fun x c e z => by
 obtain ⟨v, o, ho, hd⟩ := I.cell x c e
 obtain ⟨m, ⟨o', es, ep, ho', hd', _⟩, _⟩ := I.loc
 rw [z, ho'] at ho; cases ho; rw [hd'] at hd; cases hd
theorem Inv.funs (I : Inv X pins σ H s) : s.heap.FunFrames X.base X.outer := by
 have all : ∀ (l : List Env), (∀ b ∈ frs l, b ∈ X.fs) -> X.s₀.heap.FunFrames X.base l -> s.heap.FunFrames X.base l := by
  intro l
  induction l with
  | nil => intro _ _; trivial
  | cons env r ih =>
   intro hs hl
   obtain ⟨hk, ⟨L, o, hf, hn, ho, hd⟩, hr⟩ := hl
   have hL : L ∈ X.fs := hs L (by unfold frs; rw [List.filterMap_cons, hf]; exact List.mem_cons_self)
   obtain ⟨sl, e⟩ := I.base.slot L o ho (I.ok.frf L hL) hL fun z => I.ok.exfs L z hL
   exact ⟨hk, ⟨L, _, hf, hn, e, hd⟩, ih (fun b hb => hs b (by unfold frs; rw [List.filterMap_cons, hf]; exact List.mem_cons_of_mem _ hb)) hr⟩
 exact all X.outer (fun _ hb => hb) I.ok.funs
theorem Inv.stack (I : Inv X pins σ H s) : s.heap.FunFrames X.base X.stack := by
 rcases I.ok.stk with e | ⟨e, hf⟩
 ·rw [e]; exact I.funs
 ·rw [e]
  obtain ⟨m, hn, _⟩ := I.loc
  refine .cons (by rw [I.ok.kind]; decide) hf hn ?_ I.funs
  exact Heap.get?_none_of_le (Nat.le_trans I.ok.bsz I.ok.above)
theorem Inv.stkSub (I : Inv X pins σ H s) : ∀ b ∈ frs X.stack, b ∈ X.env.locals :: X.fs := fun b hb => by
 rcases I.ok.stk with e | ⟨e, hf⟩
 ·rw [e] at hb; exact List.mem_cons_of_mem _ hb
 ·rw [e] at hb
  unfold frs at hb
  rw [List.filterMap_cons, hf] at hb
  exact hb
theorem Inv.stkFree (I : Inv X pins σ H s) : ∀ b ∈ frs X.stack, H b = none := fun b hb => by
 rcases List.mem_cons.mp (I.stkSub b hb) with e | hb
 ·rw [e]; exact I.free
 ·obtain ⟨_, o, ho, _⟩ := I.ok.funs.mem hb
  exact I.base.free b o ho (I.ok.frf b hb) fun z => I.ok.exfs b z hb
theorem Inv.step {g' : Array GenState} {t' : Nat} {d' : Drawn} {ch : List Addr} (I : Inv X pins σ H s)
  (hch : ∀ b ∈ ch, (b ∈ X.ex \/ X.s₀.heap.objs.size <= b) /\ b ≠ X.env.locals /\ (∀ x c, X.env.cells.lookup x = some c -> c ≠ b) /\ ∀ p ∈ X.pn ++ pins, p.1 ≠ b)
  (keep : ∀ b o, b ≠ X.env.locals -> b ∉ X.fs -> b ∉ ch -> s.heap.get? b = some o -> H b = none -> h'.get? b = some o)
  (slot : ∀ b o, b ≠ X.env.locals -> b ∈ X.fs -> b ∉ ch -> s.heap.get? b = some o -> H b = none -> ∃ sl, h'.get? b = some { o with slots := sl }) (free : ∀ b o, b ∉ ch -> s.heap.get? b = some o -> H b = none -> H' b = none)
  (there : ∀ b o, b ∉ ch -> s.heap.get? b = some o -> ∃ o', h'.get? b = some o')
  (tups : ∀ b xs, H b = some (.tup xs) -> H' b = some (.tup xs)) (frzs : ∀ b o u, H b = some (.frz o u) -> H' b = some (.frz o u)) (tbls : ∀ b ps, H b = some (.tbl ps) -> ∃ more, H' b = some (.tbl (ps ++ more)))
  (ns : ∀ m, s.heap.Ns X.env.locals m -> h'.Ns X.env.locals m) (hok : HOk X.prog X.w H' h') (hg : AllBare g') :
  Inv X pins σ H' { s with heap := h', gens := g', drawn := d', toks := t' } := by
 have neL : ∀ b o, X.s₀.heap.get? b = some o -> b ≠ X.env.locals := fun b o e => Nat.ne_of_lt (Nat.lt_of_lt_of_le (Heap.lt_size e) I.ok.above)
 have neC : ∀ b o, X.s₀.heap.get? b = some o -> b ∉ X.ex -> b ∉ ch := fun b o e hx hb => by
  rcases (hch b hb).1 with z | z
  ·exact hx z
  ·exact absurd (Nat.lt_of_lt_of_le (Heap.lt_size e) z) (Nat.lt_irrefl _)
 have cellK : ∀ x c, X.env.cells.lookup x = some c -> ∀ v, s.heap.IsCell c v -> h'.IsCell c v := fun x c e v ⟨o, ho, hd⟩ => by
  have nch : c ∉ ch := fun z => (hch c z).2.2.1 x c e rfl
  by_cases hc : c ∈ X.fs
  ·obtain ⟨sl, q⟩ := slot c o (I.cne x c e) hc nch ho (I.freeC x c e)
   exact ⟨_, q, hd⟩
  ·exact ⟨o, keep c o (I.cne x c e) hc nch ho (I.freeC x c e), hd⟩
 refine ⟨I.ok, I.os, hg, ⟨fun b o e n hb hx => ?_, fun b o e n hb hx => ?_, fun b o e n hx => ?_, fun b o e hx => ?_, fun b xs e => tups b xs (I.base.tups b xs e), fun b o xs e => frzs b o xs (I.base.frzs b o xs e), fun b ps e => ?_⟩, ?_, fun x c e => ?_, ?_, fun x c e => ?_, fun p hp => ?_, hok, I.len⟩
 ·exact keep b o (neL b o e) hb (neC b o e hx) (I.base.keep b o e n hb hx) (I.base.free b o e n hx)
 ·obtain ⟨sl, e1⟩ := I.base.slot b o e n hb hx
  obtain ⟨sl', e2⟩ := slot b _ (neL b o e) hb (neC b o e hx) e1 (I.base.free b o e n hx)
  exact ⟨sl', e2⟩
 ·obtain ⟨o', e1⟩ := I.base.there b o e hx
  exact free b o' (neC b o e hx) e1 (I.base.free b o e n hx)
 ·obtain ⟨o', e1⟩ := I.base.there b o e hx
  exact there b o' (neC b o e hx) e1
 ·obtain ⟨m1, e1⟩ := I.base.tbls b ps e
  obtain ⟨m2, e2⟩ := tbls b _ e1
  exact ⟨m1 ++ m2, by rw [e2, Array.append_assoc]⟩
 ·obtain ⟨m, hn, hl⟩ := I.loc
  refine ⟨m, ns m hn, fun i x v e1 e2 e3 => ?_⟩
  obtain ⟨u, r, l⟩ := hl i x v e1 e2 e3
  refine ⟨u, r, ?_⟩
  rcases l with l | ⟨k, c, e, z⟩
  ·exact .inl l
  ·exact .inr ⟨k, c, e, cellK x c e _ z⟩
 ·obtain ⟨v, z⟩ := I.cell x c e
  exact ⟨v, cellK x c e v z⟩
 ·obtain ⟨m, ⟨o, _, _, ho, _⟩, _⟩ := I.loc
  exact free _ o (fun z => (hch _ z).2.1 rfl) ho I.free
 ·obtain ⟨v, o, ho, hd⟩ := I.cell x c e
  exact free c o (fun z => (hch c z).2.2.1 x c e rfl) ho (I.freeC x c e)
 ·obtain ⟨e, n, ne, nf, d⟩ := I.pin p hp
  have nch : p.1 ∉ ch := fun z => (hch p.1 z).2.2.2 p hp rfl
  exact ⟨keep p.1 p.2 ne nf nch e n, free p.1 p.2 nch e n, ne, nf, d⟩
theorem Inv.un {t' : Nat} (I : Inv X pins σ H s) (u : Un X.fs [] H H' s.heap h') (hok : HOk X.prog X.w H' h') : Inv X pins σ H' { s with heap := h', toks := t' } := by
 obtain ⟨m, ⟨o, es, ep, ho, r⟩, _⟩ := id I.loc
 obtain ⟨sl, hL⟩ := u.any ho I.free (by simp)
 exact I.step (g' := s.gens) (d' := s.drawn) (ch := []) (fun _ z => nomatch z) (fun b o _ hb _ e n => u.keep b o e n hb (by simp)) (fun b o _ hb _ e n => u.slot b o e n hb (by simp)) (fun b o _ e n => u.free b o e n (by simp)) (fun b o _ e => u.there b o e (by simp)) u.tups u.frzs u.tbls (fun m' hm => by
  obtain ⟨o', es', ep', ho', r'⟩ := hm
  rw [ho] at ho'; cases ho'
  exact ⟨_, es', ep', hL, r'⟩) hok I.bare
theorem Inv.call {g' : Array GenState} {t' : Nat} {d' : Drawn} {ch : List Addr} (I : Inv X pins σ H s) (u : Un (frs X.stack) ch H H' s.heap h') (hok : HOk X.prog X.w H' h') (hg : AllBare g')
  (hch : ∀ b ∈ ch, (b ∈ X.ex \/ X.s₀.heap.objs.size <= b) /\ b ≠ X.env.locals /\ (∀ x c, X.env.cells.lookup x = some c -> c ≠ b) /\ ∀ p ∈ X.pn ++ pins, p.1 ≠ b) :
  Inv X pins σ H' { s with heap := h', gens := g', drawn := d', toks := t' } := by
 obtain ⟨m, ⟨o, es, ep, ho, r⟩, _⟩ := id I.loc
 obtain ⟨sl, hL⟩ := u.any ho I.free fun z => (hch _ z).2.1 rfl
 exact I.step (ch := ch) hch (fun b o hL hb hc e n => u.keep b o e n (fun z => (List.mem_cons.mp (I.stkSub b z)).elim hL hb) hc) (fun b o _ _ hc e n => u.any e n hc) (fun b o hc e n => u.free b o e n hc) (fun b o hc e => u.there b o e hc) u.tups u.frzs u.tbls (fun m' hm => by
  obtain ⟨o', es', ep', ho', r'⟩ := hm
  rw [ho] at ho'; cases ho'
  exact ⟨_, es', ep', hL, r'⟩) hok hg
theorem Inv.turned {t' : Nat} {it : Addr} (I : Inv X pins σ H s) (k : ∀ b o, b ≠ it -> s.heap.get? b = some o -> h'.get? b = some o) (hn : H it = none) (hL : it ≠ X.env.locals)
  (h1 : it ∈ X.ex \/ X.s₀.heap.objs.size <= it) (h2 : ∀ x c, X.env.cells.lookup x = some c -> c ≠ it) (h3 : ∀ p ∈ X.pn ++ pins, p.1 ≠ it) : Inv X pins σ H { s with heap := h', toks := t' } := by
 have nit : ∀ b u, H b = some u -> b ≠ it := fun b u e z => by rw [z, hn] at e; cases e
 refine I.step (g' := s.gens) (d' := s.drawn) (ch := [it]) (fun b hb => ?_) (fun b o _ _ hc e _ => k b o (fun z => hc (by simp [z])) e) (fun b o _ _ hc e _ => ⟨o.slots, k b o (fun z => hc (by simp [z])) e⟩) (fun _ _ _ _ n => n)
  (fun b o hc e => ⟨o, k b o (fun z => hc (by simp [z])) e⟩) (fun _ _ e => e) (fun _ _ _ e => e) (fun b ps e => ⟨#[], by rw [e]; simp⟩) (fun m hm => ?_) (fun b u e => ?_) I.bare
 ·have e : b = it := by simpa using hb
  subst e
  exact ⟨h1, hL, h2, h3⟩
 ·obtain ⟨o, es, ep, ho, r⟩ := hm
  exact ⟨o, es, ep, k _ o (Ne.symm hL) ho, r⟩
 ·refine (I.hok b u e).stay (fun c v hc q => k c v ?_ q) (fun _ q => q) fun _ _ q => q
  rcases hc with z | z
  ·rw [z]; exact nit b u e
  ·exact nit c _ z
theorem Inv.tok (I : Inv X pins σ H s) (t : Nat) : Inv X pins σ H { s with toks := t } := I.un (h' := s.heap) (t' := t) Un.refl I.hok
theorem Inv.kept {t' : Nat} (I : Inv X pins σ H s) (k : ∀ b u, s.heap.get? b = some u -> h'.get? b = some u) : Inv X pins σ H { s with heap := h', toks := t' } := I.un (Un.kept k) (I.hok.kept k)
theorem Inv.laid {a : Addr} {o : HO} {t' : Nat} (I : Inv X pins σ H s) (k : ∀ b u, s.heap.get? b = some u -> h'.get? b = some u) (hp : s.heap.objs.size <= a) (new : ObjOk X.prog X.w (upd H a o) h' a o) :
  Inv X pins σ (upd H a o) { s with heap := h', toks := t' } := I.un (Un.laid k hp (I.hok.fresh hp)) (I.hok.laid k hp new)
theorem Inv.write {x e : Addr} {o : HO} {t' : Nat} (I : Inv X pins σ H s) (mu : Mut (H x)) (he : e = x \/ H e = some (.own x)) (k : ∀ b u, b ≠ e -> s.heap.get? b = some u -> h'.get? b = some u) (heo : ∃ u, h'.get? e = some u)
  (new : ObjOk X.prog X.w (upd H x o) h' x o) : Inv X pins σ (upd H x o) { s with heap := h', toks := t' } := I.un (Un.write mu he k heo) (I.hok.write mu he k heo new)
theorem Inv.pins_of {pins' : List (Addr × Obj)} (I : Inv X pins σ H s) (h : ∀ p ∈ pins', s.heap.get? p.1 = some p.2 /\ H p.1 = none /\ p.1 ≠ X.env.locals /\ p.1 ∉ X.fs /\ ∀ v, p.2.data ≠ .cell v) : Inv X pins' σ H s :=
 ⟨I.ok, I.os, I.bare, I.base, I.loc, I.cell, I.free, I.freeC, fun p hp => (List.mem_append.mp hp).elim (fun z => I.pin p (List.mem_append_left _ z)) (h p), I.hok, I.len⟩
theorem nodup_ix {N : List Str} (hN : N.Nodup) {i j : Nat} {x : Str} (a : N[i]? = some x) (b : N[j]? = some x) : i = j := by
 obtain ⟨h1, e1⟩ := List.getElem?_eq_some_iff.mp a
 obtain ⟨h2, e2⟩ := List.getElem?_eq_some_iff.mp b
 exact (List.getElem_inj hN).mp (e1.trans e2.symm)
theorem store_ok2 {M : Model} {A : Around} {E : Value -> Shared -> Prop} {i : Nat} {x : Str} {v : V} {u : Value} {Q : Unit -> Shared -> Prop} (I : Inv X pins σ H s) (hN : X.N.Nodup) (hi : X.N[i]? = some x) (hx : Loc X.env.scope x) (r : RelV v u)
  (h : ∀ s', Inv X pins (σ.set i (some v)) H s' -> (∃ a, Heap.SameBut a s.heap s'.heap /\ (a = X.env.locals \/ X.env.cells.lookup x = some a)) -> Q () s') (hf : X.fn x = true \/ X.env.scope.names.lookup x = some .local := by first | exact .inl rfl | exact .inr rfl | assumption) : wpAny M A (storeName X.env x u) Q E s := by
 obtain ⟨m, hn, hl⟩ := id I.loc
 have hcls : (X.env.scope.kind == .class || (X.env.scope.kind == .module && X.env.locals != X.env.globals)) = false := by rw [I.ok.kind]; rfl
 have hiσ : i < σ.length := by rw [I.len]; exact (List.getElem?_eq_some_iff.mp hi).1
 have cne := I.cne
 have tracked : ∀ {a : Addr} {h' : Heap}, (∃ o, s.heap.get? a = some o /\ H a = none) -> Heap.SameBut a s.heap h' -> HOk X.prog X.w H h' := fun {a h'} ha hs b ob e => by
  obtain ⟨_, _, hfree⟩ := ha
  refine (I.hok b ob e).stay (fun c w' hc q => (hs.2 c ?_).trans q) (fun _ q => q) fun _ _ q => q
  rintro rfl
  rcases hc with rfl | hc
  ·rw [hfree] at e; cases e
  ·rw [hfree] at hc; cases hc
 rcases hx with hk | hk
 ·refine wpAny_storeName_local hk hn (fun h' hn' hs => ?_) hcls
  obtain ⟨oL, _, _, hoL, _⟩ := id hn
  refine h _ ⟨I.ok, I.os, I.bare, ⟨fun b o e n hb hx => ?_, fun b o e n hb hx => ?_, I.base.free, fun b o e hx => ?_, I.base.tups, I.base.frzs, I.base.tbls⟩, ⟨_, hn', fun j y v' e1 e2 e3 => ?_⟩, fun y c e => ?_, I.free, I.freeC, fun p hp => ?_, tracked ⟨oL, hoL, I.free⟩ hs, by simpa using I.len⟩ ⟨_, hs, .inl rfl⟩
  ·exact (hs.2 b (Nat.ne_of_lt (Nat.lt_of_lt_of_le (Heap.lt_size e) I.ok.above))).trans (I.base.keep b o e n hb hx)
  ·obtain ⟨sl, e1⟩ := I.base.slot b o e n hb hx
   exact ⟨sl, (hs.2 b (Nat.ne_of_lt (Nat.lt_of_lt_of_le (Heap.lt_size e) I.ok.above))).trans e1⟩
  ·obtain ⟨o', e1⟩ := I.base.there b o e hx
   exact ⟨o', (hs.2 b (Nat.ne_of_lt (Nat.lt_of_lt_of_le (Heap.lt_size e) I.ok.above))).trans e1⟩
  ·by_cases hj : j = i
   ·subst hj
    rw [hi] at e1; cases e1
    rw [List.getElem?_set_self hiσ] at e2
    cases e2
    exact ⟨u, r, .inl ⟨hk, by simp⟩⟩
   ·rw [List.getElem?_set_ne (Ne.symm hj)] at e2
    obtain ⟨u', r', q⟩ := hl j y v' e1 e2 e3
    refine ⟨u', r', ?_⟩
    rcases q with ⟨k, e⟩ | ⟨k, c, e, z⟩
    ·refine .inl ⟨k, ?_⟩
     have : y ≠ x := fun e => hj (nodup_ix hN e1 (e ▸ hi))
     simp [this, e]
    ·exact .inr ⟨k, c, e, z.sameBut hs (cne y c e)⟩
  ·obtain ⟨w', z⟩ := I.cell y c e
   exact ⟨w', z.sameBut hs (cne y c e)⟩
  ·obtain ⟨e, n, ne, nf, d⟩ := I.pin p hp
   exact ⟨(hs.2 p.1 ne).trans e, n, ne, nf, d⟩
 ·have hfn : X.fn x = true := by
   rcases hf with z | z
   ·exact z
   ·rw [z] at hk; cases hk
  obtain ⟨c, hc⟩ := I.ok.has x (.inl hk)
  obtain ⟨w', z⟩ := I.cell x c hc
  refine wpAny_storeName_cell I.ok.kind hk hc z (fun h' hc' hs => ?_)
  obtain ⟨oc, hoc, hocd⟩ := id z
  refine h { s with heap := h' } ⟨I.ok, I.os, I.bare, ⟨fun b o e n hb hx => ?_, fun b o e n hb hx => ?_, I.base.free, fun b o e hx => ?_, I.base.tups, I.base.frzs, I.base.tbls⟩, ⟨m, hn.sameBut hs (Ne.symm (cne x c hc)), fun j y v' e1 e2 e3 => ?_⟩, fun y c' e => ?_, I.free, I.freeC, fun p hp => ?_, tracked ⟨oc, hoc, I.freeC x c hc⟩ hs, by simpa using I.len⟩ ⟨c, hs, .inr hc⟩
  ·exact (hs.2 b (Nat.ne_of_lt (Nat.lt_of_lt_of_le (Heap.lt_size e) (I.ok.cab x c hfn hc)))).trans (I.base.keep b o e n hb hx)
  ·obtain ⟨sl, e1⟩ := I.base.slot b o e n hb hx
   exact ⟨sl, (hs.2 b (Nat.ne_of_lt (Nat.lt_of_lt_of_le (Heap.lt_size e) (I.ok.cab x c hfn hc)))).trans e1⟩
  ·obtain ⟨o', e1⟩ := I.base.there b o e hx
   exact ⟨o', (hs.2 b (Nat.ne_of_lt (Nat.lt_of_lt_of_le (Heap.lt_size e) (I.ok.cab x c hfn hc)))).trans e1⟩
  ·by_cases hj : j = i
   ·subst hj
    rw [hi] at e1; cases e1
    rw [List.getElem?_set_self hiσ] at e2
    cases e2
    exact ⟨u, r, .inr ⟨.inl hk, c, hc, hc'⟩⟩
   ·rw [List.getElem?_set_ne (Ne.symm hj)] at e2
    obtain ⟨u', r', q⟩ := hl j y v' e1 e2 e3
    refine ⟨u', r', ?_⟩
    rcases q with q | ⟨k, c', e, z'⟩
    ·exact .inl q
    ·refine .inr ⟨k, c', e, z'.sameBut hs ?_⟩
     rintro rfl
     exact hj (nodup_ix hN e1 (I.ok.inj _ _ _ e hc ▸ hi))
  ·by_cases hcc : c' = c
   ·subst hcc; exact ⟨_, hc'⟩
   ·obtain ⟨w2, z2⟩ := I.cell y c' e
    exact ⟨w2, z2.sameBut hs hcc⟩
  ·obtain ⟨e, n, ne, nf, d⟩ := I.pin p hp
   refine ⟨(hs.2 p.1 ?_).trans e, n, ne, nf, d⟩
   intro q
   rw [q, hoc] at e
   have q' : oc = p.2 := Option.some.inj e
   exact d w' (by rw [<- q']; exact hocd)
theorem store_ok {M : Model} {A : Around} {E : Value -> Shared -> Prop} {i : Nat} {x : Str} {v : V} {u : Value} {Q : Unit -> Shared -> Prop} (I : Inv X pins σ H s) (hN : X.N.Nodup) (hi : X.N[i]? = some x) (hx : Loc X.env.scope x) (r : RelV v u)
  (h : ∀ s', Inv X pins (σ.set i (some v)) H s' -> Q () s') (hf : X.fn x = true \/ X.env.scope.names.lookup x = some .local := by first | exact .inl rfl | exact .inr rfl | assumption) : wpAny M A (storeName X.env x u) Q E s :=
 store_ok2 I hN hi hx r (fun s' I' _ => h s' I') hf
theorem Inv.call' {s' : Shared} {ch : List Addr} (I : Inv X pins σ H s) (ho : s'.os = s.os) (u : Un (frs X.stack) ch H H' s.heap s'.heap) (hok : HOk X.prog X.w H' s'.heap) (hg : AllBare s'.gens)
  (hch : ∀ b ∈ ch, (b ∈ X.ex \/ X.s₀.heap.objs.size <= b) /\ b ≠ X.env.locals /\ (∀ x c, X.env.cells.lookup x = some c -> c ≠ b) /\ ∀ p ∈ X.pn ++ pins, p.1 ≠ b) : Inv X pins σ H' s' := by
 obtain ⟨h', g', d', t', o'⟩ := s'
 have e : o' = s.os := ho
 subst e
 exact I.call (g' := g') (t' := t') (d' := d') u hok hg hch
end
abbrev XK := Value -> Option Addr -> Hp -> Prop
abbrev St := List (Option V)
abbrev VK := V -> Hp -> Prop
abbrev TE := St -> Hp -> VK -> Prop
abbrev TT := St -> Hp -> (Bool -> Hp -> Prop) -> Prop
abbrev TA := St -> Hp -> (List V -> Hp -> Prop) -> Prop
structure Ends where
 nx : St -> Hp -> Prop
 rt : VK
 bk : St -> Hp -> Prop := fun _ _ => False
 ct : St -> Hp -> Prop := fun _ _ => False
abbrev TS := Ends -> St -> Hp -> Prop
def EP (X : Cx) (pins : List (Addr × Obj)) (σ : St) (Q : VK) (u : Value) (s' : Shared) : Prop := ∃ v H', Inv X pins σ H' s' /\ RelV v u /\ Q v H'
def TP (X : Cx) (pins : List (Addr × Obj)) (σ : St) (Q : Bool -> Hp -> Prop) (b : Bool) (s' : Shared) : Prop := ∃ H', Inv X pins σ H' s' /\ Q b H'
def AP (X : Cx) (pins : List (Addr × Obj)) (σ : St) (Q : List V -> Hp -> Prop) (us : List Value) (s' : Shared) : Prop := ∃ vs H', Inv X pins σ H' s' /\ Vals vs us /\ Q vs H'
def SP (X : Cx) (pins : List (Addr × Obj)) (D : Ends) (f : Flow) (s' : Shared) : Prop :=
 match f with
 | .next => ∃ σ' H', Inv X pins σ' H' s' /\ D.nx σ' H'
 | .brk => ∃ σ' H', Inv X pins σ' H' s' /\ D.bk σ' H'
 | .cont => ∃ σ' H', Inv X pins σ' H' s' /\ D.ct σ' H'
 | .ret u => ∃ v σ' H', Inv X pins σ' H' s' /\ RelV v u /\ D.rt v H'
def PE (X : Cx) (e : Expr) (t : TE) : Prop :=
 ∀ (pins : List (Addr × Obj)) (s : Shared) (σ : St) (H : Hp) (Q : VK), Inv X pins σ H s -> t σ H Q -> wpAny (model X.prog X.w) X.A (eval e X.env) (EP X pins σ Q) X.xe s
def PT (X : Cx) (e : Expr) (t : TT) : Prop :=
 ∀ (pins : List (Addr × Obj)) (s : Shared) (σ : St) (H : Hp) (Q : Bool -> Hp -> Prop), Inv X pins σ H s -> t σ H Q -> wpAny (model X.prog X.w) X.A (isTrue e X.env (eval e X.env)) (TP X pins σ Q) X.xe s
def PW (X : Cx) (e : Expr) (t : TT) : Prop :=
 ∀ (whole : Sem Value) (pins : List (Addr × Obj)) (s : Shared) (σ : St) (H : Hp) (Q : Bool -> Hp -> Prop), Inv X pins σ H s -> t σ H Q -> wpAny (model X.prog X.w) X.A (isTrue e X.env whole) (TP X pins σ Q) X.xe s
theorem PW.pt {X : Cx} {e : Expr} {t : TT} (h : PW X e t) : PT X e t := h _
def PA (X : Cx) (es : List Expr) (t : TA) : Prop :=
 ∀ (pos : Pos) (pins : List (Addr × Obj)) (s : Shared) (σ : St) (H : Hp) (Q : List V -> Hp -> Prop), Inv X pins σ H s -> t σ H Q -> wpAny (model X.prog X.w) X.A (spliced (backTo pos (starEach es X.env))) (AP X pins σ Q) X.xe s
def PS (X : Cx) (st : Stmt) (t : TS) : Prop :=
 ∀ (pins : List (Addr × Obj)) (s : Shared) (σ : St) (H : Hp) (D : Ends), Inv X pins σ H s -> t D σ H -> wpAny (model X.prog X.w) X.A (exec st X.env) (SP X pins D) X.xe s
def PSs (X : Cx) (st : List Stmt) (t : TS) : Prop :=
 ∀ (pins : List (Addr × Obj)) (s : Shared) (σ : St) (H : Hp) (D : Ends), Inv X pins σ H s -> t D σ H -> wpAny (model X.prog X.w) X.A (execs st X.env) (SP X pins D) X.xe s
theorem thn {α : Type} {t : Sem α} {Q Q' : α -> Shared -> Prop} {M : Model} {A : Around} {E : Value -> Shared -> Prop} {s : Shared} (h : wpAny M A t Q E s) (hQ : ∀ a s, Q a s -> Q' a s) : wpAny M A t Q' E s := wpAny_mono h hQ fun _ _ x => x
end L2
namespace L2
open PySem PySem.Spec PyProof.Rows
section
variable {X : Cx}
theorem bin {a b : Expr} {ta tb : TE} (ha : PE X a ta) (hb : PE X b tb) {pins : List (Addr × Obj)} {s : Shared} {σ : St} {H : Hp} {R : V -> V -> Hp -> Prop} (I : Inv X pins σ H s) (h : ta σ H fun x H1 => tb σ H1 fun y H2 => R x y H2)
  {α : Type} {Q : α -> Shared -> Prop} {f : Value -> Value -> Sem α}
  (hf : ∀ v u s2 x y H2, Inv X pins σ H2 s2 -> RelV x v -> RelV y u -> R x y H2 -> wpAny (model X.prog X.w) X.A (f v u) Q X.xe s2) :
  wpAny (model X.prog X.w) X.A (eval a X.env) (fun v s₁ => wpAny (model X.prog X.w) X.A (eval b X.env) (fun u s₂ => wpAny (model X.prog X.w) X.A (f v u) Q X.xe s₂) X.xe s₁) X.xe s := by
 refine thn (ha pins s σ H _ I h) fun v s1 ⟨x, H1, I1, r1, q1⟩ => ?_
 refine thn (hb pins s1 σ H1 _ I1 q1) fun u s2 ⟨y, H2, I2, r2, q2⟩ => ?_
 exact hf v u s2 x y H2 I2 r1 r2 q2
def tVar (i : Nat) : TE := fun σ H Q => ∃ v, σ[i]? = some (some v) /\ Q v H
def tC (v : V) : TE := fun _ H Q => Q v H
theorem pe_var {i : Nat} {x : Str} {pos : Pos} (hN : X.N[i]? = some x) (hv : Vis X.env.scope x) (hd : (x == ("__debug__" : Str)) = false := by decide) (hcd : (x == ("__classdict__" : Str)) = false := by decide) : PE X (.Name x pos) (tVar i) := by
 intro pins s σ H Q I h
 obtain ⟨v, e, h⟩ := h
 obtain ⟨m, hn, hl⟩ := I.loc
 obtain ⟨u, r, l⟩ := hl i x v hN e hv
 have fin : EP X pins σ Q u s := ⟨v, H, I, r, h⟩
 rcases l with ⟨hk, hm⟩ | ⟨hk, c, hc, hcell⟩
 ·exact wpAny_Name (wpAny_loadName_local I.ok.kind hk hn hm fin) hd
 ·rcases hk with hk | hk
  ·exact wpAny_Name (wpAny_loadName_cell I.ok.kind hk hc hcell fin) hd
  ·exact wpAny_Name (wpAny_loadName_free I.ok.kind hk hc hcell fin hcd) hd
theorem pe_int {i j pos} : PE X (.Constant (.int i) j pos) (tC (.int i)) := fun _ _ _ H _ I h => wpAny_Constant_int ⟨.int i, H, I.tok _, ⟨_, rfl⟩, h⟩
theorem pe_bl {b j pos} : PE X (.Constant (.bool b) j pos) (tC (.bl b)) := fun _ _ _ H _ I h => Constant_bool ⟨.bl b, H, I, rfl, h⟩
theorem pe_str {x j pos} : PE X (.Constant (.str x) j pos) (tC (.str x)) := fun _ _ _ H _ I h => Calls.Constant_str ⟨.str x, H, I.tok _, ⟨_, rfl⟩, h⟩
def Gl (X : Cx) (x : Str) : Prop := X.env.kindOf x = some .globalImplicit
theorem ld_glob {E : Value -> Shared -> Prop} {pins : List (Addr × Obj)} {s : Shared} {σ : St} {H : Hp} {x : Str} {u : Value} {pos : Pos} {Q : Value -> Shared -> Prop} (I : Inv X pins σ H s) (hg : Gl X x) (hm : X.mg x = some u) (h : Q u s)
  (hd : (x == ("__debug__" : Str)) = false := by decide) : wpAny (model X.prog X.w) X.A (eval (.Name x pos) X.env) Q E s :=
 Calls.Name_function_global I.ok.kind hg (Calls.loadGlobal_global (by rw [I.ok.glob]; exact I.mod.glob.keeps I.bk) hm h) hd
theorem ld_blt {E : Value -> Shared -> Prop} {pins : List (Addr × Obj)} {s : Shared} {σ : St} {H : Hp} {x : Str} {u : Value} {pos : Pos} {Q : Value -> Shared -> Prop} (I : Inv X pins σ H s) (hg : Gl X x) (hm : X.mg x = none) (hv : bootBuiltins x = some u) (h : Q u s)
  (hn : x ≠ "__name__" := by decide) (hd : (x == ("__debug__" : Str)) = false := by decide) : wpAny (model X.prog X.w) X.A (eval (.Name x pos) X.env) Q E s := by
 obtain ⟨mb, h1, h2⟩ := I.mod.blt
 exact Calls.Name_function_global I.ok.kind hg (Calls.loadGlobal_builtin (by rw [I.ok.glob]; exact I.mod.glob.keeps I.bk) hm (by rw [I.ok.blt]; exact h1.keeps I.bk) ((h2 x hn).trans hv) h) hd
variable {a b : Expr} {ta tb : TE} {pos : Pos}
variable {tA tB' : TT} {rest : List Expr}
def tAnd (t u : TT) : TT := fun σ H Q => t σ H fun c H1 => if c = true then u σ H1 Q else Q false H1
def tOr (t u : TT) : TT := fun σ H Q => t σ H fun c H1 => if c = true then Q true H1 else u σ H1 Q
def tNot (t : TT) : TT := fun σ H Q => t σ H fun c H1 => Q (!c) H1
theorem pw_and1 (ha : PT X a tA) : PW X (.BoolOp .And [a] pos) tA := by
 intro wh pins s σ H Q I h
 refine isTrue_and (thn (ha pins s σ H Q I h) fun c s1 e => ?_)
 cases c with
 | true => exact isTrue_and_nil e
 | false => exact e
theorem pw_or1 (ha : PT X a tA) : PW X (.BoolOp .Or [a] pos) tA := by
 intro wh pins s σ H Q I h
 refine isTrue_or (thn (ha pins s σ H Q I h) fun c s1 e => ?_)
 cases c with
 | false => exact isTrue_or_nil e
 | true => exact e
theorem pw_and (ha : PT X a tA) (hb : PW X (.BoolOp .And (b :: rest) pos) tB') : PW X (.BoolOp .And (a :: b :: rest) pos) (tAnd tA tB') := by
 intro wh pins s σ H Q I h
 refine isTrue_and (thn (ha pins s σ H _ I h) fun c s1 ⟨H1, I1, q1⟩ => ?_)
 cases c with
 | true => exact hb wh pins s1 σ H1 Q I1 q1
 | false => exact ⟨H1, I1, q1⟩
theorem pw_or (ha : PT X a tA) (hb : PW X (.BoolOp .Or (b :: rest) pos) tB') : PW X (.BoolOp .Or (a :: b :: rest) pos) (tOr tA tB') := by
 intro wh pins s σ H Q I h
 refine isTrue_or (thn (ha pins s σ H _ I h) fun c s1 ⟨H1, I1, q1⟩ => ?_)
 cases c with
 | true => exact ⟨H1, I1, q1⟩
 | false => exact hb wh pins s1 σ H1 Q I1 q1
theorem pt_not (ha : PT X a tA) : PT X (.UnaryOp .Not a pos) (tNot tA) := by
 intro pins s σ H Q I h
 exact isTrue_not (ha pins s σ H (fun c H1 => Q (!c) H1) I h)
def tAndV (ta tb : TE) : TE := fun σ H Q => ta σ H fun x H1 => ∃ c, x = .bl c /\ if c = true then tb σ H1 Q else Q (.bl false) H1
def tOrV (ta tb : TE) : TE := fun σ H Q => ta σ H fun x H1 => ∃ c, x = .bl c /\ if c = true then Q (.bl true) H1 else tb σ H1 Q
theorem pe_one {op} {t : TE} (h : PE X a t) : PE X (.BoolOp op [a] pos) t := fun pins s σ H Q I hw => BoolOp_one (h pins s σ H Q I hw)
theorem pe_and (ha : PE X a ta) (hb : PE X (.BoolOp .And (b :: rest) pos) tb) : PE X (.BoolOp .And (a :: b :: rest) pos) (tAndV ta tb) := by
 intro pins s σ H Q I h
 refine BoolOp_and (thn (ha pins s σ H _ I h) fun v s1 ⟨x, H1, I1, r1, q1⟩ => ?_)
 obtain ⟨c, rfl, q1⟩ := q1
 cases r1
 refine wpAny_truthy_bool ?_
 cases c with
 | true => exact hb pins s1 σ H1 Q I1 q1
 | false => exact ⟨.bl false, H1, I1, rfl, q1⟩
theorem pe_or (ha : PE X a ta) (hb : PE X (.BoolOp .Or (b :: rest) pos) tb) : PE X (.BoolOp .Or (a :: b :: rest) pos) (tOrV ta tb) := by
 intro pins s σ H Q I h
 refine BoolOp_or (thn (ha pins s σ H _ I h) fun v s1 ⟨x, H1, I1, r1, q1⟩ => ?_)
 obtain ⟨c, rfl, q1⟩ := q1
 cases r1
 refine wpAny_truthy_bool ?_
 cases c with
 | false => exact hb pins s1 σ H1 Q I1 q1
 | true => exact ⟨.bl true, H1, I1, rfl, q1⟩
end
end L2
namespace L2
open PySem PySem.Spec PyProof.Rows
def SqL (K : PySem.W.Frag) (H : Hp) (a : Addr) (xs : List V) : Prop :=
 Rd H a (.lst xs) \/
  ∃ (o : Obj) (its : Array Value) (n : Nat), K.lookup a = some o /\ o.cls = .type "list" /\ o.dict = none /\ o.data = .seq its n /\ its.size <= sizeLine /\ Vals xs its.toList
def SqT (K : PySem.W.Frag) (H : Hp) (a : Addr) (xs : List V) : Prop :=
 Rd H a (.tup xs) \/
  ∃ (o : Obj) (its : Array Value) (n : Nat), K.lookup a = some o /\ o.cls = .type "tuple" /\ o.data = .seq its n /\ its.size <= sizeLine /\ Vals xs its.toList
def absV : Value -> Option V
 | .none => some .non
 | .bool b => some (.bl b)
 | .int i _ => some (.int i)
 | .str x _ => some (.str x)
 | .bytes b _ => some (.byt b)
 | .float b _ => some (.flt b)
 | .ref a => some (.ref a)
 | .type n => some (.ty n)
 | _ => none
theorem RelV.abs {x : V} {u : Value} (r : RelV x u) : absV u = some x := by
 cases x with
 | non => cases r; rfl
 | bl _ => cases r; rfl
 | int _ => obtain ⟨t, rfl⟩ := r; rfl
 | str _ => obtain ⟨t, rfl⟩ := r; rfl
 | byt _ => obtain ⟨t, rfl⟩ := r; rfl
 | flt _ => obtain ⟨t, rfl⟩ := r; rfl
 | ref _ => cases r; rfl
 | ty _ => cases r; rfl
theorem RelV.inj {x y : V} {u : Value} (r : RelV x u) (q : RelV y u) : x = y := Option.some.inj (r.abs.symm.trans q.abs)
theorem Vals.inj : ∀ {xs ys : List V} {us : List Value}, Vals xs us -> Vals ys us -> xs = ys
 | _, _, _, .nil, .nil => rfl
 | _, _, _, .cons r t, .cons r' t' => by rw [r.inj r', Vals.inj t t']
section
variable {X : Cx} {pins : List (Addr × Obj)} {σ : St} {H : Hp} {s : Shared} {a : Addr} {xs ys : List V}
theorem SqL.of {K : PySem.W.Frag} (h : H a = some (.lst xs)) : SqL K H a xs := .inl (.inl h)
theorem SqT.of {K : PySem.W.Frag} (h : H a = some (.tup xs)) : SqT K H a xs := .inl (.inl h)
theorem Inv.list (I : Inv X pins σ H s) (h : SqL X.K H a xs) : ∃ its : List Value, Vals xs its /\ PlainL s.heap a its.toArray /\ xs.length <= sizeLine := by
 rcases h with h | ⟨o, its, n, hk, hc, hd, hs, hz, r⟩
 ·obtain ⟨z, its, n, r, e⟩ := h.ok I.hok
  exact ⟨its, r, ⟨_, n, e, rfl, rfl, rfl⟩, z⟩
 ·refine ⟨its.toList, r, ⟨o, n, I.kIn a o hk, hc, hd, by simpa using hs⟩, ?_⟩
  have e := r.length
  simp only [Array.length_toList] at e
  omega
theorem Inv.tuple (I : Inv X pins σ H s) (h : SqT X.K H a xs) : ∃ its : List Value, Vals xs its /\ IsTup s.heap a its.toArray /\ xs.length <= sizeLine := by
 rcases h with h | ⟨o, its, n, hk, hc, hs, hz, r⟩
 ·obtain ⟨z, its, r, p⟩ := h.ok I.hok
  exact ⟨its, r, p, z⟩
 ·refine ⟨its.toList, r, ⟨o, I.kIn a o hk, hc, n, by simpa using hs⟩, ?_⟩
  have e := r.length
  simp only [Array.length_toList] at e
  omega
theorem Inv.list_inj (I : Inv X pins σ H s) (h : SqL X.K H a xs) (h' : SqL X.K H a ys) : xs = ys := by
 obtain ⟨its, r, ⟨o, n, e, _, _, d⟩, _⟩ := I.list h
 obtain ⟨its', r', ⟨o', n', e', _, _, d'⟩, _⟩ := I.list h'
 rw [e] at e'; cases e'
 rw [d] at d'
 injection d' with d1 _
 have : its = its' := by simpa using congrArg Array.toList d1
 subst this
 exact r.inj r'
theorem Inv.tuple_inj (I : Inv X pins σ H s) (h : SqT X.K H a xs) (h' : SqT X.K H a ys) : xs = ys := by
 obtain ⟨its, r, ⟨o, e, _, n, d⟩, _⟩ := I.tuple h
 obtain ⟨its', r', ⟨o', e', _, n', d'⟩, _⟩ := I.tuple h'
 rw [e] at e'; cases e'
 rw [d] at d'
 injection d' with d1 _
 have : its = its' := by simpa using congrArg Array.toList d1
 subst this
 exact r.inj r'
end
abbrev Cx.wish (X : Cx) (E : Value -> Shared -> Prop) : Cx := { X with xe := E }
abbrev Cx.nox (X : Cx) : Cx := X.wish fun _ _ => False
theorem Cx.Ok.wish {X : Cx} (ok : X.Ok) (E : Value -> Shared -> Prop) : (X.wish E).Ok :=
 ⟨ok.mod, ok.kind, ok.glob, ok.blt, ok.above, ok.inj, ok.has, ok.cab, ok.hd, ok.frames, ok.stk, ok.exf, ok.bs, ok.bsz, ok.noex, ok.exfs, ok.funs, ok.frf⟩
theorem Cx.Ok.unwish {X : Cx} {E : Value -> Shared -> Prop} (ok : (X.wish E).Ok) : X.Ok :=
 ⟨ok.mod, ok.kind, ok.glob, ok.blt, ok.above, ok.inj, ok.has, ok.cab, ok.hd, ok.frames, ok.stk, ok.exf, ok.bs, ok.bsz, ok.noex, ok.exfs, ok.funs, ok.frf⟩
section
variable {X : Cx} {pins : List (Addr × Obj)} {σ : St} {H : Hp} {s : Shared} {E : Value -> Shared -> Prop}
theorem Inv.wish (I : Inv X pins σ H s) (E : Value -> Shared -> Prop) : Inv (X.wish E) pins σ H s := ⟨I.ok.wish E, I.os, I.bare, I.base, I.loc, I.cell, I.free, I.freeC, I.pin, I.hok, I.len⟩
theorem Inv.unwish (I : Inv (X.wish E) pins σ H s) : Inv X pins σ H s := ⟨I.ok.unwish, I.os, I.bare, I.base, I.loc, I.cell, I.free, I.freeC, I.pin, I.hok, I.len⟩
theorem SP.unwish {D : Ends} {f : Flow} {s' : Shared} (h : SP (X.wish E) pins D f s') : SP X pins D f s' := by
 cases f with
 | next => obtain ⟨σ', H', I, q⟩ := h; exact ⟨σ', H', I.unwish, q⟩
 | brk => obtain ⟨σ', H', I, q⟩ := h; exact ⟨σ', H', I.unwish, q⟩
 | cont => obtain ⟨σ', H', I, q⟩ := h; exact ⟨σ', H', I.unwish, q⟩
 | ret u => obtain ⟨v, σ', H', I, r, q⟩ := h; exact ⟨v, σ', H', I.unwish, r, q⟩
theorem PE.nox {e : Expr} {t : TE} (h : PE X.nox e t) : PE X e t := fun pins s σ H Q I hw =>
 wpAny_mono (h pins s σ H Q (I.wish _) hw) (fun _ _ ⟨v, H', I', r, q⟩ => ⟨v, H', I'.unwish, r, q⟩) fun _ _ z => False.elim z
theorem PT.nox {e : Expr} {t : TT} (h : PT X.nox e t) : PT X e t := fun pins s σ H Q I hw =>
 wpAny_mono (h pins s σ H Q (I.wish _) hw) (fun _ _ ⟨H', I', q⟩ => ⟨H', I'.unwish, q⟩) fun _ _ z => False.elim z
theorem PSs.nox {st : List Stmt} {t : TS} (h : PSs X.nox st t) : PSs X st t := fun pins s σ H D I hw =>
 wpAny_mono (h pins s σ H D (I.wish _) hw) (fun _ _ q => q.unwish) fun _ _ z => False.elim z
end
section
variable {X : Cx} {st : Stmt} {rest : List Stmt} {t u : TS} {e : Expr} {te : TE} {pos : Pos}
def tNext : TS := fun D σ H => D.nx σ H
def tSeq (t u : TS) : TS := fun D σ H => t { D with nx := u D } σ H
theorem pss_nil : PSs X [] tNext := fun _ _ σ H _ I h => wpAny_execs_nil ⟨σ, H, I, h⟩
theorem pss_cons (h1 : PS X st t) (h2 : PSs X rest u) : PSs X (st :: rest) (tSeq t u) := by
 intro pins s σ H D I h
 refine wpAny_execs_cons (thn (h1 pins s σ H { D with nx := u D } I h) fun f s1 q => ?_)
 cases f with
 | next =>
  obtain ⟨σ', H', I', q⟩ := q
  exact h2 pins s1 σ' H' D I' q
 | ret v => exact q
 | brk => exact q
 | cont => exact q
theorem pss_one (h1 : PS X st t) : PSs X [st] t := by
 intro pins s σ H D I h
 refine wpAny_execs_cons (thn (h1 pins s σ H D I h) fun f s1 q => ?_)
 cases f with
 | next => exact wpAny_execs_nil q
 | ret v => exact q
 | brk => exact q
 | cont => exact q
theorem Inv.quiet {pins : List (Addr × Obj)} {σ : St} {H : Hp} {s : Shared} (I : Inv X pins σ H s) : interactive X.env = false := by simp [interactive, I.ok.kind]
def tDrop (te : TE) : TS := fun D σ H => te σ H fun _ H1 => D.nx σ H1
theorem ps_expr (he : PE X e te) (hs : swapsWith e none pos.line X.env = pure false := by rfl) : PS X (.Expr e pos) (tDrop te) := by
 intro pins s σ H D I h
 exact wpAny_Expr_any (thn (he pins s σ H _ I h) fun v s1 ⟨x, H1, I1, r1, q1⟩ => ⟨σ, H1, I1, q1⟩) I.quiet hs
def tRet (te : TE) : TS := fun D σ H => te σ H D.rt
theorem ps_ret (he : PE X e te) : PS X (.Return (some e) pos) (tRet te) := by
 intro pins s σ H D I h
 exact wpAny_Return_some (thn (he pins s σ H _ I h) fun v s1 ⟨x, H1, I1, r1, q1⟩ => ⟨x, σ, H1, I1, r1, q1⟩)
def tIfS (c : TT) (t u : TS) : TS := fun D σ H => c σ H fun b H1 => if b = true then t D σ H1 else u D σ H1
theorem ps_if {c : Expr} {a b : List Stmt} {tc : TT} (hc : PT X c tc) (ha : PSs X a t) (hb : PSs X b u) : PS X (.If c a b pos) (tIfS tc t u) := by
 intro pins s σ H D I h
 refine wpAny_If (thn (hc pins s σ H _ I h) fun d s1 ⟨H1, I1, q1⟩ => ?_)
 cases d with
 | true => exact ha pins s1 σ H1 D I1 q1
 | false => exact hb pins s1 σ H1 D I1 q1
end
abbrev TG := V -> St -> Hp -> (St -> Hp -> Prop) -> Prop
abbrev TGs := List V -> St -> Hp -> (St -> Hp -> Prop) -> Prop
def PG (X : Cx) (target : Expr) (t : TG) : Prop :=
 ∀ (pins : List (Addr × Obj)) (s : Shared) (σ : St) (H : Hp) (v : V) (u : Value) (Q : St -> Hp -> Prop), Inv X pins σ H s -> RelV v u -> t v σ H Q →
  wpAny (model X.prog X.w) X.A (assign target X.env u) (fun _ s' => ∃ σ' H', Inv X pins σ' H' s' /\ Q σ' H') X.xe s
def PGs (X : Cx) (ts : List Expr) (t : TGs) : Prop :=
 ∀ (pins : List (Addr × Obj)) (s : Shared) (σ : St) (H : Hp) (vs : List V) (us : List Value) (Q : St -> Hp -> Prop), Inv X pins σ H s -> Vals vs us -> t vs σ H Q →
  wpAny (model X.prog X.w) X.A (assignInOrder ((assignEach ts X.env).map (·.2)) us) (fun _ s' => ∃ σ' H', Inv X pins σ' H' s' /\ Q σ' H') X.xe s
abbrev TSet := V -> V -> V -> Hp -> (Hp -> Prop) -> Prop
def PSet (X : Cx) (t : TSet) : Prop :=
 ∀ (pins : List (Addr × Obj)) (s : Shared) (σ : St) (H : Hp) (o i v : V) (ov iv u : Value) (Q : Hp -> Prop), Inv X pins σ H s -> RelV o ov -> RelV i iv -> RelV v u -> t o i v H Q →
  wpAny (model X.prog X.w) X.A (setItem ov iv u) (fun _ s' => ∃ H', Inv X pins σ H' s' /\ Q H') X.xe s
abbrev TIp := V -> V -> Hp -> VK -> Prop
def PIp (X : Cx) (op : Operator) (t : TIp) : Prop :=
 ∀ (pins : List (Addr × Obj)) (s : Shared) (σ : St) (H : Hp) (x y : V) (v u : Value) (Q : VK), Inv X pins σ H s -> RelV x v -> RelV y u -> t x y H Q →
  wpAny (model X.prog X.w) X.A (inplaceOp op v u) (EP X pins σ Q) X.xe s
section
variable {X : Cx} {pos : Pos}
def gName (i : Nat) : TG := fun v σ H Q => Q (σ.set i (some v)) H
theorem pg_name {i : Nat} {x : Str} (hN : X.N.Nodup) (hi : X.N[i]? = some x) (hx : Loc X.env.scope x) (hf : X.fn x = true \/ X.env.scope.names.lookup x = some .local := by first | exact .inl rfl | exact .inr rfl | assumption) : PG X (.Name x pos) (gName i) := by
 intro pins s σ H v u Q I r h
 exact wpAny_assign_Name (store_ok I hN hi hx r (fun s' I' => ⟨_, H, I', h⟩) hf)
def gNil : TGs := fun vs σ H Q => vs = [] /\ Q σ H
def gCons (t : TG) (u : TGs) : TGs := fun vs σ H Q => ∃ v r, vs = v :: r /\ t v σ H fun σ' H' => u r σ' H' Q
theorem pgs_nil : PGs X [] gNil := by
 intro pins s σ H vs us Q I r h
 obtain ⟨e, h⟩ := h
 subst e
 cases r
 exact assignInOrder_nil ⟨σ, H, I, h⟩
theorem pgs_cons {e : Expr} {es : List Expr} {t : TG} {u : TGs} (h1 : PG X e t) (h2 : PGs X es u)
  (hs : (assignEach (e :: es) X.env).map (·.2) = assign e X.env :: (assignEach es X.env).map (·.2) := by rfl) : PGs X (e :: es) (gCons t u) := by
 intro pins s σ H vs us Q I r h
 obtain ⟨v, vr, e1, h⟩ := h
 subst e1
 cases r with
 | cons r rr =>
  rw [hs]
  refine assignInOrder_cons (thn (h1 pins s σ H _ _ _ I r h) fun _ s1 ⟨σ1, H1, I1, q1⟩ => ?_)
  exact h2 pins s1 σ1 H1 _ _ Q I1 rr q1
def gTup (K : PySem.W.Frag) (n : Nat) (t : TGs) : TG := fun v σ H Q => ∃ a xs, v = .ref a /\ SqT K H a xs /\ xs.length = n /\ t xs σ H Q
theorem pg_tup {es : List Expr} {k : Nat} {t : TGs} {n : Nat} (hc : X.calm = true) (h : PGs X es t)
  (hn : (assignEach es X.env).length = n := by rfl) (hst : (assignEach es X.env).findIdx? (·.1) = none := by rfl) : PG X (.Tuple es k pos) (gTup X.K n t) := by
 intro pins s σ H v u Q I r hw
 obtain ⟨a, xs, e1, hq, hl, hw⟩ := hw
 subst e1
 cases r
 obtain ⟨its, rv, ht, hz⟩ := I.tuple hq
 refine assign_Tuple_tuple (I.ok.hd hc) ht (by simp [hn, <- hl, rv.length]) hst fun h' hx => ?_
 have I1 : Inv X pins σ H { s with heap := h' } := I.kept (t' := s.toks) fun b o e => hx b o (Nat.ne_of_lt (Heap.lt_size e)) e
 exact h pins _ σ H xs _ Q I1 (by simpa using rv) hw
def gSub (to ti : TE) (t : TSet) : TG := fun v σ H Q => to σ H fun o H1 => ti σ H1 fun i H2 => t o i v H2 fun H3 => Q σ H3
theorem pg_sub {o i : Expr} {to ti : TE} {t : TSet} (ho : PE X o to) (hi : PE X i ti) (hs : PSet X t)
  (ha : ∀ v, assign (.Subscript o i pos) X.env v = (do
   let ov <- holding [v] (eval o X.env)
   let iv <- holding [v, ov] (eval i X.env)
   standAt pos
   holding [v, ov, iv] (setItem ov iv v)
   release [v, ov, iv] []) := by intro _; rfl) : PG X (.Subscript o i pos) (gSub to ti t) := by
 intro pins s σ H v u Q I r h
 rw [ha]
 refine wpAny_bind (wpAny_holding (thn (ho pins s σ H _ I h) fun ov s1 ⟨x, H1, I1, r1, q1⟩ => ?_))
 refine wpAny_bind (wpAny_holding (thn (hi pins s1 σ H1 _ I1 q1) fun iv s2 ⟨y, H2, I2, r2, q2⟩ => ?_))
 refine wpAny_bind (wpAny_standAt (wpAny_bind (wpAny_holding (thn (hs pins s2 σ H2 x y v ov iv u _ I2 r1 r2 r q2) fun _ s3 ⟨H3, I3, q3⟩ => ?_))))
 exact wpAny_release ⟨σ, H3, I3, q3⟩
def tAsg (te : TE) (g : TG) : TS := fun D σ H => te σ H fun x H1 => g x σ H1 D.nx
theorem ps_asg {tg e : Expr} {te : TE} {g : TG} (he : PE X e te) (hg : PG X tg g) (hs : swapsWithSole [tg] e pos.line X.env = pure false := by rfl) (hw : swappedStores [tg] e X.env = pure none := by rfl)
  (h1 : (assignEach [tg] X.env).map (·.2) = [assign tg X.env] := by rfl) : PS X (.Assign [tg] e pos) (tAsg te g) := by
 intro pins s σ H D I h
 refine wpAny_Assign_stores (thn (he pins s σ H _ I h) fun v s1 ⟨x, H1, I1, r1, q1⟩ => ?_) hs hw
 rw [h1]
 exact thn (hg pins s1 σ H1 x v _ I1 r1 q1) fun _ s2 q => q
theorem ps_set {i : Nat} {x : Str} {e : Expr} {te : TE} {pos' : Pos} (hN : X.N.Nodup) (hi : X.N[i]? = some x) (hx : Loc X.env.scope x) (he : PE X e te) (hs : swapsWith e (some (.Name x pos')) pos.line X.env = pure false := by rfl) (hf : X.fn x = true \/ X.env.scope.names.lookup x = some .local := by first | exact .inl rfl | exact .inr rfl | assumption) :
  PS X (.Assign [.Name x pos'] e pos) (tAsg te (gName i)) := by
 intro pins s σ H D I h
 refine wpAny_Assign_Name (thn (he pins s σ H _ I h) fun v s1 ⟨y, H1, I1, r1, q1⟩ => ?_) hs
 exact store_ok I1 hN hi hx r1 (fun s2 I2 => ⟨_, H1, I2, q1⟩) hf
def tAug (i : Nat) (te : TE) (ti : TIp) : TS := fun D σ H => ∃ x, σ[i]? = some (some x) /\ te σ H fun y H1 => ti x y H1 fun z H2 => D.nx (σ.set i (some z)) H2
theorem ps_aug {i : Nat} {x : Str} {e : Expr} {te : TE} {op : Operator} {ti : TIp} {pos' : Pos} (hN : X.N.Nodup) (hi : X.N[i]? = some x) (hx : Loc X.env.scope x) (he : PE X e te) (ho : PIp X op ti) (hf : X.fn x = true \/ X.env.scope.names.lookup x = some .local := by first | exact .inl rfl | exact .inr rfl | assumption) :
  PS X (.AugAssign (.Name x pos') op e pos) (tAug i te ti) := by
 intro pins s σ H D I h
 obtain ⟨v, e1, h⟩ := h
 obtain ⟨m, hn, hl⟩ := I.loc
 have vis : Vis X.env.scope x := by rcases hx with k | k; exact .inl k; exact .inr (.inl k)
 obtain ⟨u, r, l⟩ := hl i x v hi e1 vis
 refine wpAny_AugAssign_Name ?_
 have go : wpAny (model X.prog X.w) X.A (eval e X.env) (fun w s₂ => wpAny (model X.prog X.w) X.A (inplaceOp op u w) (fun r s₃ => wpAny (model X.prog X.w) X.A (storeName X.env x r) (fun _ => SP X pins D .next) X.xe s₃) X.xe s₂) X.xe s := by
  refine thn (he pins s σ H _ I h) fun w s1 ⟨y, H1, I1, r1, q1⟩ => ?_
  refine thn (ho pins s1 σ H1 v y u w _ I1 r r1 q1) fun z s2 ⟨zv, H2, I2, r2, q2⟩ => ?_
  exact store_ok I2 hN hi hx r2 (fun s3 I3 => ⟨_, H2, I3, q2⟩) hf
 rcases l with ⟨hk, hm⟩ | ⟨hk, c, hc, hcell⟩
 ·exact wpAny_loadName_local I.ok.kind hk hn hm go
 ·rcases hk with hk | hk
  ·exact wpAny_loadName_cell I.ok.kind hk hc hcell go
  ·rcases hx with k | k
   ·have : X.env.scope.names.lookup x = some .free := hk
    rw [k] at this; cases this
   ·have : X.env.scope.names.lookup x = some .free := hk
    rw [k] at this; cases this
def ipI (f : Int -> Int -> Int) : TIp := fun x y H Q => ∃ i j, x = .int i /\ y = .int j /\ Q (.int (f i j)) H
theorem ip_add : PIp X .Add (ipI fun i j => i + j) := by
 intro pins s σ H x y v u Q I r1 r2 h
 obtain ⟨i, j, e1, e2, q⟩ := h
 subst e1; subst e2
 obtain ⟨t, rfl⟩ := r1
 obtain ⟨t', rfl⟩ := r2
 exact iadd_int ⟨.int _, H, I.tok _, ⟨_, rfl⟩, q⟩
end
section
variable {X : Cx} {pos : Pos}
def tWhile (c : TT) (tb : TS) : TS := fun D σ H => ∃ W : Nat -> St -> Hp -> Prop, (∃ m, W m σ H) /\ ∀ m σ H, W m σ H →
 c σ H fun b H1 => if b = true then ∃ N : St -> Hp -> Prop, (∀ σ' H', N σ' H' -> ∃ m', m' < m /\ W m' σ' H') /\ tb { D with nx := N, ct := N, bk := D.nx } σ H1 else D.nx σ H1
theorem ps_while {c : Expr} {body : List Stmt} {tc : TT} {tb : TS} (hp : PassesOwn (model X.prog X.w) X.A X.env X.xe) (hc : PT X c tc) (hb : PSs X body tb) : PS X (.While c body [] pos) (tWhile tc tb) := by
 intro pins s σ H D I h
 obtain ⟨W, ⟨m0, w0⟩, turn⟩ := h
 refine wpAny_While (codeAny_whileLoop (fun n s' => ∃ σ' H', Inv X pins σ' H' s' /\ W n σ' H') ?_ m0 ⟨σ, H, I, w0⟩)
 rintro n s1 ⟨σ1, H1, I1, w1⟩
 refine wpAny_passesOwn hp (thn (hc pins s1 σ1 H1 _ I1 (turn n σ1 H1 w1)) fun b s2 ⟨H2, I2, q2⟩ => ?_)
 cases b with
 | true =>
  obtain ⟨N, hN, q2⟩ := q2
  rw [if_pos rfl]
  refine wpAny_passesOwn hp (thn (hb pins s2 σ1 H2 _ I2 q2) fun f s3 q3 => ?_)
  cases f with
  | next =>
   obtain ⟨σ3, H3, I3, n3⟩ := q3
   obtain ⟨m', hm, w3⟩ := hN σ3 H3 n3
   exact ⟨m', hm, σ3, H3, I3, w3⟩
  | cont =>
   obtain ⟨σ3, H3, I3, n3⟩ := q3
   obtain ⟨m', hm, w3⟩ := hN σ3 H3 n3
   exact ⟨m', hm, σ3, H3, I3, w3⟩
  | brk => exact q3
  | ret v => exact q3
 | false =>
  rw [if_neg Bool.false_ne_true]
  exact wpAny_execs_nil ⟨σ1, H2, I2, q2⟩
end
structure It where
 go : Nat -> Hp -> Prop
 yld : Nat -> Hp -> V -> Hp -> Prop
 stop : Nat -> Hp -> Prop
def FpOk (X : Cx) (pins : List (Addr × Obj)) (H : Hp) (b : Addr) : Prop :=
 H b = none /\ b ≠ X.env.locals /\ b ∉ X.fs /\ (b ∈ X.ex \/ X.s₀.heap.objs.size <= b) /\ (∀ x c, X.env.cells.lookup x = some c -> c ≠ b) /\ ∀ p ∈ X.pn ++ pins, p.1 ≠ b
theorem Inv.fpOk {X : Cx} {pins : List (Addr × Obj)} {σ : St} {H H' : Hp} {s : Shared} {b : Addr} (I : Inv X pins σ H s) (hb : s.heap.objs.size <= b) (hn : H' b = none) : FpOk X pins H' b := by
 refine ⟨hn, Nat.ne_of_gt (Nat.lt_of_lt_of_le I.lt hb), I.nofs hb, .inr (Nat.le_trans I.sz hb), fun x c e z => ?_, fun p hp z => ?_⟩
 ·obtain ⟨v, q⟩ := I.cell x c e
  exact absurd (Nat.lt_of_lt_of_le q.lt (by rw [z]; exact hb)) (Nat.lt_irrefl _)
 ·exact absurd (Nat.lt_of_lt_of_le (Heap.lt_size (I.pin p hp).1) (by rw [z]; exact hb)) (Nat.lt_irrefl _)
structure Turn (P : Program) (w : World) (K : PySem.W.Frag) (tg : Expr) (J : It) (fp : List Addr) (it : Addr) (tn : Nat -> Heap -> Prop) : Prop where
 mem : it ∈ fp
 obj : ∀ i h, tn i h -> ∀ b ∈ fp, ∃ o, h.get? b = some o /\ ∀ v, o.data ≠ .cell v
 keep : ∀ i h h', tn i h -> (∀ b ∈ fp, ∀ o, h.get? b = some o -> h'.get? b = some o) -> tn i h'
 item : ∀ (X : Cx), X.prog = P -> X.w = w -> X.K = K -> X.calm = true -> ∀ (i : Nat) (pins : List (Addr × Obj)) (s : Shared) (σ : St) (H : Hp) (E : Value -> Shared -> Prop), Inv X pins σ H s -> (∀ b ∈ fp, FpOk X pins H b) -> tn i s.heap -> J.go i H →
  wpAny (model P w) X.A (pyNext (.ref it)) (fun r s1 => ∃ u, r = some u /\
   wpAny (model P w) X.A (letOwnedTupleGo tg (.ref it) u) (fun _ s2 => ∃ x H', Inv X pins σ H' s2 /\ RelV x u /\ J.yld i H x H' /\ tn (i + 1) s2.heap /\ ∀ b ∈ fp, H' b = none) E s1) E s
 done : ∀ (X : Cx), X.prog = P -> X.w = w -> X.K = K -> X.calm = true -> ∀ (i : Nat) (pins : List (Addr × Obj)) (s : Shared) (σ : St) (H : Hp) (E : Value -> Shared -> Prop), Inv X pins σ H s -> (∀ b ∈ fp, FpOk X pins H b) -> tn i s.heap -> J.stop i H →
  wpAny (model P w) X.A (pyNext (.ref it)) (fun r s1 => r = none /\ Inv X pins σ H s1) E s
 self : ∀ (A : Around) (i : Nat) (s : Shared) (Q : Value -> Shared -> Prop) (E : Value -> Shared -> Prop), tn i s.heap -> Q (.ref it) s -> wpAny (model P w) A (pyIter (.ref it)) Q E s
abbrev TI := St -> Hp -> (It -> Hp -> Prop) -> Prop
def PIE (X : Cx) (pins : List (Addr × Obj)) (σ : St) (tg : Expr) (R : It -> Hp -> Prop) (itv : Value) (s2 : Shared) : Prop :=
 ∃ (it : Addr) (fp : List Addr) (tn : Nat -> Heap -> Prop) (J : It) (H' : Hp), itv = .ref it /\ Inv X pins σ H' s2 /\ Turn X.prog X.w X.K tg J fp it tn /\ tn 0 s2.heap /\ (∀ b ∈ fp, FpOk X pins H' b) /\ R J H'
def PI (X : Cx) (tg iter : Expr) (wi : TI) : Prop :=
 ∀ (pins : List (Addr × Obj)) (s : Shared) (σ : St) (H : Hp) (R : It -> Hp -> Prop), Inv X pins σ H s -> wi σ H R →
  wpAny (model X.prog X.w) X.A (eval iter X.env) (fun v s1 => wpAny (model X.prog X.w) X.A (pyIter v) (PIE X pins σ tg R) X.xe s1) X.xe s
theorem go_of {M : Model} {A : Around} {E : Value -> Shared -> Prop} {s : Shared} {tg : Expr} {it : Addr} {u : Value} {o : Obj} {n : String} {vs : Array Value} {Q : Unit -> Shared -> Prop} (ho : s.heap.get? it = some o) (hc : o.cls = .type n) (hd : o.data = .fields vs)
    (hn : ["enumerate", "zip", "dict_itemiterator", "dict_reverseitemiterator", "odict_iterator", "itertools.zip_longest", "itertools.pairwise"].contains n = false) (hQ : Q () s) : wpAny M A (letOwnedTupleGo tg (.ref it) u) Q E s := by
  unfold letOwnedTupleGo
  cases tg <;> first
    | exact wpAny_pure hQ
    | (cases u <;> first
        | exact wpAny_pure hQ
        | (refine wpAny_bind (wpAny_load ho ?_)
           rw [hc, hd]
           show wpAny M A (if (["enumerate", "zip", "dict_itemiterator", "dict_reverseitemiterator", "odict_iterator", "itertools.zip_longest", "itertools.pairwise"].contains n && vs[0]? == some (rawInt _)) = true then _ else _) Q E s
           rw [if_neg (by intro h; rw [hn, Bool.false_and] at h; cases h)]
           exact wpAny_pure hQ))
def Itl (K : PySem.W.Frag) (a : Addr) : It :=
 ⟨fun i H => ∃ xs x, SqL K H a xs /\ xs[i]? = some x, fun i H x H' => H' = H /\ ∀ xs, SqL K H a xs -> xs[i]? = some x, fun i H => ∃ xs, SqL K H a xs /\ xs.length <= i⟩
def Itt (K : PySem.W.Frag) (a : Addr) : It :=
 ⟨fun i H => ∃ xs x, SqT K H a xs /\ xs[i]? = some x, fun i H x H' => H' = H /\ ∀ xs, SqT K H a xs -> xs[i]? = some x, fun i H => ∃ xs, SqT K H a xs /\ xs.length <= i⟩
def Itr (lo : Int) (n : Nat) : It := ⟨fun i _ => i < n, fun i H x H' => H' = H /\ x = .int (lo + i), fun i _ => n <= i⟩
theorem turn_list {P : Program} {w : World} {K : PySem.W.Frag} {tg : Expr} (a it : Addr) : Turn P w K tg (Itl K a) [it] it (fun i h => h.IsListIter it a i) where
 mem := by simp
 obj := fun i h st b hb => by
  have e : b = it := by simpa using hb
  subst e
  obtain ⟨o, e, c, d⟩ := st
  exact ⟨o, e, fun v z => by rw [d] at z; cases z⟩
 keep := fun i h h' st k => st.at fun o e => k it (by simp) o e
 item := by
  intro X hP hw hK hc i pins s σ H E I hf st hg
  subst hP hw hK
  obtain ⟨xs, x, hq, hx⟩ := hg
  obtain ⟨its, rv, p, hz⟩ := I.list hq
  obtain ⟨u, hu, ru⟩ := rv.get hx
  obtain ⟨f0, f1, f2, f3, f4, f5⟩ := hf it (by simp)
  refine wpAny_pyNext_list_item st p.isList (x := u) (by simpa using hu) fun h' st' sb => ?_
  have I1 : Inv X pins σ H { s with heap := h' } := I.turned (t' := s.toks) (fun b o hb e => (sb.2 b hb).trans e) f0 f1 f3 f4 f5
  obtain ⟨o, e, c, d⟩ := id st'
  exact ⟨u, rfl, go_of (s := { s with heap := h' }) e c d (by decide) ⟨x, H, I1, ru, ⟨rfl, fun ys hy => by rw [I.list_inj hy hq]; exact hx⟩, st', fun b hb => (hf b hb).1⟩⟩
 done := by
  intro X hP hw hK hc i pins s σ H E I hf st hg
  subst hP hw hK
  obtain ⟨xs, hq, hx⟩ := hg
  obtain ⟨its, rv, p, hz⟩ := I.list hq
  obtain ⟨f0, f1, f2, f3, f4, f5⟩ := hf it (by simp)
  have hl := rv.length
  exact wpAny_pyNext_list_end (I.ok.hd hc) st p.isList (by simp; omega) fun h' eb => ⟨rfl, I.turned (t' := s.toks) (fun b o hb e => eb b o hb e) f0 f1 f3 f4 f5⟩
 self := fun _ _ _ _ _ st h => wpAny_pyIter_listiter st h
theorem turn_tuple {P : Program} {w : World} {K : PySem.W.Frag} {tg : Expr} (a it : Addr) : Turn P w K tg (Itt K a) [it] it (fun i h => h.IsTupleIter it a i) where
 mem := by simp
 obj := fun i h st b hb => by
  have e : b = it := by simpa using hb
  subst e
  obtain ⟨o, e, c, d⟩ := st
  exact ⟨o, e, fun v z => by rw [d] at z; cases z⟩
 keep := fun i h h' st k => st.at fun o e => k it (by simp) o e
 item := by
  intro X hP hw hK hc i pins s σ H E I hf st hg
  subst hP hw hK
  obtain ⟨xs, x, hq, hx⟩ := hg
  obtain ⟨its, rv, p, hz⟩ := I.tuple hq
  obtain ⟨u, hu, ru⟩ := rv.get hx
  obtain ⟨f0, f1, f2, f3, f4, f5⟩ := hf it (by simp)
  refine wpAny_pyNext_tuple_item st (show s.heap.IsTuple a its.toArray from p) (x := u) (by simpa using hu) fun h' st' sb => ?_
  have I1 : Inv X pins σ H { s with heap := h' } := I.turned (t' := s.toks) (fun b o hb e => (sb.2 b hb).trans e) f0 f1 f3 f4 f5
  obtain ⟨o, e, c, d⟩ := id st'
  exact ⟨u, rfl, go_of (s := { s with heap := h' }) e c d (by decide) ⟨x, H, I1, ru, ⟨rfl, fun ys hy => by rw [I.tuple_inj hy hq]; exact hx⟩, st', fun b hb => (hf b hb).1⟩⟩
 done := by
  intro X hP hw hK hc i pins s σ H E I hf st hg
  subst hP hw hK
  obtain ⟨xs, hq, hx⟩ := hg
  obtain ⟨its, rv, p, hz⟩ := I.tuple hq
  obtain ⟨f0, f1, f2, f3, f4, f5⟩ := hf it (by simp)
  have hl := rv.length
  exact wpAny_pyNext_tuple_end (I.ok.hd hc) st (show s.heap.IsTuple a its.toArray from p) (by simp; omega) fun h' eb => ⟨rfl, I.turned (t' := s.toks) (fun b o hb e => eb b o hb e) f0 f1 f3 f4 f5⟩
 self := fun _ _ _ _ _ st h => wpAny_pyIter_tupleiter st h
theorem turn_range {P : Program} {w : World} {K : PySem.W.Frag} {tg : Expr} (it : Addr) (lo : Int) (n : Nat) : Turn P w K tg (Itr lo n) [it] it (fun i h => IsRangeIter h it (lo + (i : Nat) * 1) ((n : Int) - (i : Nat)) 1) where
 mem := by simp
 obj := fun i h st b hb => by
  have e : b = it := by simpa using hb
  subst e
  exact ⟨_, st, fun v z => by
   have z' : Data.fields _ = Data.cell v := z
   cases z'⟩
 keep := fun i h h' st k => k it (by simp) _ st
 item := by
  intro X hP hw hK hc i pins s σ H E I hf st hg
  subst hP hw hK
  obtain ⟨f0, f1, f2, f3, f4, f5⟩ := hf it (by simp)
  have W := Walks.range (prog := X.prog) (w := X.w) (I.ok.hd hc) it lo 1 n
  refine W.item i s _ _ hg st fun v h' tk hv st' kk => ?_
  obtain ⟨t, rfl⟩ := hv
  have I1 : Inv X pins σ H { s with heap := h', toks := tk } := I.turned (fun b o hb e => kk b o (by simpa using hb) e) f0 f1 f3 f4 f5
  refine ⟨_, rfl, go_of (s := { s with heap := h', toks := tk }) (n := "range_iterator") st' rfl rfl (by decide) ⟨.int (lo + i), H, I1, ⟨t, ?_⟩, ⟨rfl, rfl⟩, st', fun b hb => (hf b hb).1⟩⟩
  rw [Int.mul_one]
 done := by
  intro X hP hw hK hc i pins s σ H E I hf st hg
  subst hP hw hK
  obtain ⟨f0, f1, f2, f3, f4, f5⟩ := hf it (by simp)
  exact wpAny_pyNext_range_end (I.ok.hd hc) st (by have : n <= i := hg; omega) fun h' eb => ⟨rfl, I.turned (t' := s.toks) (fun b o hb e => eb b o hb e) f0 f1 f3 f4 f5⟩
 self := fun _ _ _ _ _ st h => wpAny_pyIter_rangeiter st h
end L2
namespace L2
open PySem PySem.Spec PyProof.Rows
section
variable {X : Cx} {tg : Expr}
def iList (K : PySem.W.Frag) (tl : TE) : TI := fun σ H R => tl σ H fun x H1 => ∃ a, x = .ref a /\ (∃ xs, SqL K H1 a xs) /\ R (Itl K a) H1
def iTup (K : PySem.W.Frag) (tl : TE) : TI := fun σ H R => tl σ H fun x H1 => ∃ a, x = .ref a /\ (∃ xs, SqT K H1 a xs) /\ R (Itt K a) H1
theorem pi_list {l : Expr} {tl : TE} (hl : PE X l tl) : PI X tg l (iList X.K tl) := by
 intro pins s σ H R I h
 refine thn (hl pins s σ H _ I h) fun v s1 ⟨x, H1, I1, r1, q1⟩ => ?_
 obtain ⟨a, e, ⟨xs, hq⟩, q⟩ := q1
 subst e
 cases r1
 obtain ⟨its, rv, p, hz⟩ := I1.list hq
 refine wpAny_pyIter_list p.isList ?_
 refine ⟨s1.heap.objs.size, [s1.heap.objs.size], _, _, H1, rfl, I1.kept (t' := s1.toks) fun b o e => Heap.get?_push_of_some _ e, turn_list a _, ⟨_, Heap.get?_push_size _ rfl, rfl, rfl⟩, fun b hb => ?_, q⟩
 have e : b = s1.heap.objs.size := by simpa using hb
 subst e
 exact I1.fpOk (Nat.le_refl _) (I1.hok.fresh (Nat.le_refl _))
theorem pi_tup {l : Expr} {tl : TE} (hl : PE X l tl) : PI X tg l (iTup X.K tl) := by
 intro pins s σ H R I h
 refine thn (hl pins s σ H _ I h) fun v s1 ⟨x, H1, I1, r1, q1⟩ => ?_
 obtain ⟨a, e, ⟨xs, hq⟩, q⟩ := q1
 subst e
 cases r1
 obtain ⟨its, rv, p, hz⟩ := I1.tuple hq
 refine wpAny_pyIter_tuple (show s1.heap.IsTuple a its.toArray from p) ?_
 refine ⟨s1.heap.objs.size, [s1.heap.objs.size], _, _, H1, rfl, I1.kept (t' := s1.toks) fun b o e => Heap.get?_push_of_some _ e, turn_tuple a _, ⟨_, Heap.get?_push_size _ rfl, rfl, rfl⟩, fun b hb => ?_, q⟩
 have e : b = s1.heap.objs.size := by simpa using hb
 subst e
 exact I1.fpOk (Nat.le_refl _) (I1.hok.fresh (Nat.le_refl _))
theorem range_it {pins : List (Addr × Obj)} {σ : St} {H : Hp} {s : Shared} {R : It -> Hp -> Prop} {E : Value -> Shared -> Prop} {lo hi : Int} {t u v : Tok} {tk : Nat} (I : Inv X pins σ H s) (h1 : -(2 ^ 62) <= lo) (h2 : lo < 2 ^ 62) (h3 : -(2 ^ 62) <= hi) (h4 : hi < 2 ^ 62)
  (q : R (Itr lo (hi - lo).toNat) H) : wpAny (model X.prog X.w) X.A (pyIter (.ref s.heap.objs.size)) (PIE X pins σ tg R) E { s with heap := s.heap.push { cls := .type "range", data := .fields #[.int lo t, .int hi u, .int 1 v] }, toks := tk } := by
 refine wpAny_pyIter_range (IsRange.new ..) (small_one h1 h2 h3 h4) ?_
 have I1 : Inv X pins σ H { s with heap := s.heap.push { cls := .type "range", data := .fields #[.int lo t, .int hi u, .int 1 v] }, toks := tk } := I.kept fun b o e => Heap.get?_push_of_some _ e
 refine ⟨(s.heap.push { cls := .type "range", data := .fields #[.int lo t, .int hi u, .int 1 v] }).objs.size, [(s.heap.push { cls := .type "range", data := .fields #[.int lo t, .int hi u, .int 1 v] }).objs.size], _, _, H, rfl,
  I1.kept (t' := tk) fun b o e => Heap.get?_push_of_some _ e, turn_range _ lo (hi - lo).toNat, ?_, fun b hb => ?_, q⟩
 ·have e1 : lo + ((0 : Nat) : Int) * 1 = lo := by simp
  have e2 : (((hi - lo).toNat : Nat) : Int) - ((0 : Nat) : Int) = Builtin.Range.rangeSize lo hi 1 := by rw [rangeSize_one]; split <;> omega
  show IsRangeIter _ _ (lo + ((0 : Nat) : Int) * 1) ((((hi - lo).toNat : Nat) : Int) - ((0 : Nat) : Int)) 1
  rw [e1, e2]
  exact Heap.get?_push_size _ rfl
 ·have e : b = (s.heap.push { cls := .type "range", data := .fields #[.int lo t, .int hi u, .int 1 v] }).objs.size := by simpa using hb
  subst e
  exact I1.fpOk (Nat.le_refl _) (I1.hok.fresh (Nat.le_refl _))
def iRng1 (ta : TA) : TI := fun σ H R => ta σ H fun vs H1 => ∃ j : Int, vs = [.int j] /\ -(2 ^ 62) <= j /\ j < 2 ^ 62 /\ R (Itr 0 j.toNat) H1
theorem pi_range1 {a : Expr} {ta : TA} {p pos : Pos} (hg : Gl X "range") (hm : X.mg "range" = none) (ha : PA X [a] ta) (hs : starEach [a] X.env = [(false, eval a X.env)] := by rfl) : PI X tg (.Call (.Name "range" p) [a] [] pos) (iRng1 ta) := by
 intro pins s σ H R I h
 refine Call_ (ld_blt I hg hm boot_range (PyProof.Rows.callWith_type1 (thn (ha pos pins s σ H _ I h) fun us s1 ⟨vs, H1, I1, r1, q1⟩ => ?_) hs rfl))
 obtain ⟨j, e, q1, q2, q⟩ := q1
 subst e
 cases r1 with
 | cons r rr =>
  cases rr
  obtain ⟨t, rfl⟩ := r
  exact call_range_1 (range_it I1 (by omega) (by omega) q1 q2 (by simpa using q))
def tFor (wi : TI) (g : TG) (tb : TS) : TS := fun D σ H => wi σ H fun J H1 => ∃ W : Nat -> Nat -> St -> Hp -> Prop, (∃ m, W 0 m σ H1) /\ ∀ i m σ H, W i m σ H →
 (J.stop i H /\ D.nx σ H) \/ (J.go i H /\ ∃ N : St -> Hp -> Prop, (∀ σ' H', N σ' H' -> ∃ m', m' < m /\ W (i + 1) m' σ' H') /\ ∀ x H', J.yld i H x H' -> g x σ H' fun σ2 H2 => tb { D with nx := N, ct := N, bk := D.nx } σ2 H2)
def pinsAt (fp : List Addr) (h : Heap) : List (Addr × Obj) := fp.filterMap fun b => (h.get? b).map fun o => (b, o)
theorem mem_pinsAt {fp : List Addr} {h : Heap} {b : Addr} {o : Obj} (hb : b ∈ fp) (e : h.get? b = some o) : (b, o) ∈ pinsAt fp h := List.mem_filterMap.mpr ⟨b, hb, by rw [e]; rfl⟩
theorem of_pinsAt {fp : List Addr} {h : Heap} {p : Addr × Obj} (hp : p ∈ pinsAt fp h) : p.1 ∈ fp /\ h.get? p.1 = some p.2 := by
 obtain ⟨b, hb, e⟩ := List.mem_filterMap.mp hp
 cases q : h.get? b with
 | none => rw [q] at e; cases e
 | some o =>
  rw [q] at e
  have e' : (b, o) = p := Option.some.inj e
  subst e'
  exact ⟨hb, q⟩
theorem Inv.pinned {pins : List (Addr × Obj)} {σ : St} {H : Hp} {s : Shared} {fp : List Addr} (I : Inv X pins σ H s) (hf : ∀ b ∈ fp, FpOk X pins H b) (ho : ∀ b ∈ fp, ∃ o, s.heap.get? b = some o /\ ∀ v, o.data ≠ .cell v) : Inv X (pins ++ pinsAt fp s.heap) σ H s :=
 I.pins_of fun p hp => (List.mem_append.mp hp).elim (fun z => I.pin p (List.mem_append_right _ z)) fun z => by
  obtain ⟨hb, e⟩ := of_pinsAt z
  obtain ⟨f0, f1, f2, _⟩ := hf p.1 hb
  obtain ⟨o, e', d⟩ := ho p.1 hb
  rw [e] at e'; cases e'
  exact ⟨e, f0, f1, f2, d⟩
theorem Inv.unpinned {pins pl : List (Addr × Obj)} {σ : St} {H : Hp} {s : Shared} (I : Inv X (pins ++ pl) σ H s) : Inv X pins σ H s := I.pins_of fun p hp => I.pin p (List.mem_append_right _ (List.mem_append_left _ hp))
theorem ps_for {iter : Expr} {body : List Stmt} {wi : TI} {g : TG} {tb : TS} {pos : Pos} (hp : PassesOwn (model X.prog X.w) X.A X.env X.xe) (hc : X.calm = true) (hi : PI X tg iter wi) (hg : PG X tg g) (hb : PSs X body tb)
  (hs : ∀ x, foldedSetIterable iter X.env x = pure x := by intro _; rfl) : PS X (.For tg iter body [] pos) (tFor wi g tb) := by
 intro pins s σ H D I h
 refine wpAny_For (thn (hi pins s σ H _ I h) fun v s1 h1 => thn h1 fun itv s2 h2 => ?_) hs
 obtain ⟨it, fp, tn, J, H2, e, I2, T, st2, f2, W, ⟨m0, w0⟩, turn⟩ := h2
 subst e
 have stat : ∀ {H' : Hp}, (∀ b ∈ fp, H' b = none) -> ∀ b ∈ fp, FpOk X pins H' b := fun hn b hb => ⟨hn b hb, (f2 b hb).2⟩
 refine codeAny_forLoop_any (fun n s' => ∃ i σ' H', Inv X pins σ' H' s' /\ tn i s'.heap /\ (∀ b ∈ fp, H' b = none) /\ W i n σ' H') ?_ m0 ⟨0, σ, H2, I2, st2, fun b hb => (f2 b hb).1, w0⟩
 rintro n s3 ⟨i, σ3, H3, I3, st3, fr3, w3⟩
 rcases turn i n σ3 H3 w3 with ⟨stop, qn⟩ | ⟨go, N, hN, step⟩
 ·refine wpAny_passesOwn hp (thn (T.done X rfl rfl rfl hc i pins s3 σ3 H3 X.xe I3 (stat fr3) st3 stop) fun r s4 ⟨hr, I4⟩ => ?_)
  subst hr
  exact wpAny_execs_nil ⟨σ3, H3, I4, qn⟩
 ·refine wpAny_passesOwn hp (thn (T.item X rfl rfl rfl hc i pins s3 σ3 H3 X.xe I3 (stat fr3) st3 go) fun r s4 ⟨u, hr, h4⟩ => ?_)
  subst hr
  refine wpAny_passesOwn hp (thn h4 fun _ s5 ⟨x, H5, I5, r5, y5, st5, fr5⟩ => ?_)
  have I5' := I5.pinned (stat fr5) (T.obj _ _ st5)
  refine wpAny_passesOwn hp (thn (hg _ s5 σ3 H5 x u _ I5' r5 (step x H5 y5)) fun _ s6 ⟨σ6, H6, I6, q6⟩ => ?_)
  refine wpAny_passesOwn hp (thn (hb _ s6 σ6 H6 _ I6 q6) fun f s7 q7 => ?_)
  have again : ∀ {σ7 : St} {H7 : Hp}, Inv X (pins ++ pinsAt fp s5.heap) σ7 H7 s7 -> N σ7 H7 -> ∃ m, m < n /\ ∃ i σ' H', Inv X pins σ' H' s7 /\ tn i s7.heap /\ (∀ b ∈ fp, H' b = none) /\ W i m σ' H' := fun {σ7 H7} I7 n7 => by
   obtain ⟨m', hm, w7⟩ := hN σ7 H7 n7
   refine ⟨m', hm, i + 1, σ7, H7, I7.unpinned, T.keep _ _ _ st5 fun b hb o e => (I7.pin (b, o) (List.mem_append_right _ (List.mem_append_right _ (mem_pinsAt hb e)))).1, fun b hb => ?_, w7⟩
   obtain ⟨o, e, d⟩ := T.obj _ _ st5 b hb
   exact (I7.pin (b, o) (List.mem_append_right _ (List.mem_append_right _ (mem_pinsAt hb e)))).2.1
  cases f with
  | next => obtain ⟨σ7, H7, I7, n7⟩ := q7; exact again I7 n7
  | cont => obtain ⟨σ7, H7, I7, n7⟩ := q7; exact again I7 n7
  | brk => obtain ⟨σ7, H7, I7, q7⟩ := q7; exact ⟨σ7, H7, I7.unpinned, q7⟩
  | ret v => obtain ⟨x7, σ7, H7, I7, r7, q7⟩ := q7; exact ⟨x7, σ7, H7, I7.unpinned, r7, q7⟩
end
end L2
namespace L2
open PySem PySem.Spec PyProof.Rows
abbrev R2 := V -> V -> Hp -> VK -> Prop
def OpR (X : Cx) (f : Value -> Value -> Sem Value) (r : R2) : Prop :=
 ∀ (pins : List (Addr × Obj)) (s : Shared) (σ : St) (H : Hp) (x y : V) (v u : Value) (Q : VK), Inv X pins σ H s -> RelV x v -> RelV y u -> r x y H Q →
  wpAny (model X.prog X.w) X.A (f v u) (EP X pins σ Q) X.xe s
def UnR (X : Cx) (f : Value -> Sem Value) (r : V -> Hp -> VK -> Prop) : Prop :=
 ∀ (pins : List (Addr × Obj)) (s : Shared) (σ : St) (H : Hp) (x : V) (v : Value) (Q : VK), Inv X pins σ H s -> RelV x v -> r x H Q →
  wpAny (model X.prog X.w) X.A (f v) (EP X pins σ Q) X.xe s
def CallR (X : Cx) (f : Value) (r : List V -> Hp -> VK -> Prop) : Prop :=
 ∀ (pins : List (Addr × Obj)) (s : Shared) (σ : St) (H : Hp) (xs : List V) (us : List Value) (Q : VK), Inv X pins σ H s -> Vals xs us -> r xs H Q →
  wpAny (model X.prog X.w) X.A (call f us) (EP X pins σ Q) X.xe s
def TruR (X : Cx) (r : V -> Hp -> (Bool -> Hp -> Prop) -> Prop) : Prop :=
 ∀ (pins : List (Addr × Obj)) (s : Shared) (σ : St) (H : Hp) (x : V) (v : Value) (Q : Bool -> Hp -> Prop), Inv X pins σ H s -> RelV x v -> r x H Q →
  wpAny (model X.prog X.w) X.A (truthy v) (TP X pins σ Q) X.xe s
def tOp (r : R2) (ta tb : TE) : TE := fun σ H Q => ta σ H fun x H1 => tb σ H1 fun y H2 => r x y H2 Q
def tUn (r : V -> Hp -> VK -> Prop) (ta : TE) : TE := fun σ H Q => ta σ H fun x H1 => r x H1 Q
def rI (C : Int -> Int -> Prop) (g : Int -> Int -> V) : R2 := fun x y H Q => ∃ i j, x = .int i /\ y = .int j /\ C i j /\ Q (g i j) H
def rI0 (g : Int -> Int -> V) : R2 := fun x y H Q => ∃ i j, x = .int i /\ y = .int j /\ Q (g i j) H
def rU (g : Int -> V) : V -> Hp -> VK -> Prop := fun x H Q => ∃ i, x = .int i /\ Q (g i) H
section
variable {X : Cx} {a b c : Expr} {ta tb tc : TE} {pos : Pos}
theorem binT (ha : PE X a ta) (hb : PE X b tb) {pins : List (Addr × Obj)} {s : Shared} {σ : St} {H : Hp} {R : V -> V -> Hp -> Prop} (I : Inv X pins σ H s)
  (h : ta σ H fun x H1 => tb σ H1 fun y H2 => R x y H2) {Q : Value -> Shared -> Prop} {f : Value -> Value -> Sem Value}
  (hf : ∀ v u s2 x y H2, Inv X pins σ H2 s2 -> RelV x v -> RelV y u -> R x y H2 -> wpAny (model X.prog X.w) X.A (f v u) Q X.xe s2) :
  wpAny (model X.prog X.w) X.A (eval a X.env) (fun v s₁ => wpAny (model X.prog X.w) X.A (eval b X.env) (fun u s₂ => wpAny (model X.prog X.w) X.A (f v u) Q X.xe s₂) X.xe s₁) X.xe s := by
 refine thn (ha pins s σ H _ I h) fun v s1 ⟨x, H1, I1, r1, q1⟩ => ?_
 refine thn (hb pins s1 σ H1 _ I1 q1) fun u s2 ⟨y, H2, I2, r2, q2⟩ => ?_
 exact hf v u s2 x y H2 I2 r1 r2 q2
theorem pe_op {op : Operator} {r : R2} (ho : OpR X (binaryOp op) r) (ha : PE X a ta) (hb : PE X b tb) : PE X (.BinOp a op b pos) (tOp r ta tb) := by
 intro pins s σ H Q I h
 exact wpAny_BinOp (binT ha hb I h fun v u s2 x y H2 I2 rx ry q => ho pins s2 σ H2 x y v u Q I2 rx ry q)
theorem pe_un {op : UnaryOp} {r : V -> Hp -> VK -> Prop} (ho : UnR X (unaryOp op) r) (ha : PE X a ta) : PE X (.UnaryOp op a pos) (tUn r ta) := by
 intro pins s σ H Q I h
 exact UnaryOp_ (thn (ha pins s σ H _ I h) fun v s1 ⟨x, H1, I1, r1, q1⟩ => ho pins s1 σ H1 x v Q I1 r1 q1)
theorem opI {f : Value -> Value -> Sem Value} {C : Int -> Int -> Prop} {g : Int -> Int -> Int}
  (rule : ∀ (i j : Int) (t u : Tok) (s : Shared) (Q : Value -> Shared -> Prop) (E : Value -> Shared -> Prop), C i j -> Q (.int (g i j) s.toks) { s with toks := s.toks + 1 } -> wpAny (model X.prog X.w) X.A (f (.int i t) (.int j u)) Q E s) :
  OpR X f (rI C fun i j => .int (g i j)) := by
 intro pins s σ H x y v u Q I rx ry h
 obtain ⟨i, j, rfl, rfl, hc, q⟩ := h
 obtain ⟨t, rfl⟩ := rx
 obtain ⟨t', rfl⟩ := ry
 exact rule i j t t' s _ _ hc ⟨.int (g i j), H, I.tok _, ⟨_, rfl⟩, q⟩
theorem opI0 {f : Value -> Value -> Sem Value} {g : Int -> Int -> Int}
  (rule : ∀ (i j : Int) (t u : Tok) (s : Shared) (Q : Value -> Shared -> Prop) (E : Value -> Shared -> Prop), Q (.int (g i j) s.toks) { s with toks := s.toks + 1 } -> wpAny (model X.prog X.w) X.A (f (.int i t) (.int j u)) Q E s) :
  OpR X f (rI0 fun i j => .int (g i j)) := by
 intro pins s σ H x y v u Q I rx ry h
 obtain ⟨i, j, rfl, rfl, q⟩ := h
 obtain ⟨t, rfl⟩ := rx
 obtain ⟨t', rfl⟩ := ry
 exact rule i j t t' s _ _ ⟨.int (g i j), H, I.tok _, ⟨_, rfl⟩, q⟩
theorem opB0 {f : Value -> Value -> Sem Value} {g : Int -> Int -> Bool}
  (rule : ∀ (i j : Int) (t u : Tok) (s : Shared) (Q : Value -> Shared -> Prop) (E : Value -> Shared -> Prop), Q (.bool (g i j)) s -> wpAny (model X.prog X.w) X.A (f (.int i t) (.int j u)) Q E s) :
  OpR X f (rI0 fun i j => .bl (g i j)) := by
 intro pins s σ H x y v u Q I rx ry h
 obtain ⟨i, j, rfl, rfl, q⟩ := h
 obtain ⟨t, rfl⟩ := rx
 obtain ⟨t', rfl⟩ := ry
 exact rule i j t t' s _ _ ⟨.bl (g i j), H, I, rfl, q⟩
def CMul (i j : Int) : Prop := (-(2 ^ 64) < i /\ i < 2 ^ 64) \/ (-(2 ^ 64) < j /\ j < 2 ^ 64)
theorem CMul.ok {i j : Int} (h : CMul i j) : IntMulOk i j := by
 rcases h with ⟨h1, h2⟩ | ⟨h1, h2⟩
 ·exact .of_left (intBits_le_64 h1 h2)
 ·exact .of_right (intBits_le_64 h1 h2)
theorem op_add : OpR X (binaryOp .Add) (rI0 fun i j => .int (i + j)) := opI0 fun _ _ _ _ _ _ _ q => add_int q
theorem op_sub : OpR X (binaryOp .Sub) (rI0 fun i j => .int (i - j)) := opI0 fun _ _ _ _ _ _ _ q => sub_int q
theorem op_mul : OpR X (binaryOp .Mult) (rI CMul fun i j => .int (i * j)) := opI fun _ _ _ _ _ _ _ hc q => mul_int q hc.ok
theorem op_modN : OpR X (binaryOp .Mod) (rI (fun _ j => j ≠ 0) fun i j => .int (i.fmod j)) := opI fun _ _ _ _ _ _ _ hc q => mod_int' hc q
theorem unI {f : Value -> Sem Value} {g : Int -> Int}
  (rule : ∀ (i : Int) (t : Tok) (s : Shared) (Q : Value -> Shared -> Prop) (E : Value -> Shared -> Prop), Q (.int (g i) s.toks) { s with toks := s.toks + 1 } -> wpAny (model X.prog X.w) X.A (f (.int i t)) Q E s) :
  UnR X f (rU fun i => .int (g i)) := by
 intro pins s σ H x v Q I rx h
 obtain ⟨i, rfl, q⟩ := h
 obtain ⟨t, rfl⟩ := rx
 exact rule i t s _ _ ⟨.int (g i), H, I.tok _, ⟨_, rfl⟩, q⟩
theorem un_neg : UnR X (unaryOp .USub) (rU fun i => .int (-i)) := unI fun _ _ _ _ _ q => neg_int q
end
section
variable {X : Cx} {a b c : Expr} {ta tb tc : TE} {pos : Pos}
theorem op_lt : OpR X (compareOp .Lt) (rI0 fun i j => .bl (decide (i < j))) := opB0 fun _ _ _ _ _ _ _ q => lt_int q
theorem op_gt : OpR X (compareOp .Gt) (rI0 fun i j => .bl (decide (j < i))) := opB0 fun _ _ _ _ _ _ _ q => gt_int q
theorem OpR.or {f : Value -> Value -> Sem Value} {r r' : R2} (h : OpR X f r) (h' : OpR X f r') : OpR X f (fun x y H Q => r x y H Q \/ r' x y H Q) := by
 intro pins s σ H x y v u Q I rx ry q
 rcases q with q | q
 ·exact h pins s σ H x y v u Q I rx ry q
 ·exact h' pins s σ H x y v u Q I rx ry q
theorem nomark (b : Expr) {op : CmpOp} (h : op ≠ .In := by decide) (h2 : op ≠ .NotIn := by decide) : behindInMarks op b = false := by
 have e1 : (op == CmpOp.In) = false := by cases op <;> first | rfl | exact absurd rfl h
 have e2 : (op == CmpOp.NotIn) = false := by cases op <;> first | rfl | exact absurd rfl h2
 cases b <;> simp [behindInMarks, e1, e2]
theorem pe_cmpR {op : CmpOp} {r : R2} (ho : OpR X (compareOp op) r) (ha : PE X a ta) (hb : PE X b tb) (hm : behindInMarks op b = false) : PE X (.Compare a [op] [b] pos) (tOp r ta tb) := by
 intro pins s σ H Q I h
 exact wpAny_Compare1 (binT ha hb I h fun v u s2 x y H2 I2 rx ry q => ho pins s2 σ H2 x y v u Q I2 rx ry q) hm
def tTest (t : TE) : TT := fun σ H Q => t σ H fun x H' => ∃ k, x = .bl k /\ Q k H'
theorem pt_cmpR {op : CmpOp} {r : R2} (ho : OpR X (compareOp op) r) (ha : PE X a ta) (hb : PE X b tb) (hm : behindInMarks op b = false) : PT X (.Compare a [op] [b] pos) (tTest (tOp r ta tb)) := by
 intro pins s σ H Q I h
 refine wpAny_isTrue_Compare1 (thn (ha pins s σ H _ I h) fun v s1 ⟨x, H1, I1, r1, q1⟩ => thn (hb pins s1 σ H1 _ I1 q1) fun u s2 ⟨y, H2, I2, r2, q2⟩ =>
  thn (ho pins s2 σ H2 x y v u _ I2 r1 r2 q2) fun c s3 ⟨z, H3, I3, r3, k, e, q3⟩ => ?_) hm
 subst e
 cases r3
 exact wpAny_truthy_bool ⟨H3, I3, q3⟩
def TruV (K : PySem.W.Frag) (x : V) (H : Hp) (k : Bool) : Prop :=
 match x with
 | .non => k = false
 | .bl b => k = b
 | .int i => k = (i != 0)
 | .str y => y.length <= sizeLine /\ k = ((y.length : Int) != 0)
 | .byt y => y.size <= sizeLine /\ k = ((y.size : Int) != 0)
 | .ref p => (∃ xs, SqL K H p xs /\ k = !xs.isEmpty) \/ (∃ xs, SqT K H p xs /\ k = !xs.isEmpty) \/ ∃ kvs, H p = some (.dK kvs) /\ k = !kvs.isEmpty
 | _ => False
theorem isEmpty_kv {κ : Type} {kvs : List (κ × V)} {vs : List (κ × Value)} (r : KV kvs vs) : (!vs.isEmpty) = !kvs.isEmpty := by
 cases r <;> rfl
theorem isEmpty_of {xs : List V} {its : List Value} (r : Vals xs its) : (!its.toArray.isEmpty) = !xs.isEmpty := by
 cases r <;> simp
theorem line63 : (sizeLine : Nat) < 2 ^ 63 := by rw [sizeLine_eq]; decide
theorem tru_ok : TruR X (fun x H Q => ∃ k, TruV X.K x H k /\ Q k H) := by
 intro pins s σ H x v Q I rx h
 obtain ⟨k, e, q⟩ := h
 have hl := line63
 have hs : sizeLine = 16777216 := sizeLine_eq
 cases x with
 | non =>
  cases rx
  have e' : k = false := e
  subst e'
  exact truthy_none ⟨H, I, q⟩
 | bl b =>
  cases rx
  have e' : k = b := e
  subst e'
  exact wpAny_truthy_bool ⟨H, I, q⟩
 | int i =>
  obtain ⟨t, rfl⟩ := rx
  have e' : k = (i != 0) := e
  subst e'
  exact PySem.P.truthy_int ⟨H, I, q⟩
 | str y =>
  obtain ⟨t, rfl⟩ := rx
  obtain ⟨hy, e'⟩ : y.length <= sizeLine /\ k = ((y.length : Int) != 0) := e
  subst e'
  exact PySem.P.truthy_str (by omega) ⟨H, I.tok _, q⟩
 | byt y =>
  obtain ⟨t, rfl⟩ := rx
  obtain ⟨hy, e'⟩ : y.size <= sizeLine /\ k = ((y.size : Int) != 0) := e
  subst e'
  exact PySem.W.truthy_bytes (by omega) ⟨H, I.tok _, q⟩
 | ref p =>
  cases rx
  have e' : (∃ xs, SqL X.K H p xs /\ k = !xs.isEmpty) \/ (∃ xs, SqT X.K H p xs /\ k = !xs.isEmpty) \/ ∃ kvs, H p = some (.dK kvs) /\ k = !kvs.isEmpty := e
  rcases e' with ⟨xs, hx, e'⟩ | ⟨xs, hx, e'⟩ | ⟨kvs, hx, e'⟩
  ·subst e'
   obtain ⟨its, r, pl, hz⟩ := I.list hx
   have hlen := r.length
   exact wpAny_truthy_list pl.isList (by simp only [List.size_toArray]; omega) ⟨H, I.tok _, by rw [isEmpty_of r]; exact q⟩
  ·subst e'
   obtain ⟨its, r, pl, hz⟩ := I.tuple hx
   have hlen := r.length
   exact truthy_tuple pl (by simp only [List.size_toArray]; omega) ⟨H, I.tok _, by rw [isEmpty_of r]; exact q⟩
  ·subst e'
   obtain ⟨hz, hS, vs, r, m⟩ : kvs.length <= sizeLine /\ (p == sysModules) = false /\ ∃ vs, KV kvs vs /\ s.heap.DictOf (mixKind X.prog X.w) p vs := I.hok p _ hx
   have hlen : kvs.length = vs.length := Paired.length r
   exact wpAny_truthy_dict hS m (by omega) ⟨H, I.tok _, by rw [isEmpty_kv r]; exact q⟩
 | _ => exact (show False from e).elim
theorem pt_truth (ha : PE X a ta) (he : ∀ whole, isTrue a X.env whole = (do let v <- whole; standAt a.pos; holding [v] (truthy v))) :
  PT X a (fun σ H Q => ta σ H fun x H' => ∃ k, TruV X.K x H' k /\ Q k H') := by
 intro pins s σ H Q I h
 exact isTrue_plain (thn (ha pins s σ H _ I h) fun v s1 ⟨x, H1, I1, r1, q1⟩ => tru_ok pins s1 σ H1 x v Q I1 r1 q1) (he _)
theorem op_add_str : OpR X (binaryOp .Add) (fun x y H Q => ∃ i j, x = .str i /\ y = .str j /\ i.length + j.length <= sizeLine /\ Q (.str (i ++ j)) H) := by
 intro pins s σ H x y v u Q I rx ry h
 obtain ⟨i, j, rfl, rfl, hz, q⟩ := h
 obtain ⟨t, rfl⟩ := rx
 obtain ⟨t', rfl⟩ := ry
 exact add_str (fun t' tk => ⟨.str (i ++ j), H, I.tok _, ⟨_, rfl⟩, q⟩) hz
theorem vals1 {x : V} {us : List Value} (r : Vals [x] us) : ∃ u, us = [u] /\ RelV x u := by
 cases r with
 | cons r1 r2 => cases r2; exact ⟨_, rfl, r1⟩
theorem vals2 {x y : V} {us : List Value} (r : Vals [x, y] us) : ∃ u w', us = [u, w'] /\ RelV x u /\ RelV y w' := by
 cases r with
 | cons r1 r2 =>
  cases r2 with
  | cons r3 r4 => cases r4; exact ⟨_, _, rfl, r1, r3⟩
theorem call_max2 (hc : X.calm = true) : CallR X (.builtin "max") (fun xs H Q => ∃ i j, xs = [.int i, .int j] /\ Q (.int (if j > i then j else i)) H) := by
 intro pins s σ H xs us Q I r h
 obtain ⟨i, j, rfl, q⟩ := h
 obtain ⟨u, w', rfl, ⟨t, rfl⟩, ⟨t', rfl⟩⟩ := vals2 r
 refine max_two_ints (I.ok.hd hc) fun h' tk k => ⟨_, H, I.kept k, ?_, q⟩
 by_cases hj : j > i
 ·rw [if_pos hj, if_pos hj]; exact ⟨_, rfl⟩
 ·rw [if_neg hj, if_neg hj]; exact ⟨_, rfl⟩
theorem call_int1 : CallR X (.type "int") (fun xs H Q => (∃ i, xs = [.int i] /\ Q (.int i) H) \/ ∃ k, xs = [.bl k] /\ Q (.int (if k then 1 else 0)) H) := by
 intro pins s σ H xs us Q I r h
 rcases h with ⟨i, rfl, q⟩ | ⟨k, rfl, q⟩
 ·obtain ⟨u, rfl, t, rfl⟩ := vals1 r
  exact call_int_int ⟨.int i, H, I, ⟨_, rfl⟩, q⟩
 ·obtain ⟨u, rfl, r1⟩ := vals1 r
  cases r1
  exact call_int_bool ⟨.int (if k then 1 else 0), H, I.tok _, ⟨_, rfl⟩, q⟩
end
end L2
namespace L2
open PySem PySem.Spec PyProof.Rows
structure ObjM (h : Heap) (x dx C : Addr) (mA : Str -> Option Value) : Prop where
 obj : h.get? x = some (PySem.W.instObj C dx)
 ns : h.Ns1 dx mA
 ne : dx ≠ x
theorem lookIn_ns {h : Heap} {dx : Addr} {mA : Str -> Option Value} (n : h.Ns1 dx mA) : ∃ od, h.get? dx = some od /\ ∀ name, PySem.W.lookIn name od = some (mA name) := by
 obtain ⟨o, es, ep, ho, hd, hk, _, hm⟩ := n
 refine ⟨o, ho, fun name => ?_⟩
 have e := hm name
 unfold nsFind findBy at e
 rw [<- Array.find?_toList] at e
 unfold PySem.W.lookIn
 rw [hd]
 dsimp only
 split
 ·rename_i y q
  rw [q] at e
  exact congrArg some e
 ·rename_i q
  rw [q] at e
  have a : es.toList.any (·.refKey) = false := by
   rw [List.any_eq_false]
   intro y hy
   obtain ⟨z, t, hkey⟩ := hk y (Array.mem_toList_iff.mp hy)
   simp [DictEntry.refKey, hkey]
  have a' : ¬ es.toList.any (·.refKey) = true := by rw [a]; exact Bool.false_ne_true
  rw [if_neg a']
  exact congrArg some e
theorem ObjM.look {h : Heap} {x dx C : Addr} {mA : Str -> Option Value} (I : ObjM h x dx C mA) : ∃ od, PySem.W.InstAt h x (PySem.W.instObj C dx) C (some od) /\ ∀ name, PySem.W.lookIn name od = some (mA name) :=
 let ⟨od, ho, hl⟩ := lookIn_ns I.ns
 ⟨od, ⟨I.obj, rfl, rfl, ho⟩, hl⟩
section
variable {prog : Program} {w : World} {A : Around} {E : Value -> Shared -> Prop} {s : Shared} {K : PySem.W.Frag} {x dx C f : Addr} {mA : Str -> Option Value} {name : Str} {v : Value}
theorem get_map {expr : Bool} {Q : Value -> Shared -> Prop} (X : K.In s.heap) (I : ObjM s.heap x dx C mA) (hg : PySem.W.plainGet K C name = true) (hh : PySem.W.hasDictIn K C = true)
  (ha : PySem.W.findIn K (.ref C) name = some none) (hv : mA name = some v) (hv' : PySem.W.handedIn v = true) (h : Q v { s with toks := s.toks + 1 }) :
  wpAny (model prog w) A (getAttr (.ref x) name expr) Q E s := by
 obtain ⟨od, J, hl⟩ := I.look
 exact PySem.W.get_value X J (PySem.W.plainGet_of hg).1 (PySem.W.findObj_own hh ha rfl (by rw [hl, hv])) hv' h
theorem set_map {ns : List Str} {Q : Unit -> Shared -> Prop} (X : K.In s.heap) (I : ObjM s.heap x dx C mA)
  (hs : PySem.W.findIn K (.ref C) "__setattr__" = some (some (.builtin "object.__setattr__"))) (hp : PySem.W.plainOver K C = true) (ht : PySem.W.takerIn K C name = some none) (hh : PySem.W.hasDictIn K C = true)
  (hw : PySem.Within mA ns) (hsz : ns.length <= sizeLine)
  (h : ∀ h', ObjM h' x dx C (fun y => if y = name then some v else mA y) -> Heap.SameBut dx s.heap h' -> Q () { s with heap := h', toks := s.toks + 2 }) :
  wpAny (model prog w) A (setAttr (.ref x) name v) Q E s := by
 obtain ⟨od, J, hl⟩ := I.look
 refine PySem.W.set_plain X J hs (PySem.W.osa_open (s := { s with toks := s.toks + 1 }) (r := none) X J hp ht fun b => ?_)
 obtain ⟨cd, hc, hd'⟩ := PySem.W.any_some hh
 have hx : s.heap.get? x = some ⟨.ref C, some dx, .plain, #[]⟩ := I.obj
 refine wpAny_bind (wpAny_pure (wpAny_bind (wpAny_bind (wpAny_loadPart hx (wpAny_bind (PySem.W.Looks.here (s := { s with toks := s.toks + 1 }) (PySem.W.looks_clsIn X hc) ?_))))))
 rw [hd']
 refine wpAny_pure (a := some dx) (wpAny_bind (wpAny_pure (wpAny_bind ?_)))
 refine wpAny_nsSet1 (s := { s with toks := s.toks + 1 }) I.ns fun h' hn2 hs2 => ?_
 obtain ⟨oD, esD, epD, hoD, hdD, hcD⟩ := hn2.count (PySem.Within.cons name v hw)
 refine wpAny_bind (wpAny_lookBehind hoD (by rw [hdD]; exact pastItsLine_dict (Nat.le_trans hcD (by rw [List.length_cons]; omega))) ?_)
 exact wpAny_pure (h _ ⟨(hs2.2 _ (Ne.symm I.ne)).trans I.obj, hn2, I.ne⟩ hs2)
theorem make_map {R : Result -> Shared -> Prop} {vs : List Value} {kw : List (Str × Value)} (X : K.In s.heap) (hm : PySem.W.makesIn K C = true)
  (hi : PySem.W.findIn K (.ref C) "__init__" = some (some (.ref f))) (hf : PySem.W.typeIn K (.ref f) = some (.type "function"))
  (h : codeAny (model prog w) (A.under (.builtin "type.__call__" ⟨.ref C :: vs, kw⟩)) (.call (.ref f) ⟨.ref (s.heap.objs.size + 1) :: vs, kw⟩) (PySem.W.InitBack (s.heap.objs.size + 1) R)
   { s with heap := (s.heap.push PySem.W.emptyDict).push (PySem.W.instObj C s.heap.objs.size) }) :
  codeAny (model prog w) A (.call (.ref C) ⟨vs, kw⟩) R s := by
 obtain ⟨hh, g, d, t, os⟩ := s
 exact PySem.W.make_core (PySem.W.makes_of X hm) (PySem.W.looks_findIn X hi) (fun self => PySem.W.bind_fn X self hf) (.inl rfl) h
end
def putF (f : Str) (v : V) : List (Str × V) -> List (Str × V)
 | [] => [(f, v)]
 | (g, x) :: r => if g = f then (g, v) :: r else (g, x) :: putF f v r
theorem lookup_putF (f g : Str) (v : V) : ∀ fs : List (Str × V), (putF f v fs).lookup g = if g = f then some v else fs.lookup g
  | [] => by
    show List.lookup g [(f, v)] = _
    by_cases h : g = f
    · have hb : (g == f) = true := beq_iff_eq.mpr h
      simp only [List.lookup, hb, if_pos h]
    · have hb : (g == f) = false := beq_eq_false_iff_ne.mpr h
      simp only [List.lookup, hb, if_neg h]
  | (k, x) :: r => by
    have ih := lookup_putF f g v r
    rw [show putF f v ((k, x) :: r) = (if k = f then (k, v) :: r else (k, x) :: putF f v r) from rfl]
    by_cases hk : k = f
    · rw [if_pos hk]
      by_cases h : g = k
      · have hb : (g == k) = true := beq_iff_eq.mpr h
        simp only [List.lookup, hb, if_pos (h.trans hk)]
      · have hb : (g == k) = false := beq_eq_false_iff_ne.mpr h
        simp only [List.lookup, hb, if_neg (fun e : g = f => h (e.trans hk.symm))]
    · rw [if_neg hk]
      by_cases h : g = k
      · have hb : (g == k) = true := beq_iff_eq.mpr h
        simp only [List.lookup, hb, if_neg (fun e : g = f => hk (h.symm.trans e))]
      · have hb : (g == k) = false := beq_eq_false_iff_ne.mpr h
        simp only [List.lookup, hb]
        exact ih
theorem keys_putF (f : Str) (v : V) : ∀ fs : List (Str × V), f ∈ (putF f v fs).map (·.1) /\ ∀ g, g ∈ fs.map (·.1) -> g ∈ (putF f v fs).map (·.1)
  | [] => ⟨by simp [putF], fun g h => by simp at h⟩
  | (k, x) :: r => by
    obtain ⟨i1, i2⟩ := keys_putF f v r
    rw [show putF f v ((k, x) :: r) = (if k = f then (k, v) :: r else (k, x) :: putF f v r) from rfl]
    by_cases hk : k = f
    · rw [if_pos hk]
      subst hk
      exact ⟨by simp, fun g h => by simpa using h⟩
    · rw [if_neg hk]
      refine ⟨?_, fun g h => ?_⟩
      · rw [List.map_cons]
        exact List.mem_cons_of_mem _ i1
      · rw [List.map_cons] at h ⊢
        rcases List.mem_cons.mp h with e | e
        · exact List.mem_cons.mpr (.inl e)
        · exact List.mem_cons_of_mem _ (i2 g e)
theorem length_putF (f : Str) (v : V) : ∀ fs : List (Str × V), (putF f v fs).length <= fs.length + 1
 | [] => by simp [putF]
 | (k, x) :: r => by
  have ih := length_putF f v r
  rw [show putF f v ((k, x) :: r) = (if k = f then (k, v) :: r else (k, x) :: putF f v r) from rfl]
  by_cases hk : k = f
  ·rw [if_pos hk, List.length_cons, List.length_cons]; omega
  ·rw [if_neg hk, List.length_cons, List.length_cons]; omega
theorem RelO.some_of {v : V} {o : Option Value} (r : RelO (some v) o) : ∃ u, o = some u /\ RelV v u := by
 cases o with
 | none => exact (show False from r).elim
 | some u => exact ⟨u, rfl, r⟩
theorem handed_of {v : V} {u : Value} (r : RelV v u) : PySem.W.handedIn u = true := by
 cases v with
 | non => cases (show u = Value.none from r); rfl
 | bl b => cases (show u = Value.bool b from r); rfl
 | int i => obtain ⟨t, e⟩ := (show ∃ t, u = Value.int i t from r); cases e; rfl
 | str x => obtain ⟨t, e⟩ := (show ∃ t, u = Value.str x t from r); cases e; rfl
 | byt b => obtain ⟨t, e⟩ := (show ∃ t, u = Value.bytes b t from r); cases e; rfl
 | flt b => obtain ⟨t, e⟩ := (show ∃ t, u = Value.float b t from r); cases e; rfl
 | ref a => cases (show u = Value.ref a from r); rfl
 | ty n => cases (show u = Value.type n from r); rfl
section
variable {P : Program} {w : World} {H H' : Hp} {h h' : Heap} {a C dx : Addr} {fs fs' : List (Str × V)}
theorem ins_get (hok : HOk P w H h) (e : H a = some (.ins C dx fs)) : ∃ mA, ObjM h a dx C mA /\ (∀ f, RelO (fs.lookup f) (mA f)) /\ PySem.Within mA (fs.map (·.1)) /\ fs.length <= 1000 /\ H dx = some (.own a) := by
 obtain ⟨d, z, ne, ob, mA, n, r, q⟩ := (show ObjOk P w H h a (.ins C dx fs) from hok a _ e)
 exact ⟨mA, ⟨ob, n, ne⟩, r, q, z, d⟩
end
structure Cls (K : PySem.W.Frag) (C : Addr) : Prop where
 pg : PySem.W.plainGet K C Str.empty = true
 hd : PySem.W.hasDictIn K C = true
 po : PySem.W.plainOver K C = true
 sa : PySem.W.findIn K (.ref C) "__setattr__" = some (some (.builtin "object.__setattr__"))
theorem Cls.get {K : PySem.W.Frag} {C : Addr} (c : Cls K C) (f : Str) : PySem.W.plainGet K C f = true := c.pg
def NoAttr (K : PySem.W.Frag) (C : Addr) (f : Str) : Prop := PySem.W.findIn K (.ref C) f = some none
theorem NoAttr.taker {K : PySem.W.Frag} {C : Addr} {f : Str} (n : NoAttr K C f) : PySem.W.takerIn K C f = some none := by
 unfold PySem.W.takerIn
 rw [show PySem.W.findIn K (.ref C) f = some none from n]
 rfl
section
variable {X : Cx} {pins : List (Addr × Obj)} {σ : St} {H : Hp} {s : Shared} {a C dx : Addr} {fs : List (Str × V)} {f : Str} {v : V} {A : Around} {E : Value -> Shared -> Prop}
theorem getattr_ok {b : Bool} {Q : Value -> Shared -> Prop} (I : Inv X pins σ H s) (e : H a = some (.ins C dx fs)) (c : Cls X.K C) (n : NoAttr X.K C f) (l : fs.lookup f = some v)
  (h : ∀ u s', Inv X pins σ H s' -> RelV v u -> Q u s') : wpAny (model X.prog X.w) A (getAttr (.ref a) f b) Q E s := by
 obtain ⟨mA, O, r, _, _, _⟩ := ins_get I.hok e
 obtain ⟨u, hu, ru⟩ := RelO.some_of (v := v) (o := mA f) (by rw [<- l]; exact r f)
 exact get_map I.kIn O (c.get f) c.hd n hu (handed_of ru) (h u _ (I.tok _) ru)
theorem setattr_ok {y : V} {u : Value} {Q : Unit -> Shared -> Prop} (I : Inv X pins σ H s) (e : H a = some (.ins C dx fs)) (c : Cls X.K C) (n : NoAttr X.K C f) (hl : fs.length < 1000) (ry : RelV y u)
  (h : ∀ s', Inv X pins σ (upd H a (.ins C dx (putF f y fs))) s' -> Q () s') : wpAny (model X.prog X.w) A (setAttr (.ref a) f u) Q E s := by
 obtain ⟨mA, O, r, wi, _, ho⟩ := ins_get I.hok e
 have hz : (fs.map (·.1)).length <= sizeLine := by rw [List.length_map, sizeLine_eq]; omega
 refine set_map I.kIn O c.sa c.po n.taker c.hd wi hz fun h' O' sb => h _ ?_
 have hd : ∃ o, h'.get? dx = some o := let ⟨o, _, _, e', _⟩ := O'.ns; ⟨o, e'⟩
 refine I.write (x := a) (e := dx) (by rw [e]; exact True.intro) (.inr ho) (fun b q hb z => (sb.2 b hb).trans z) hd ?_
 refine ⟨by rw [upd_ne O.ne]; exact ho, ?_, O.ne, O'.obj, _, O'.ns, fun g => ?_, fun g hg => ?_⟩
 ·have := length_putF f y fs; omega
 ·show RelO ((putF f y fs).lookup g) (if g = f then some u else mA g)
  rw [lookup_putF]
  by_cases q : g = f
  ·rw [if_pos q, if_pos q]; exact ry
  ·rw [if_neg q, if_neg q]; exact r g
 ·by_cases q : g = f
  ·rw [q]; exact (keys_putF f y fs).1
  ·refine (keys_putF f y fs).2 g (wi g fun z => hg ?_)
   show (if g = f then some u else mA g) = none
   rw [if_neg q]; exact z
theorem Inv.made (I : Inv X pins σ H s) : Inv X pins σ (upd (upd H s.heap.objs.size (.own (s.heap.objs.size + 1))) (s.heap.objs.size + 1) (.ins C s.heap.objs.size []))
  { s with heap := (s.heap.push PySem.W.emptyDict).push (PySem.W.instObj C s.heap.objs.size) } := by
 have e1 : (s.heap.push PySem.W.emptyDict).get? s.heap.objs.size = some PySem.W.emptyDict := Heap.get?_push_size s.heap rfl
 have e2 : ((s.heap.push PySem.W.emptyDict).push (PySem.W.instObj C s.heap.objs.size)).get? (s.heap.objs.size + 1) = some (PySem.W.instObj C s.heap.objs.size) := by
  have := Heap.get?_push_size (s.heap.push PySem.W.emptyDict) (o := PySem.W.instObj C s.heap.objs.size) rfl
  rwa [Heap.size_push] at this
 have e3 : (s.heap.push PySem.W.emptyDict).Ns s.heap.objs.size (fun _ => none) := ⟨PySem.W.emptyDict, #[], _, e1, rfl, (fun e he => absurd he (by simp)), fun _ => rfl⟩
 have I1 := I.laid (a := s.heap.objs.size) (o := .own (s.heap.objs.size + 1)) (h' := s.heap.push PySem.W.emptyDict) (t' := s.toks) (fun b u q => Heap.get?_push_of_some _ q) (Nat.le_refl _) ⟨_, e1⟩
 refine I1.laid (a := s.heap.objs.size + 1) (o := .ins C s.heap.objs.size []) (t' := s.toks) (fun b u q => Heap.get?_push_of_some _ q) (Nat.le_of_eq (Heap.size_push _ _)) ?_
 have ne : s.heap.objs.size ≠ s.heap.objs.size + 1 := Nat.ne_of_lt (Nat.lt_succ_self _)
 refine ⟨by rw [upd_ne ne, upd_same], Nat.zero_le _, ne, e2, fun _ => none, (Heap.Ns1.of_empty e3).at fun o q => Heap.get?_push_of_some _ q, fun _ => True.intro, fun y hy => absurd rfl hy⟩
theorem attr_of {prog : Program} {w : World} {env : Env} {e : Expr} {f : Str} {pos : Pos} {s : Shared} {Q : Value -> Shared -> Prop} (hb : attributeBase e f env (eval e env) = eval e env)
  (h : wpAny (model prog w) A (eval e env) (fun o s₁ => wpAny (model prog w) A (getAttr o f true) Q E s₁) E s) : wpAny (model prog w) A (eval (.Attribute e f pos) env) Q E s :=
 Attribute_any_ h (by rw [arm_eval_Attribute, hb])
end
def tFld (K : PySem.W.Frag) (ta : TE) (f : Str) : TE := fun σ H Q => ta σ H fun x H1 => ∃ a C dx fs v, x = .ref a /\ H1 a = some (.ins C dx fs) /\ Cls K C /\ NoAttr K C f /\ fs.lookup f = some v /\ Q v H1
def sFld (K : PySem.W.Frag) (ta tv : TE) (f : Str) : TS := fun D σ H => tv σ H fun y H1 => ta σ H1 fun x H2 => ∃ a C dx fs, x = .ref a /\ H2 a = some (.ins C dx fs) /\ Cls K C /\ NoAttr K C f /\ fs.length < 1000 /\
 D.nx σ (upd H2 a (.ins C dx (putF f y fs)))
section
variable {X : Cx} {o e value : Expr} {f : Str} {pos pos' tpos : Pos} {ta tv : TE}
theorem pe_fld (he : PE X e ta) (hb : attributeBase e f X.env (eval e X.env) = eval e X.env) : PE X (.Attribute e f pos) (tFld X.K ta f) := by
 intro pins s σ H Q I h
 refine attr_of hb (thn (he pins s σ H _ I h) fun u s1 ⟨x, H1, I1, rx, a, C, dx, fs, v, ex, ea, c, n, l, q⟩ => ?_)
 subst ex
 obtain rfl : u = Value.ref a := rx
 exact getattr_ok I1 ea c n l fun u' s2 I2 ru => ⟨v, H1, I2, ru, q⟩
theorem ps_fld (ha : PE X o ta) (hv : PE X value tv) (hs : swapsWith value (some (.Attribute o f pos')) pos.line X.env = pure false) : PS X (.Assign [.Attribute o f pos'] value pos) (sFld X.K ta tv f) := by
 intro pins s σ H D I h
 refine plainObj_wpAny_Assign_Attribute (thn (hv pins s σ H _ I h) fun u s1 ⟨y, H1, I1, ry, q⟩ => thn (ha pins s1 σ H1 _ I1 q) fun ov s2 ⟨x, H2, I2, rx, a, C, dx, fs, ex, ea, c, n, l, q2⟩ => ?_) hs
 subst ex
 obtain rfl : ov = Value.ref a := rx
 exact setattr_ok I2 ea c n l ry fun s3 I3 => ⟨σ, _, I3, q2⟩
end
end L2
namespace L2
open PySem PySem.Spec PyProof.Rows
structure Room (k : Nat) (A : Around) : Prop where
 hd : A.handled = none
 dp : A.depth + 3 * k + 5 < recursionLimit
 un : A.units + 16 * k + 200 < cLine
theorem Room.mono {j k : Nat} {A : Around} (r : Room k A) (h : j <= k) : Room j A := ⟨r.hd, by have := r.dp; omega, by have := r.un; omega⟩
theorem Room.deeper {k : Nat} {A : Around} (r : Room (k + 1) A) (env : Env) : Room k (A.deeper env) :=
 ⟨r.hd, by have := r.dp; show A.depth + 1 + 3 * k + 5 < _; omega, by have := r.un; show A.units + 3 + 16 * k + 200 < _; omega⟩
theorem make_depth {A : Around} {C : Addr} {us : List Value} {kw : List (Str × Value)} : (A.under (.builtin "type.__call__" ⟨.ref C :: us, kw⟩)).depth = A.depth + 1 := by
 first | rfl | simp [Around.under, Code.weight, Code.isCreation, Code.isGuard, Code.isCaller, Code.frames, Code.isFrame, guardIds]
theorem make_units {A : Around} {C : Addr} {us : List Value} {kw : List (Str × Value)} : (A.under (.builtin "type.__call__" ⟨.ref C :: us, kw⟩)).units = A.units + 1 := by
 first | rfl | simp [Around.under, Code.cUnits, Code.frames, Code.isFrame]
theorem Room.make {k : Nat} {A : Around} (r : Room (k + 1) A) (C : Addr) (us : List Value) (kw : List (Str × Value)) : Room k (A.under (.builtin "type.__call__" ⟨.ref C :: us, kw⟩)) :=
 ⟨r.hd, by have := r.dp; rw [make_depth]; omega, by have := r.un; rw [make_units]; omega⟩
theorem Room.depth {k : Nat} {A : Around} (r : Room k A) : A.depth < recursionLimit := by have := r.dp; omega
theorem Room.units {k : Nat} {A : Around} (r : Room k A) : A.units + 64 < cLine := by have := r.un; omega
def tNil : TA := fun _ H Q => Q [] H
def tCons (ta : TE) (tr : TA) : TA := fun σ H Q => ta σ H fun x H1 => tr σ H1 fun xs H2 => Q (x :: xs) H2
section
variable {X : Cx} {e : Expr} {es : List Expr} {te : TE} {t : TA} {pos : Pos}
theorem pa_nil : PA X [] tNil := fun _ _ _ _ H Q I h => Calls.spliced_nil ⟨[], H, I, .nil, h⟩
theorem pa_cons (ha : PE X e te) (hr : PA X es t) (hs : starEach (e :: es) X.env = (false, eval e X.env) :: starEach es X.env := by rfl) : PA X (e :: es) (tCons te t) := by
 intro pos pins s σ H Q I h
 rw [hs]
 show wpAny _ _ (spliced ((false, eval e X.env) :: backTo pos (starEach es X.env))) _ _ s
 refine Calls.spliced_cons (thn (ha pins s σ H _ I h) fun u s1 ⟨x, H1, I1, r1, q1⟩ => ?_)
 exact thn (hr pos pins s1 σ H1 _ I1 q1) fun us s2 ⟨xs, H2, I2, r2, q2⟩ => ⟨x :: xs, H2, I2, .cons r1 r2, q2⟩
def tTup (t : TA) : TE := fun σ H Q => t σ H fun xs H1 => xs.length <= sizeLine /\ ∀ p, H1 p = none -> Q (.ref p) (upd H1 p (.tup xs))
def tLst (t : TA) : TE := fun σ H Q => t σ H fun xs H1 => xs.length <= sizeLine /\ ∀ p, H1 p = none -> Q (.ref p) (upd H1 p (.lst xs))
theorem pe_tup {x1} (h : PA X es t) : PE X (.Tuple es x1 pos) (tTup t) := by
 intro pins s σ H Q I hq
 refine wpAny_Tuple_spliced (thn (h pos pins s σ H _ I hq) fun us s1 ⟨xs, H1, I1, r, z, q⟩ => ⟨by rw [<- r.length]; exact z, ?_⟩)
 have hf : H1 s1.heap.objs.size = none := I1.hok.fresh (Nat.le_refl _)
 refine ⟨.ref s1.heap.objs.size, upd H1 s1.heap.objs.size (.tup xs), I1.laid (t' := s1.toks) (fun b u e => Heap.get?_push_of_some _ e) (Nat.le_refl _) ?_, rfl, q _ hf⟩
 exact ⟨z, us, r, ⟨_, Heap.get?_push_size _ rfl, rfl, _, rfl⟩⟩
theorem pe_lst (h : PA X es t) : PE X (.List es pos) (tLst t) := by
 intro pins s σ H Q I hq
 refine wpAny_List_spliced (thn (h pos pins s σ H _ I hq) fun us s1 ⟨xs, H1, I1, r, z, q⟩ => ⟨by rw [<- r.length]; exact z, ?_⟩)
 have hf : H1 s1.heap.objs.size = none := I1.hok.fresh (Nat.le_refl _)
 refine ⟨.ref s1.heap.objs.size, upd H1 s1.heap.objs.size (.lst xs), I1.laid (t' := s1.toks) (fun b u e => Heap.get?_push_of_some _ e) (Nat.le_refl _) ?_, rfl, q _ hf⟩
 exact ⟨z, us, 0, r, Heap.get?_push_size _ rfl⟩
end
abbrev Sp := List V -> Hp -> VK -> XK -> Prop
abbrev CXT := List Env -> Hp -> Shared -> XK -> Value -> Shared -> Prop
structure Env0 (P : Program) (w : World) (K : PySem.W.Frag) (mg : Str -> Option Value) (base : Heap) (A : Around) (outer : List Env) (s : Shared) (H : Hp) : Prop where
 frames : A.frames = some outer
 mod : Mod K mg base
 bs : ∀ b o, base.get? b = some o -> s.heap.get? b = some o /\ H b = none
 bsz : base.objs.size <= s.heap.objs.size
 funs : s.heap.FunFrames base outer
 frf : ∀ b ∈ frs outer, H b = none
 hok : HOk P w H s.heap
 bare : AllBare s.gens
def CE (outer : List Env) (P : Program) (w : World) (H : Hp) (s : Shared) (Q : VK) (u : Value) (s' : Shared) : Prop :=
 ∃ v H', s'.os = s.os /\ AllBare s'.gens /\ Un (frs outer) [] H H' s.heap s'.heap /\ HOk P w H' s'.heap /\ RelV v u /\ Q v H'
def CR (CX : CXT) (outer : List Env) (P : Program) (w : World) (H : Hp) (s : Shared) (Q : VK) (E : XK) (r : Result) (s' : Shared) : Prop :=
 match r with
 | .ok (.ret u) => CE outer P w H s Q u s'
 | .ok _ => False
 | .error e => CX outer H s E e s'
structure FnOk (P : Program) (w : World) (K : PySem.W.Frag) (mg : Str -> Option Value) (base : Heap) (CX : CXT) (k : Nat) (f : Addr) (fd : FuncData) (ps : List Str) (sp : Sp) : Prop where
 len : ∀ vs H Q E, sp vs H Q E -> vs.length = ps.length
 run : ∀ (A : Around) (outer : List Env) (s : Shared) (H : Hp) (args : Args) (us : List Value) (vs : List V) (Q : VK) (E : XK), Room k A -> Env0 P w K mg base A outer s H -> BindsTo s fd args (ps.zip us) -> Vals vs us -> sp vs H Q E →
  codeAny (model P w) A (.call (.ref f) args) (CR CX outer P w H s Q E) s
theorem FnOk.mono {P : Program} {w : World} {K : PySem.W.Frag} {mg : Str -> Option Value} {base : Heap} {CX : CXT} {j k : Nat} {f : Addr} {fd : FuncData} {ps : List Str} {sp : Sp} (F : FnOk P w K mg base CX j f fd ps sp) (h : j <= k) :
  FnOk P w K mg base CX k f fd ps sp := ⟨F.len, fun A outer s H args us vs Q E hr => F.run A outer s H args us vs Q E (hr.mono h)⟩
theorem FnOk.imp {P : Program} {w : World} {K : PySem.W.Frag} {mg : Str -> Option Value} {base : Heap} {CX : CXT} {k : Nat} {f : Addr} {fd : FuncData} {ps : List Str} {sp sp' : Sp} (F : FnOk P w K mg base CX k f fd ps sp)
  (h : ∀ vs H Q E, sp' vs H Q E -> sp vs H Q E) : FnOk P w K mg base CX k f fd ps sp' :=
 ⟨fun vs H Q E q => F.len vs H Q E (h _ _ _ _ q), fun A outer s H args us vs Q E hr he hb hv hs => F.run A outer s H args us vs Q E hr he hb hv (h _ _ _ _ hs)⟩
theorem Env0.make {P : Program} {w : World} {K : PySem.W.Frag} {mg : Str -> Option Value} {base : Heap} {A : Around} {outer : List Env} {s : Shared} {H : Hp} (e : Env0 P w K mg base A outer s H) (C : Addr) (us : List Value) (kw : List (Str × Value)) :
  Env0 P w K mg base (A.under (.builtin "type.__call__" ⟨.ref C :: us, kw⟩)) outer s H := ⟨by first | exact e.frames | (simpa [Around.under, Code.envs, Code.isFrame, pushEnvs] using e.frames), e.mod, e.bs, e.bsz, e.funs, e.frf, e.hok, e.bare⟩
section
variable {X : Cx} {pins : List (Addr × Obj)} {σ : St} {H : Hp} {s s' : Shared}
theorem Inv.env0 (I : Inv X pins σ H s) : Env0 X.prog X.w X.K X.mg X.base X.A X.stack s H :=
 ⟨I.ok.frames, I.ok.mod, I.bs, Nat.le_trans I.ok.bsz I.sz, I.stack, I.stkFree, I.hok, I.bare⟩
theorem Inv.after {Q : VK} {u : Value} (I : Inv X pins σ H s) (h : CE X.stack X.prog X.w H s Q u s') : EP X pins σ Q u s' := by
 obtain ⟨v, H', os, bare, un, hok, r, q⟩ := h
 obtain ⟨hh, g, d, t, os'⟩ := s'
 obtain rfl : os' = s.os := os
 exact ⟨v, H', I.call (h' := hh) (g' := g) (d' := d) (t' := t) (ch := []) un hok bare (fun b z => absurd z (by simp)), r, q⟩
end
def tMake (C : Addr) (sp : Sp) (dvs : List V) (E : XK) (t : TA) : TE := fun σ H Q => t σ H fun vs H1 => ∀ x dx, H1 x = none -> H1 dx = none -> dx ≠ x →
 sp (.ref x :: (vs ++ dvs)) (upd (upd H1 dx (.own x)) x (.ins C dx [])) (fun v H2 => v = .non /\ Q (.ref x) H2) E
def Binds (K : PySem.W.Frag) (fd : FuncData) (ps : List Str) (ds : List Value) : Prop :=
 ∀ (s : Shared) (us : List Value), K.In s.heap -> (us ++ ds).length = ps.length -> BindsTo s fd ⟨us, []⟩ (ps.zip (us ++ ds))
theorem Binds.all {K : PySem.W.Frag} {fd : FuncData} {ps : List Str} (h : ∀ us : List Value, us.length = ps.length -> bindArgs fd ⟨us, []⟩ = pure (ps.zip us)) : Binds K fd ps [] := fun s us _ hl => by
 rw [List.append_nil] at hl ⊢
 exact .of_eq (h us hl)
def Passes (CX : CXT) (X : Cx) (E : XK) : Prop := ∀ (pins : List (Addr × Obj)) (σ : St) (H : Hp) (s : Shared) (e : Value) (s' : Shared), Inv X pins σ H s -> CX X.stack H s E e s' -> X.xe e s'
section
variable {X : Cx} {CX : CXT} {k : Nat} {f C : Addr} {fd : FuncData} {ps : List Str} {sp : Sp} {dvs : List V} {ds : List Value} {E : XK} {x m : Str} {p pos apos : Pos} {e o : Expr} {es : List Expr} {ta : TE} {t : TA}
structure Mk (K : PySem.W.Frag) (C f : Addr) : Prop where
 makes : PySem.W.makesIn K C = true
 init : PySem.W.findIn K (.ref C) "__init__" = some (some (.ref f))
 fn : PySem.W.isFn K (.ref f) = true
 kp : PySem.W.keepIn K (.ref C) = true
theorem run_make {pins : List (Addr × Obj)} {σ : St} {H : Hp} {s : Shared} {Q : VK} {us : List Value} {vs : List V} (M : Mk X.K C f) (F : FnOk X.prog X.w X.K X.mg X.base CX k f fd ps sp) (hr : Room (k + 1) X.A) (hb : Binds X.K fd ps ds) (hd : Vals dvs ds)
  (hx : Passes CX X E) (I : Inv X pins σ H s) (r : Vals vs us)
  (h : ∀ x dx, H x = none -> H dx = none -> dx ≠ x -> sp (.ref x :: (vs ++ dvs)) (upd (upd H dx (.own x)) x (.ins C dx [])) (fun v H2 => v = .non /\ Q (.ref x) H2) E) :
  wpAny (model X.prog X.w) X.A (call (.ref C) us) (EP X pins σ Q) X.xe s := by
 have hq := h (s.heap.objs.size + 1) s.heap.objs.size (I.hok.fresh (Nat.le_succ _)) (I.hok.fresh (Nat.le_refl _)) (Nat.ne_of_lt (Nat.lt_succ_self _))
 have I2 := Inv.made (C := C) I
 have r2 : Vals (V.ref (s.heap.objs.size + 1) :: (vs ++ dvs)) (Value.ref (s.heap.objs.size + 1) :: (us ++ ds)) := .cons rfl (r.append hd)
 have hl : (Value.ref (s.heap.objs.size + 1) :: us ++ ds).length = ps.length := by
  have e := r2.length
  rw [F.len _ _ _ _ hq] at e
  exact e.symm
 refine wpAny_call (make_map (f := f) I.kIn M.makes M.init (beq_iff_eq.mp M.fn) (codeAny_mono (F.run _ X.stack _ _ ⟨Value.ref (s.heap.objs.size + 1) :: us, []⟩ (Value.ref (s.heap.objs.size + 1) :: (us ++ ds)) _ _ E (hr.make C us [])
  (I2.env0.make C us []) (hb _ (Value.ref (s.heap.objs.size + 1) :: us) I2.kIn hl) r2 hq) fun r s' hq' => ?_))
 cases r with
 | error e => exact hx pins σ _ _ e s' I2 hq'
 | ok fl =>
  cases fl with
  | ret u =>
   obtain ⟨v, H', I3, rv, ev, q3⟩ := I2.after hq'
   subst ev
   exact ⟨rv, ⟨V.ref (s.heap.objs.size + 1), H', I3, rfl, q3⟩⟩
  | next => exact False.elim hq'
  | brk => exact False.elim hq'
  | cont => exact False.elim hq'
theorem pe_make0 (M : Mk X.K C f) (F : FnOk X.prog X.w X.K X.mg X.base CX k f fd ps sp) (hr : Room (k + 1) X.A) (hg : Gl X x) (hm : X.mg x = some (.ref C)) (hb : Binds X.K fd ps ds) (hd : Vals dvs ds) (hx : Passes CX X E)
  (hdb : (x == ("__debug__" : Str)) = false := by decide) : PE X (.Call (.Name x p) [] [] pos) (tMake C sp dvs E tNil) := by
 intro pins s σ H Q I h
 refine wpAny_Call_Name_kw (ld_glob I hg hm ?_ hdb)
 exact PySem.W.callWith_K0 I.kIn M.kp (run_make (us := []) M F hr hb hd hx I .nil h)
end
structure FnScope (N P : List Str) (sc : Scope) : Prop where
 kind : sc.kind = .function
 co : sc.isCoroutine = false
 gen : sc.isGenerator = false
 nd : N.Nodup
 pre : N.take P.length = P
 par : ∀ x ∈ P, sc.names.lookup x = some .local \/ sc.names.lookup x = some .cell
 nofree : ∀ y ∈ sc.names, y.2 ≠ .free
theorem bindL_out {kindOf : Str -> Option NameKind} {x : Str} : ∀ {binds : List (Str × Value)} {m : Str -> Option Value}, (∀ v, (x, v) ∉ binds) -> bindL kindOf binds m x = m x
 | [], _, _ => rfl
 | (n, v) :: r, m, h => by
  unfold bindL
  rw [bindL_out fun w hw => h w (List.mem_cons_of_mem _ hw)]
  split
  ·have : x ≠ n := by rintro rfl; exact h v List.mem_cons_self
   simp [this]
  ·rfl
theorem bindC_out {kindOf : Str -> Option NameKind} {x : Str} : ∀ {binds : List (Str × Value)} {m : Str -> Option Value}, (∀ v, (x, v) ∉ binds) -> bindC kindOf binds m x = m x
 | [], _, _ => rfl
 | (n, v) :: r, m, h => by
  unfold bindC
  rw [bindC_out fun w hw => h w (List.mem_cons_of_mem _ hw)]
  split
  ·rfl
  ·have : x ≠ n := by rintro rfl; exact h v List.mem_cons_self
   simp [this]
theorem bindL_get {kindOf : Str -> Option NameKind} {x : Str} {v : Value} : ∀ {P : List Str} {vs : List Value} {i : Nat} {m : Str -> Option Value}, P.Nodup -> P[i]? = some x -> vs[i]? = some v -> kindOf x = some .local →
  bindL kindOf (P.zip vs) m x = some v
 | [], _, _, _, _, h, _, _ => by simp at h
 | _ :: _, [], _, _, _, _, h, _ => by simp at h
 | p :: P, w :: vs, 0, m, nd, h1, h2, hk => by
  simp at h1 h2; subst h1; subst h2
  show bindL kindOf ((p, w) :: P.zip vs) m p = _
  unfold bindL
  rw [bindL_out fun v hv => (List.nodup_cons.mp nd).1 (List.of_mem_zip hv).1, if_pos hk]
  simp
 | p :: P, w :: vs, i + 1, m, nd, h1, h2, hk => by
  show bindL kindOf ((p, w) :: P.zip vs) m x = _
  unfold bindL
  exact bindL_get (i := i) (List.nodup_cons.mp nd).2 (by simpa using h1) (by simpa using h2) hk
theorem bindC_get {kindOf : Str -> Option NameKind} {x : Str} {v : Value} : ∀ {P : List Str} {vs : List Value} {i : Nat} {m : Str -> Option Value}, P.Nodup -> P[i]? = some x -> vs[i]? = some v -> kindOf x ≠ some .local →
  bindC kindOf (P.zip vs) m x = some v
 | [], _, _, _, _, h, _, _ => by simp at h
 | _ :: _, [], _, _, _, _, h, _ => by simp at h
 | p :: P, w :: vs, 0, m, nd, h1, h2, hk => by
  simp at h1 h2; subst h1; subst h2
  show bindC kindOf ((p, w) :: P.zip vs) m p = _
  unfold bindC
  rw [bindC_out fun v hv => (List.nodup_cons.mp nd).1 (List.of_mem_zip hv).1, if_neg hk]
  simp
 | p :: P, w :: vs, i + 1, m, nd, h1, h2, hk => by
  show bindC kindOf ((p, w) :: P.zip vs) m x = _
  unfold bindC
  exact bindC_get (i := i) (List.nodup_cons.mp nd).2 (by simpa using h1) (by simpa using h2) hk
def start (N : List Str) (vs : List V) : St := vs.map some ++ List.replicate (N.length - vs.length) none
def cxOf (CX : CXT) (P : Program) (w : World) (K : PySem.W.Frag) (mg : Str -> Option Value) (base : Heap) (N : List Str) (qual : Str) (scope : Scope) (f : Addr) (cd : Value) (A : Around) (outer : List Env) (s : Shared) (H : Hp) (E : XK) : Cx where
 prog := P
 w := w
 K := K
 mg := mg
 base := base
 A := A.deeper (envOfC qual scope s.heap.objs.size f cd)
 N := N
 s₀ := s
 H₀ := H
 env := envOfC qual scope s.heap.objs.size f cd
 outer := outer
 stack := envOfC qual scope s.heap.objs.size f cd :: outer
 ex := []
 calm := true
 fn := fun _ => true
 pn := []
 xe := fun e s' => wpAny (model P w) (A.deeper (envOfC qual scope s.heap.objs.size f cd)) (leaving (envOfC qual scope s.heap.objs.size f cd) e) (fun _ s'' => CX outer H s E e s'') (fun e' s'' => CX outer H s E e' s'') s'
theorem cell_has {sc : Scope} {n : Nat} {x : Str} (h : sc.names.lookup x = some .cell) : ∃ c, (cellsFrom n sc.names []).lookup x = some c := by
 have q := PySem.W.cellsFrom_some sc.names n [] (.inl h)
 exact Option.isSome_iff_exists.mp q
theorem inv_start {CX : CXT} {P : Program} {w : World} {K : PySem.W.Frag} {mg : Str -> Option Value} {base : Heap} {N ps : List Str} {qual : Str} {scope : Scope} {f : Addr} {cd : Value} {A : Around} {outer : List Env} {s s1 : Shared} {H : Hp} {E : XK} {us : List Value} {vs : List V}
  (S : FnScope N ps scope) (hd : A.handled = none) (e0 : Env0 P w K mg base A outer s H) (hl : vs.length = ps.length) (r : Vals vs us)
  (x : InCallC s s.heap.objs.size (bindL (envOfC qual scope s.heap.objs.size f cd).kindOf (ps.zip us) fun _ => none) (cellsFrom (s.heap.objs.size + 1) scope.names []) (bindC (envOfC qual scope s.heap.objs.size f cd).kindOf (ps.zip us) fun _ => none) s1) :
  Inv (cxOf CX P w K mg base N qual scope f cd A outer s H E) [] (start N vs) H s1 := by
 have hpl : ps.length <= N.length := by have := congrArg List.length S.pre; rw [List.length_take] at this; omega
 obtain ⟨h1, tk, rfl, hk⟩ := x.done
 have noA : ∀ b : Addr, b ∉ (cxOf CX P w K mg base N qual scope f cd A outer s H E).ex := fun b z => absurd (show b ∈ ([] : List Addr) from z) (by simp)
 refine ⟨⟨e0.mod, S.kind, rfl, rfl, Nat.le_refl _, fun y z c h1 h2 => ?_, fun y hy => ?_, fun y c _ h => ?_, fun _ => hd, Around.frames_deeper e0.frames, .inr ⟨rfl, rfl⟩, fun b z => absurd z (noA b), e0.bs, e0.bsz, fun b _ _ => noA b, fun b z => absurd z (noA b), e0.funs, e0.frf⟩,
  rfl, e0.bare, Un.kept hk, ⟨_, x.toInCall.ns, fun i y v h1 h2 h3 => ?_⟩, fun y c h => ⟨_, x.cell y c h⟩, e0.hok.fresh (Nat.le_refl _), fun y c h => ?_, fun p hp => absurd (show p ∈ ([] : List (Addr × Obj)) from hp) (by simp), e0.hok.kept hk, ?_⟩
 ·exact name_of_addr x.apart (PySem.mem_of_lookup h1) (PySem.mem_of_lookup h2)
 ·have hy : scope.names.lookup y = some .cell \/ scope.names.lookup y = some .free := hy
  rcases hy with hy | hy
  ·exact cell_has hy
  ·exact absurd rfl (S.nofree _ (PySem.mem_of_lookup hy))
 ·exact Nat.le_of_lt (x.above y c (PySem.mem_of_lookup h))
 ·have hi : i < vs.length := by
   unfold start at h2
   by_cases hi : i < vs.length
   ·exact hi
   ·rw [List.getElem?_append_right (by simpa using hi)] at h2
    rw [List.getElem?_replicate] at h2
    split at h2 <;> cases h2
  have ha : vs[i]? = some v := by
   unfold start at h2
   rw [List.getElem?_append_left (by simpa using hi), List.getElem?_map] at h2
   cases e : vs[i]? with
   | none => rw [e] at h2; cases h2
   | some a => rw [e] at h2; cases h2; rfl
  obtain ⟨u, hu, rv⟩ := r.get ha
  have hp : ps[i]? = some y := by
   rw [<- S.pre, List.getElem?_take_of_lt (by omega)]; exact h1
  have ndP : ps.Nodup := by rw [<- S.pre]; exact S.nd.sublist (List.take_sublist _ _)
  refine ⟨u, rv, ?_⟩
  rcases S.par y (List.mem_of_getElem? hp) with k | k
  ·exact .inl ⟨k, bindL_get ndP hp hu k⟩
  ·obtain ⟨c, e⟩ := cell_has (n := s.heap.objs.size + 1) k
   refine .inr ⟨.inl k, c, e, ?_⟩
   have q := x.cell y c e
   rw [bindC_get ndP hp hu (by show scope.names.lookup y ≠ _; rw [k]; decide)] at q
   exact q
 ·exact e0.hok.fresh (Nat.le_of_lt (x.above y c (PySem.mem_of_lookup h)))
 ·unfold start
  show _ = N.length
  rw [List.length_append, List.length_map, List.length_replicate]
  omega
theorem fn_of {CX : CXT} {P : Program} {w : World} {K : PySem.W.Frag} {mg : Str -> Option Value} {base : Heap} {k : Nat} {f : Addr} {name qual : Str} {params : Arguments} {body : List Stmt} {scope : Scope} {dV kV doc pm cdv ct oc : Value} {an od : Option Addr}
  {osl : Array (Option Value)} {N ps : List Str} {sp : Sp} (lk : K.lookup f = some ⟨oc, od, .func (PySem.W.fnOf name qual params body scope dV kV doc pm an cdv ct), osl⟩) (hcd : PySem.W.codeIn K cdv qual = true) (S : FnScope N ps scope)
  (len : ∀ vs H Q E, sp vs H Q E -> vs.length = ps.length)
  (hbody : ∀ (A : Around) (outer : List Env) (s : Shared) (H : Hp) (vs : List V) (Q : VK) (E : XK), Room k (A.deeper (envOfC qual scope s.heap.objs.size f cdv)) -> sp vs H Q E →
   ∃ t, PSs (cxOf CX P w K mg base N qual scope f cdv A outer s H E) body t /\ t { nx := fun _ H' => Q .non H', rt := Q } (start N vs) H) :
  FnOk P w K mg base CX (k + 1) f (PySem.W.fnOf name qual params body scope dV kV doc pm an cdv ct) ps sp := by
 refine ⟨len, fun A outer s H args us vs Q E hr e0 hb r hsp => ?_⟩
 have hl := len _ _ _ _ hsp
 have KX : K.In s.heap := e0.mod.kin.keeps fun b o e => (e0.bs b o e).1
 have lim : s.heap.NoLimit := e0.mod.nolimit.keeps fun b o e => (e0.bs b o e).1
 have hkind : ∀ y ∈ ps.zip us, scope.names.lookup y.1 = some .local \/ (scope.names.lookup y.1 = some .cell /\ ((cellsFrom (s.heap.objs.size + 1) scope.names []).lookup y.1).isSome = true) := fun ⟨n, v⟩ hy => by
  rcases S.par n (List.of_mem_zip hy).1 with q | q
  ·exact .inl q
  ·exact .inr ⟨q, PySem.W.cellsFrom_some _ _ _ (.inl q)⟩
 refine codeAny_call_function hr.depth (KX _ _ lk) rfl S.co S.gen rfl (PySem.W.codeRec_of KX hcd) (hb _ _ _ _ ?_)
 refine wpAny_newFunctionEnv_cells S.kind hkind fun env he s1 x => ?_
 subst he
 refine ⟨lim.keeps x.toInCall.keep, codeAny_func ?_⟩
 obtain ⟨t, ht, hq⟩ := hbody A outer s H vs Q E (hr.deeper _) hsp
 have I : Inv (cxOf CX P w K mg base N qual scope f cdv A outer s H E) [] (start N vs) H s1 := inv_start S hr.hd e0 hl r x
 refine wpAny_mono (ht [] s1 (start N vs) H _ I hq) (fun fl s' hs => ?_) fun e s' hs => hs
 have fin : ∀ {σ' : St} {H' : Hp} {v : V} {u : Value}, Inv (cxOf CX P w K mg base N qual scope f cdv A outer s H E) [] σ' H' s' -> RelV v u -> Q v H' -> CE outer P w H s Q u s' :=
  fun {σ' H' v u} J rv q => ⟨v, H', J.os, J.bare, J.base, J.hok, rv, q⟩
 cases fl with
 | ret u =>
  obtain ⟨v, σ', H', J, rv, q⟩ := hs
  exact fin J rv q
 | next =>
  obtain ⟨σ', H', J, q⟩ := hs
  exact fin (v := V.non) (u := Value.none) J rfl q
 | brk =>
  obtain ⟨_, _, _, q⟩ := hs
  exact False.elim q
 | cont =>
  obtain ⟨_, _, _, q⟩ := hs
  exact False.elim q
end L2
namespace L2
open PySem PySem.Spec PyProof.Rows
section
variable {X : Cx} {x : Str} {p pos : Pos} {e : Expr} {es : List Expr} {t : TA} {id T : String} {r : List V -> Hp -> VK -> Prop}
def tCB (r : List V -> Hp -> VK -> Prop) (t : TA) : TE := fun σ H Q => t σ H fun vs H1 => r vs H1 Q
theorem pe_callB (hc : CallR X (.builtin id) r) (hg : Gl X x) (hm : X.mg x = none) (hv : bootBuiltins x = some (.builtin id)) (ha : PA X (e :: es) t) (hn : x ≠ "__name__" := by decide) (hdb : (x == ("__debug__" : Str)) = false := by decide)
  (he : starEach (e :: es) X.env = (false, eval e X.env) :: starEach es X.env := by rfl) (hpl : (backTo pos (starEach es X.env)).any (·.1) = false := by rfl) : PE X (.Call (.Name x p) (e :: es) [] pos) (tCB r t) := by
 intro pins s σ H Q I h
 refine wpAny_Call_Name_kw (ld_blt I hg hm hv ?_ hn hdb)
 exact PyProof.Rows.callWith_builtin1 (thn (ha pos pins s σ H _ I h) fun us s1 ⟨vs, H1, I1, r1, q1⟩ => hc pins s1 σ H1 vs us Q I1 r1 q1) he hpl
theorem pe_callTy (hc : CallR X (.type T) r) (hg : Gl X x) (hm : X.mg x = none) (hv : bootBuiltins x = some (.type T)) (ha : PA X (e :: es) t) (hn : x ≠ "__name__" := by decide) (hdb : (x == ("__debug__" : Str)) = false := by decide)
  (he : starEach (e :: es) X.env = (false, eval e X.env) :: starEach es X.env := by rfl) (hpl : (backTo pos (starEach es X.env)).any (·.1) = false := by rfl) : PE X (.Call (.Name x p) (e :: es) [] pos) (tCB r t) := by
 intro pins s σ H Q I h
 refine wpAny_Call_Name_kw (ld_blt I hg hm hv ?_ hn hdb)
 exact PyProof.Rows.callWith_type1 (thn (ha pos pins s σ H _ I h) fun us s1 ⟨vs, H1, I1, r1, q1⟩ => hc pins s1 σ H1 vs us Q I1 r1 q1) he hpl
end
end L2
namespace HT
open PySem PyProof.Rows
section
open PySem.SeqAt
open PySem.AutoSeq1 (wpAny_loadPart')
open PySem.MeetsSeq PySem.MeetsSeq2 PySem.MeetsSeq3
end
section
variable {prog : Program} {w : World} {A : Around} {E : Value -> Shared -> Prop} {s : Shared}
theorem cat_tup {t b : Addr} {vs ws : List Value} {Q : Value -> Shared -> Prop} (ht : IsTup s.heap t vs.toArray) (hb : IsTup s.heap b ws.toArray) (hv : vs ≠ [])
  (h1 : ws = [] -> Q (.ref t) s) (h2 : ws ≠ [] -> Q (.ref s.heap.objs.size) { s with heap := s.heap.push { cls := .type "tuple", data := .seq (vs ++ ws).toArray } })
  (hsz : vs.length + ws.length <= sizeLine) : wpAny (model prog w) A (binaryOp .Add (.ref t) (.ref b)) Q E s := by
 obtain ⟨⟨cls, dd, data, sl⟩, ho, hc, n, hd⟩ := id ht
 obtain ⟨⟨cls2, dd2, data2, sl2⟩, ho2, hc2, n2, hd2⟩ := id hb
 simp only at hc hd hc2 hd2
 subst hc hd hc2 hd2
 have e : vs.toArray ++ ws.toArray = (vs ++ ws).toArray := by simp
 by_cases hw : ws = []
 ·exact concat_meets ⟨_, ho, rfl⟩ ⟨_, ho2, rfl⟩ noFill_tuple_add seq_tuple_add PySem.F.slot_tuple_add PySem.F.entry_tuple_add (PySem.F.args_tuple_add_2 _ _)
   (tuple_addW1 t b vs.toArray ws.toArray n n2 dd dd2 sl sl2 (by simpa using hv) (by simp [hw])) ⟨ho, ho2, h1 hw⟩
 ·refine concat_meets ⟨_, ho, rfl⟩ ⟨_, ho2, rfl⟩ noFill_tuple_add seq_tuple_add PySem.F.slot_tuple_add PySem.F.entry_tuple_add (PySem.F.args_tuple_add_2 _ _)
   (tuple_addW2 t b vs.toArray ws.toArray n n2 dd dd2 sl sl2 (by simpa using hv) (by simpa using hw) (by rw [List.size_toArray, List.size_toArray]; exact hsz)) ⟨ho, ho2, ?_⟩
  rw [e]
  exact h2 hw
def sIx (n d : Nat) : Option Int -> Nat
 | none => d
 | some v => if v < 0 then (v + (n : Int)).toNat else min v.toNat n
end
end HT
namespace L2
open PySem PySem.Spec PyProof.Rows
abbrev TO := St -> Hp -> (Option Int -> Hp -> Prop) -> Prop
def PO (X : Cx) (e : Option Expr) (t : TO) : Prop :=
 ∀ (pins : List (Addr × Obj)) (s : Shared) (σ : St) (H : Hp) (Q : Option Int -> Hp -> Prop), Inv X pins σ H s -> t σ H Q →
  wpAny (model X.prog X.w) X.A (evalPart e X.env) (fun u s' => ∃ o H', Inv X pins σ H' s' /\ IsPart u o /\ Q o H') X.xe s
section
variable {X : Cx} {e : Expr} {te : TE} {lo hi : Option Expr} {tl th : TO} {pos p2 : Pos}
def SlR (X : Cx) (r : V -> Option Int -> Option Int -> Hp -> VK -> Prop) : Prop :=
 ∀ (pins : List (Addr × Obj)) (s : Shared) (σ : St) (H : Hp) (x : V) (v vl vu : Value) (lo hi : Option Int) (sl : Addr) (Q : VK), Inv X pins σ H s -> RelV x v -> s.heap.IsSliceOf sl vl vu .none -> IsPart vl lo -> IsPart vu hi -> r x lo hi H Q →
  ∃ T id, typeLookup (.type T) "__getitem__" = pure (some (.builtin id)) /\ s.TypeIs v T /\ wpAny (model X.prog X.w) X.A (getItem v (.ref sl)) (EP X pins σ Q) X.xe s
theorem SlR.or {r r' : V -> Option Int -> Option Int -> Hp -> VK -> Prop} (h : SlR X r) (h' : SlR X r') : SlR X (fun x lo hi H Q => r x lo hi H Q \/ r' x lo hi H Q) := by
 intro pins s σ H x v vl vu lo hi sl Q I rx hs pl pu q
 rcases q with q | q
 ·exact h pins s σ H x v vl vu lo hi sl Q I rx hs pl pu q
 ·exact h' pins s σ H x v vl vu lo hi sl Q I rx hs pl pu q
def cutV (xs : List V) (lo hi : Option Int) : List V := (xs.drop (HT.sIx xs.length 0 lo)).take (HT.sIx xs.length xs.length hi - HT.sIx xs.length 0 lo)
theorem cutV_length (xs : List V) (lo hi : Option Int) : (cutV xs lo hi).length <= xs.length := by
 unfold cutV
 rw [List.length_take, List.length_drop]
 omega
def rCatT (K : PySem.W.Frag) : R2 := fun x y H Q => ∃ a b xs ys, x = .ref a /\ y = .ref b /\ SqT K H a xs /\ SqT K H b ys /\ xs ≠ [] /\ xs.length + ys.length <= sizeLine /\
 (ys = [] -> Q (.ref a) H) /\ (ys ≠ [] -> ∀ p, H p = none -> Q (.ref p) (upd H p (.tup (xs ++ ys))))
theorem Vals.nil_iff {xs : List V} {us : List Value} (r : Vals xs us) : us = [] ↔ xs = [] := by
 cases r with
 | nil => simp
 | cons _ _ => simp
theorem op_catT : OpR X (binaryOp .Add) (rCatT X.K) := by
 intro pins s σ H x y v u Q I rx ry h
 obtain ⟨a, b, xs, ys, rfl, rfl, ha, hb, hx, hz, q1, q2⟩ := h
 cases rx
 cases ry
 obtain ⟨its, r1, p1, _⟩ := I.tuple ha
 obtain ⟨its2, r2, p2, _⟩ := I.tuple hb
 refine HT.cat_tup p1 p2 (fun z => hx (r1.nil_iff.mp z)) (fun z => ⟨.ref a, H, I, rfl, q1 (r2.nil_iff.mp z)⟩) (fun z => ?_) (by rw [<- r1.length, <- r2.length]; exact hz)
 refine ⟨.ref s.heap.objs.size, _, I.laid (t' := s.toks) (o := .tup (xs ++ ys)) (fun b ob q => Heap.get?_push_of_some _ q) (Nat.le_refl _) ?_, rfl, q2 (fun w => z (r2.nil_iff.mpr w)) _ (I.hok.fresh (Nat.le_refl _))⟩
 exact ⟨by rw [List.length_append]; exact hz, _, r1.append r2, IsTup.new _ _⟩
end
end L2
namespace L2
open PySem PySem.Spec PyProof.Rows
def ixN (n : Nat) (i : Int) : Option Nat := if 0 <= i then (if i < n then some i.toNat else none) else if -(n : Int) <= i then some (i + n).toNat else none
def atI {α : Type} (xs : List α) (i : Int) : Option α := (ixN xs.length i).bind fun j => xs[j]?
theorem ixN_seq {n : Nat} {i : Int} {j : Nat} (h : ixN n i = some j) : seqIndex? i n = some j /\ j < n /\ -(n : Int) <= i /\ i < n := by
 unfold ixN at h
 by_cases h0 : 0 <= i
 ·rw [if_pos h0] at h
  by_cases h1 : i < n
  ·rw [if_pos h1] at h
   have e : i.toNat = j := Option.some.inj h
   exact ⟨by rw [seqIndex_of h0 h1, e], by omega, by omega, h1⟩
  ·rw [if_neg h1] at h; cases h
 ·rw [if_neg h0] at h
  by_cases h1 : -(n : Int) <= i
  ·rw [if_pos h1] at h
   have e : (i + n).toNat = j := Option.some.inj h
   exact ⟨by rw [seqIndex_neg (by omega) h1, e], by omega, h1, by omega⟩
  ·rw [if_neg h1] at h; cases h
theorem atI_get {α : Type} {xs : List α} {i : Int} {v : α} (h : atI xs i = some v) : ∃ j, seqIndex? i xs.length = some j /\ xs[j]? = some v /\ j < xs.length /\ -(xs.length : Int) <= i /\ i < xs.length := by
 unfold atI at h
 cases e : ixN xs.length i with
 | none => rw [e] at h; cases h
 | some j =>
  rw [e] at h
  obtain ⟨h1, h2, h3, h4⟩ := ixN_seq e
  exact ⟨j, h1, h, h2, h3, h4⟩
theorem atI_nat {α : Type} {xs : List α} {j : Nat} {v : α} (h : xs[j]? = some v) : atI xs (j : Int) = some v := by
 have hj : j < xs.length := (List.getElem?_eq_some_iff.mp h).1
 have e : ixN xs.length (j : Int) = some j := by
  unfold ixN
  rw [if_pos (by omega), if_pos (by omega)]; simp
 unfold atI; rw [e]; exact h
theorem atI_last {α : Type} (xs : List α) (v : α) : atI (xs ++ [v]) (-1) = some v := by
 have hl : (xs ++ [v]).length = xs.length + 1 := by simp
 have e : ixN (xs ++ [v]).length (-1) = some xs.length := by
  unfold ixN
  rw [hl, if_neg (by decide), if_pos (by omega)]
  congr 1
  omega
 unfold atI
 rw [e]
 show (xs ++ [v])[xs.length]? = some v
 simp
def PlainIx (b : Expr) : Prop := ∀ o i, subscripted b false o i = operate [o, i] (getItem o i)
def IxR (X : Cx) (r : R2) : Prop :=
 ∀ (value slice : Expr) (pins : List (Addr × Obj)) (s : Shared) (σ : St) (H : Hp) (x y : V) (v u : Value) (Q : VK), Inv X pins σ H s -> RelV x v -> RelV y u -> r x y H Q →
  subscripted slice false v u = operate [v, u] (getItem v u) -> wpAny (model X.prog X.w) X.A (subscriptTail value slice v u) (EP X pins σ Q) X.xe s
def MtR (X : Cx) (id : String) (r : V -> List V -> Hp -> VK -> Prop) : Prop :=
 ∀ (pins : List (Addr × Obj)) (s : Shared) (σ : St) (H : Hp) (x : V) (xs : List V) (v : Value) (us : List Value) (Q : VK), Inv X pins σ H s -> RelV x v -> Vals xs us -> r x xs H Q →
  wpAny (model X.prog X.w) X.A (call (.builtin id) (v :: us)) (EP X pins σ Q) X.xe s
section
variable {X : Cx} {a b : Expr} {ta tb : TE} {pos : Pos}
theorem IxR.or {r r' : R2} (h : IxR X r) (h' : IxR X r') : IxR X (fun x y H Q => r x y H Q \/ r' x y H Q) := by
 intro value slice pins s σ H x y v u Q I rx ry q hs
 rcases q with q | q
 ·exact h value slice pins s σ H x y v u Q I rx ry q hs
 ·exact h' value slice pins s σ H x y v u Q I rx ry q hs
theorem MtR.or {id : String} {r r' : V -> List V -> Hp -> VK -> Prop} (h : MtR X id r) (h' : MtR X id r') : MtR X id (fun x xs H Q => r x xs H Q \/ r' x xs H Q) := by
 intro pins s σ H x xs v us Q I rx rs q
 rcases q with q | q
 ·exact h pins s σ H x xs v us Q I rx rs q
 ·exact h' pins s σ H x xs v us Q I rx rs q
theorem pe_ix {r : R2} (hr : IxR X r) (ha : PE X a ta) (hb : PE X b tb) (hs : PlainIx b) : PE X (.Subscript a b pos) (tOp r ta tb) := by
 intro pins s σ H Q I h
 exact Subscript_ (binT ha hb I h fun v u s2 x y H2 I2 rx ry q => hr a b pins s2 σ H2 x y v u Q I2 rx ry q (hs _ _))
def rIxL (K : PySem.W.Frag) : R2 := fun x y H Q => ∃ p xs i v, x = .ref p /\ y = .int i /\ SqL K H p xs /\ atI xs i = some v /\ Q v H
def rIxT (K : PySem.W.Frag) : R2 := fun x y H Q => ∃ p xs i v, x = .ref p /\ y = .int i /\ SqT K H p xs /\ atI xs i = some v /\ Q v H
def rIxS : R2 := fun x y H Q => ∃ z i c, x = .str z /\ y = .int i /\ z.length <= sizeLine /\ atI z.cps.toList i = some c /\ Q (.str ⟨#[c]⟩) H
theorem ix_list : IxR X (rIxL X.K) := by
 intro value slice pins s σ H x y v u Q I rx ry h hs
 obtain ⟨p, xs, i, z, rfl, rfl, hq, he, q⟩ := h
 cases rx
 obtain ⟨t, rfl⟩ := ry
 obtain ⟨its, r, pl, hz⟩ := I.list hq
 obtain ⟨j, h1, h2, h3, h4, h5⟩ := atI_get he
 obtain ⟨w, ew, rw'⟩ := r.get h2
 have hl := r.length
 have hn := line63
 have fin : EP X pins σ Q w s := ⟨z, H, I, rw', q⟩
 by_cases h0 : 0 <= i
 ·have hj : i.toNat = j := by
   rw [seqIndex_of h0 h5] at h1
   exact Option.some.inj h1
  exact item_listR pl.isList h0 (by omega) (by rw [hj]; simpa using ew) fin hs
 ·have hj : (i + (its.toArray.size : Int)).toNat = j := by
   rw [seqIndex_neg (by omega) h4] at h1
   rw [List.size_toArray, <- hl]
   exact Option.some.inj h1
  exact subscriptTail_builtinR (x := w) pl.isList.typeIs slot_list_getitem.lookup
   (wpAny_getItem_list_neg (Q := fun r s' => r = w /\ EP X pins σ Q r s') pl.isList (by omega) (by rw [List.size_toArray] <;> omega) (by omega) (by rw [hj]; simpa using ew) ⟨rfl, fin⟩) hs
theorem ix_tup : IxR X (rIxT X.K) := by
 intro value slice pins s σ H x y v u Q I rx ry h hs
 obtain ⟨p, xs, i, z, rfl, rfl, hq, he, q⟩ := h
 cases rx
 obtain ⟨t, rfl⟩ := ry
 obtain ⟨its, r, pl, hz⟩ := I.tuple hq
 obtain ⟨j, h1, h2, h3, h4, h5⟩ := atI_get he
 obtain ⟨w, ew, rw'⟩ := r.get h2
 have hl := r.length
 have hn := line63
 have fin : EP X pins σ Q w s := ⟨z, H, I, rw', q⟩
 exact subscriptTail_builtinR (x := w) pl.typeIs slot_tuple_getitem.lookup
  (getItem_tuple (j := j) (Q := fun r s' => r = w /\ EP X pins σ Q r s') pl (by omega) (by omega) (by rw [List.size_toArray, <- hl]; exact h1) (by simpa using ew) ⟨rfl, fin⟩) hs
theorem ix_str : IxR X rIxS := by
 intro value slice pins s σ H x y v u Q I rx ry h hs
 obtain ⟨z, i, c, rfl, rfl, hz, he, q⟩ := h
 obtain ⟨t, rfl⟩ := rx
 obtain ⟨t', rfl⟩ := ry
 obtain ⟨j, h1, h2, h3, h4, h5⟩ := atI_get he
 have hl : z.cps.toList.length = z.length := by simp [Str.length]
 rw [hl] at h1 h4 h5
 have hn := line63
 exact tail_any (typeIs_str s z t) slot_str_getitem.lookup (getItem_str (c := c) (by
  have e1 : decide (i < -(2 ^ 63 : Int)) = false := decide_eq_false (by omega)
  have e2 : decide (i >= 2 ^ 63) = false := decide_eq_false (by omega)
  rw [e1, e2, Bool.or_false]) (by rw [h1]; simpa using h2) ⟨.str ⟨#[c]⟩, H, I.tok _, ⟨_, rfl⟩, q⟩) hs
def rIx (K : PySem.W.Frag) : R2 := fun x y H Q => rIxL K x y H Q \/ rIxT K x y H Q \/ rIxS x y H Q
theorem ix_seq : IxR X (rIx X.K) := ix_list.or (ix_tup.or ix_str)
theorem mapSeq_set (its : List Value) (n j : Nat) (u : Value) : Obj.mapSeq (·.setIfInBounds j u) { cls := .type "list", data := .seq its.toArray n } = { cls := .type "list", data := .seq (its.set j u).toArray n } := by
 simp [Obj.mapSeq]
theorem Inv.lst {pins : List (Addr × Obj)} {σ : St} {H : Hp} {s : Shared} {p : Addr} {xs : List V} (I : Inv X pins σ H s) (h : H p = some (.lst xs)) :
  ∃ (its : List Value) (n : Nat), Vals xs its /\ s.heap.get? p = some { cls := .type "list", data := .seq its.toArray n } /\ xs.length <= sizeLine := by
 obtain ⟨z, its, n, r, e⟩ := I.hok p _ h
 exact ⟨its, n, r, e, z⟩
theorem Inv.lstUpd {pins : List (Addr × Obj)} {σ : St} {H : Hp} {s : Shared} {p : Addr} {xs ys : List V} {its its' : List Value} {n n' : Nat} {f : Obj -> Obj} (I : Inv X pins σ H s) (h : H p = some (.lst xs))
  (ho : s.heap.get? p = some { cls := .type "list", data := .seq its.toArray n }) (hf : f { cls := .type "list", data := .seq its.toArray n } = { cls := .type "list", data := .seq its'.toArray n' }) (r : Vals ys its') (hz : ys.length <= sizeLine) (t : Nat) :
  Inv X pins σ (upd H p (.lst ys)) { s with heap := s.heap.update p f, toks := t } := by
 have e : (s.heap.update p f).get? p = some { cls := .type "list", data := .seq its'.toArray n' } := by
  rw [Heap.get?_update_self f ho (by rw [hf] <;> rfl), hf]
 refine I.write (x := p) (e := p) (by rw [h]; trivial) (.inl rfl) (fun b u hb q => (Heap.get?_update_other _ _ (Ne.symm hb)).trans q) ⟨_, e⟩ ?_
 exact ⟨hz, its', n', r, e⟩
def rSetL : V -> V -> V -> Hp -> (Hp -> Prop) -> Prop := fun o i v H Q => ∃ p xs k j, o = .ref p /\ i = .int k /\ H p = some (.lst xs) /\ ixN xs.length k = some j /\ Q (upd H p (.lst (xs.set j v)))
theorem set_list : PSet X rSetL := by
 intro pins s σ H o i v ov iv u Q I ro ri rv h
 obtain ⟨p, xs, k, j, rfl, rfl, hp, hj, q⟩ := h
 cases ro
 obtain ⟨t, rfl⟩ := ri
 obtain ⟨its, n, r, ho, hz⟩ := I.lst hp
 obtain ⟨h1, h2, h3, h4⟩ := ixN_seq hj
 have hl := r.length
 have hn := line63
 have I' : Inv X pins σ (upd H p (.lst (xs.set j v))) { s with heap := s.heap.update p (Obj.mapSeq (·.setIfInBounds j u)) } :=
  I.lstUpd hp ho (mapSeq_set its n j u) (r.set rv j) (by rw [List.length_set]; exact hz) s.toks
 by_cases h0 : 0 <= k
 ·have hk : k.toNat = j := by
   rw [seqIndex_of h0 h4] at h1
   exact Option.some.inj h1
  exact PySem.W.ki_setAt ho h0 (by omega) (by rw [List.size_toArray, <- hl]; exact h4) (by rw [hk]; exact ⟨_, I', q⟩)
 ·have hk : (k + (its.toArray.size : Int)).toNat = j := by
   rw [seqIndex_neg (by omega) h3] at h1
   rw [List.size_toArray, <- hl]
   exact Option.some.inj h1
  exact PySem.W.ki_setBack ho (by omega) (by rw [List.size_toArray, <- hl]; exact h3) (by omega) (by rw [hk]; exact ⟨_, I', q⟩)
theorem slice_bounds (lo hi : Option Int) (n : Nat) : (sliceBounds lo hi none n).1 = ((HT.sIx n 0 lo : Nat) : Int) /\ (sliceBounds lo hi none n).2.1 = ((HT.sIx n n hi : Nat) : Int) /\ (sliceBounds lo hi none n).2.2 = 1 := by
 refine ⟨?_, ?_, rfl⟩
 ·cases lo with
  | none => simp [sliceBounds, HT.sIx]
  | some i =>
   simp only [sliceBounds, HT.sIx, Option.getD_none, show (1 : Int) > 0 by decide, if_true]
   by_cases h : i < 0
   ·simp only [h, if_true] <;> omega
   ·simp only [h, if_false] <;> omega
 ·cases hi with
  | none => simp [sliceBounds, HT.sIx]
  | some i =>
   simp only [sliceBounds, HT.sIx, Option.getD_none, show (1 : Int) > 0 by decide, if_true]
   by_cases h : i < 0
   ·simp only [h, if_true] <;> omega
   ·simp only [h, if_false] <;> omega
theorem slicePick_cut (its : List Value) (lo hi : Option Int) : slicePick its.toArray lo hi none = ((its.drop (HT.sIx its.length 0 lo)).take (HT.sIx its.length its.length hi - HT.sIx its.length 0 lo)).toArray := by
 obtain ⟨h1, h2, h3⟩ := slice_bounds lo hi its.toArray.size
 unfold slicePick
 rw [h1, h2, h3]
 simp only [sliceRange_one, pick_run, List.size_toArray] <;> rfl
def rSlL (K : PySem.W.Frag) : V -> Option Int -> Option Int -> Hp -> VK -> Prop := fun x lo hi H Q => ∃ a xs, x = .ref a /\ SqL K H a xs /\ ∀ p, H p = none -> Q (.ref p) (upd H p (.lst (cutV xs lo hi)))
theorem sl_list : SlR X (rSlL X.K) := by
 intro pins s σ H x v vl vu lo hi sl Q I rx hs pl pu h
 obtain ⟨a, xs, rfl, hx, q⟩ := h
 cases rx
 obtain ⟨its, r, ht, hz⟩ := I.list hx
 have hlen := r.length
 refine ⟨"list", _, slot_list_getitem.lookup, ht.isList.typeIs, ?_⟩
 refine wpAny_getItem_list_slice ht.isList hs pl pu .none (by simp) ?_ (by rw [List.size_toArray] <;> omega)
 rw [slicePick_cut, <- hlen]
 refine ⟨.ref s.heap.objs.size, _, I.laid (t' := s.toks) (o := .lst (cutV xs lo hi)) (fun b ob q => Heap.get?_push_of_some _ q) (Nat.le_refl _) ?_, rfl, q _ (I.hok.fresh (Nat.le_refl _))⟩
 exact ⟨Nat.le_trans (cutV_length xs lo hi) hz, _, 0, (r.drop (HT.sIx xs.length 0 lo)).take (HT.sIx xs.length xs.length hi - HT.sIx xs.length 0 lo), Heap.get?_push_size _ rfl⟩
def eqV : V -> V -> Bool
 | .non, .non => true
 | .bl a, .bl b => a == b
 | .bl a, .int b => (if a then 1 else 0) == b
 | .int a, .bl b => a == (if b then 1 else 0)
 | .int a, .int b => a == b
 | .str a, .str b => a == b
 | _, _ => false
def inV (x : V) (xs : List V) : Bool := xs.any fun y => eqV y x
theorem call_len_seq : CallR X (.builtin "len") (fun xs H Q => ∃ p ys, xs = [.ref p] /\ (SqL X.K H p ys \/ SqT X.K H p ys) /\ Q (.int ys.length) H) := by
 intro pins s σ H xs us Q I r h
 obtain ⟨p, ys, rfl, hq, q⟩ := h
 obtain ⟨u, rfl, rx⟩ := vals1 r
 cases rx
 have hn := line63
 rcases hq with hq | hq
 ·obtain ⟨its, r', pl, hz⟩ := I.list hq
  have hlen := r'.length
  exact Calls.call_len_list pl.isList (by simp only [List.size_toArray] <;> omega) ⟨.int ys.length, H, I.tok _, ⟨s.toks + 1, by rw [List.size_toArray, hlen]⟩, q⟩
 ·obtain ⟨its, r', pl, hz⟩ := I.tuple hq
  have hlen := r'.length
  exact len_tuple pl (by simp only [List.size_toArray] <;> omega) ⟨.int ys.length, H, I.tok _, ⟨s.toks + 1, by rw [List.size_toArray, hlen]⟩, q⟩
theorem call_len_str : CallR X (.builtin "len") (fun xs H Q => ∃ z, xs = [.str z] /\ z.length <= sizeLine /\ Q (.int z.length) H) := by
 intro pins s σ H xs us Q I r h
 obtain ⟨z, rfl, hz, q⟩ := h
 obtain ⟨u, rfl, t, rfl⟩ := vals1 r
 have hn := line63
 exact len_str (by omega) ⟨.int z.length, H, I.tok _, ⟨_, rfl⟩, q⟩
theorem CallR.or {f : Value} {r r' : List V -> Hp -> VK -> Prop} (h : CallR X f r) (h' : CallR X f r') : CallR X f (fun xs H Q => r xs H Q \/ r' xs H Q) := by
 intro pins s σ H xs us Q I rs q
 rcases q with q | q
 ·exact h pins s σ H xs us Q I rs q
 ·exact h' pins s σ H xs us Q I rs q
theorem call_list_of : CallR X (.type "list") (fun xs H Q => ∃ p ys, xs = [.ref p] /\ (SqL X.K H p ys \/ SqT X.K H p ys) /\ ∀ l, H l = none -> Q (.ref l) (upd H l (.lst ys))) := by
 intro pins s σ H xs us Q I r h
 obtain ⟨p, ys, rfl, hq, q⟩ := h
 obtain ⟨u, rfl, rx⟩ := vals1 r
 cases rx
 have fin : ∀ (its : List Value), Vals ys its -> ys.length <= sizeLine -> ∀ (h' : Heap) (c' : Nat), (∀ b o', s.heap.get? b = some o' -> h'.get? b = some o') →
   h'.get? s.heap.objs.size = some { cls := .type "list", dict := none, data := .seq its.toArray c', slots := #[] } -> EP X pins σ Q (.ref s.heap.objs.size) { s with heap := h' } := fun its r' hz h' c' kp e =>
  ⟨.ref s.heap.objs.size, _, I.laid (t' := s.toks) kp (Nat.le_refl _) (show ObjOk X.prog X.w _ h' _ (.lst ys) from ⟨hz, its, c', r', e⟩), rfl, q _ (I.hok.fresh (Nat.le_refl _))⟩
 rcases hq with hq | hq
 ·obtain ⟨its, r', pl, hz⟩ := I.list hq
  have hlen := r'.length
  obtain ⟨o, ho, hc, n, hd⟩ := pl.isList
  exact call_list_seq p (.inl rfl) ho hc hd (fun h' c' kp e => fin its r' hz h' c' kp e) (by simp only [List.size_toArray] <;> omega)
 ·obtain ⟨its, r', pl, hz⟩ := I.tuple hq
  have hlen := r'.length
  obtain ⟨o, ho, hc, n, hd⟩ := pl
  exact call_list_seq p (.inr rfl) ho hc hd (fun h' c' kp e => fin its r' hz h' c' kp e) (by simp only [List.size_toArray] <;> omega)
def tyV (K : PySem.W.Frag) (T : String) (x : V) (H : Hp) : Prop := match x with
 | .str _ => T = "str"
 | .int _ => T = "int"
 | .ref p => (T = "list" /\ ∃ xs, SqL K H p xs) \/ (T = "tuple" /\ ∃ o, K.lookup p = some o /\ o.cls = .type "tuple" /\ o.dict = none) \/
   (T = "dict" /\ ((∃ kvs, H p = some (.dK kvs)) \/ ∃ kvs, H p = some (.dT kvs))) \/ (T = "set" /\ ∃ S n, H p = some (.set S n))
 | _ => False
theorem tyV_is {pins : List (Addr × Obj)} {σ : St} {H : Hp} {s : Shared} {T : String} {x : V} {v : Value} (I : Inv X pins σ H s) (r : RelV x v) (ty : tyV X.K T x H) :
  s.TypeIs v T /\ ∀ a, v = .ref a -> ∃ ob, s.heap.get? a = some ob /\ ob.dict = none := by
 cases x with
 | str z =>
  obtain ⟨t, rfl⟩ := r
  cases (show T = "str" from ty)
  exact ⟨typeIs_str s z t, fun _ e => nomatch e⟩
 | int i =>
  obtain ⟨t, rfl⟩ := r
  cases (show T = "int" from ty)
  exact ⟨typeIs_int s i t, fun _ e => nomatch e⟩
 | ref p =>
  cases r
  rcases ty with ⟨rfl, xs, hq⟩ | ⟨rfl, o, hk, hc, hd⟩ | ⟨rfl, hk⟩ | ⟨rfl, S, n, hk⟩
  ·obtain ⟨its, _, pl, _⟩ := I.list hq
   refine ⟨pl.isList.typeIs, fun a e => ?_⟩
   cases e
   obtain ⟨o, n, e, c, hd, _⟩ := pl
   exact ⟨o, e, hd⟩
  ·refine ⟨⟨o, I.kIn p o hk, hc⟩, fun a e => ?_⟩
   cases e
   exact ⟨o, I.kIn _ o hk, hd⟩
  ·have z : ∃ o, s.heap.get? p = some o /\ o.ExactDict := by
    rcases hk with ⟨kvs, hk⟩ | ⟨kvs, hk⟩
    ·obtain ⟨_, _, _, _, o, _, _, e, ex, _⟩ := I.hok p _ hk
     exact ⟨o, e, ex⟩
    ·obtain ⟨_, _, _, _, o, _, _, e, ex, _⟩ := I.hok p _ hk
     exact ⟨o, e, ex⟩
   obtain ⟨o, e, ex⟩ := z
   refine ⟨⟨o, e, ex.1⟩, fun a e2 => ?_⟩
   cases e2
   exact ⟨o, e, ex.2.1⟩
  ·obtain ⟨o, _, _, _, e, ex, _⟩ := I.hok p _ hk
   refine ⟨⟨o, e, ex.1⟩, fun a e2 => ?_⟩
   cases e2
   exact ⟨o, e, ex.2.1⟩
 | _ => exact False.elim ty
def tBM (K : PySem.W.Frag) (T : String) (r : V -> List V -> Hp -> VK -> Prop) (to : TE) (t : TA) : TE := fun σ H Q => to σ H fun x H1 => tyV K T x H1 /\ t σ H1 fun xs H2 => r x xs H2 Q
variable {o e : Expr} {es : List Expr} {to : TE} {t : TA} {name : Str} {apos cpos : Pos} {T id : String} {r : V -> List V -> Hp -> VK -> Prop}
theorem pe_bm (pa : PlainAttrs T) (slot : Slot T name id) (hty : typeOf (.builtin id) = pure (.type "method_descriptor")) (hm : MtR X id r) (ho : PE X o to) (ha : PA X (e :: es) t)
  (hbase : attributeBase o name X.env (eval o X.env) = eval o X.env := by rfl)
  (hfew : ((backTo cpos (starEach (e :: es) X.env)).all (fun x => !x.1) && (backToKw cpos (keywordEach [] X.env)).all (fun x => x.1.isSome)
   && decide ((e :: es).length + ([] : List Keyword).length + (if ([] : List Keyword).isEmpty then 0 else 1) < 30)) = true := by rfl)
  (hline : (apos.endLine == cpos.line) = true := by rfl) (hs : starEach (e :: es) X.env = (false, eval e X.env) :: starEach es X.env := by rfl) (hplain : (backTo cpos (starEach es X.env)).any (·.1) = false := by rfl) :
  PE X (.Call (.Attribute o name apos) (e :: es) [] cpos) (tBM X.K T r to t) := by
 intro pins s σ H Q I h
 refine wpAny_Call_method_late hbase hfew hline rfl (thn (ho pins s σ H _ I h) fun v s1 ⟨x, H1, I1, r1, ty, q1⟩ => ?_)
 obtain ⟨h1, h2⟩ := tyV_is I1 r1 ty
 refine ⟨T, id, pa, slot, hty, h1, h2, ?_⟩
 have hA := ha cpos pins s1 σ H1 _ I1 q1
 rw [hs] at hA ⊢
 refine Calls.callWith_builtin (by show (false || (backTo cpos (starEach es X.env)).any (·.1)) = false; rw [hplain] <;> rfl) (Calls.evalArgs_plain ?_)
 exact thn hA fun us s2 ⟨vs, H2, I2, r2, q2⟩ => hm pins s2 σ H2 x vs v us Q I2 r1 r2 q2
end
end L2
namespace L2
open PySem PySem.Spec PyProof.Rows
def MtM (X : Cx) (id : String) (r : V -> List V -> Hp -> VK -> Prop) : Prop :=
 ∀ (pins : List (Addr × Obj)) (s : Shared) (σ : St) (H : Hp) (x : V) (xs : List V) (v : Value) (us : List Value) (Q : VK), Inv X pins σ H s -> RelV x v -> Vals xs us -> r x xs H Q →
  wpAny (model X.prog X.w) X.A (call (.builtin id) (v :: us)) (EP X pins σ Q) X.xe s
theorem Vals.one : ∀ {x : V} {us : List Value}, Vals [x] us -> ∃ u, us = [u] /\ RelV x u
 | _, _, .cons r .nil => ⟨_, rfl, r⟩
theorem Vals.two : ∀ {x y : V} {us : List Value}, Vals [x, y] us -> ∃ u v, us = [u, v] /\ RelV x u /\ RelV y v
 | _, _, _, .cons r (.cons q .nil) => ⟨_, _, rfl, r, q⟩
theorem Vals.zero : ∀ {us : List Value}, Vals [] us -> us = []
 | _, .nil => rfl
theorem Vals.reverse {xs : List V} {us : List Value} (h : Vals xs us) : Vals xs.reverse us.reverse := by
 induction h with
 | nil => exact .nil
 | cons r t ih => rw [List.reverse_cons, List.reverse_cons]; exact Vals.append ih (.cons r .nil)
theorem Vals.rep {xs : List V} {us : List Value} (h : Vals xs us) : ∀ k : Nat, Vals (List.replicate k xs).flatten (List.replicate k us).flatten
 | 0 => .nil
 | k + 1 => by
  rw [List.replicate_succ, List.replicate_succ, List.flatten_cons, List.flatten_cons]
  exact Vals.append h (Vals.rep h k)
theorem foldl_rep (its : List Value) : ∀ (k : Nat) (acc : List Value),
  List.foldl (fun x1 x2 => x1 ++ x2) acc.toArray (List.replicate k its.toArray) = (acc ++ (List.replicate k its).flatten).toArray
 | 0, acc => by simp
 | k + 1, acc => by
  have e : acc.toArray ++ its.toArray = (acc ++ its).toArray := by simp
  have e2 : (acc ++ its) ++ (List.replicate k its).flatten = acc ++ (List.replicate (k + 1) its).flatten := by
   rw [List.replicate_succ, List.flatten_cons, List.append_assoc]
  rw [<- e2, <- foldl_rep its k (acc ++ its), <- e, List.replicate_succ, List.foldl_cons]
section
variable {X : Cx} {pins : List (Addr × Obj)} {σ : St} {H : Hp} {s : Shared} {l b : Addr} {xs ys zs : List V}
theorem Inv.lset {its its' : List Value} {n : Nat} {f : Array Value -> Array Value} {t' : Nat} (I : Inv X pins σ H s) (hH : H l = some (.lst xs))
  (e : s.heap.get? l = some { cls := .type "list", data := .seq its.toArray n }) (hf : f its.toArray = its'.toArray) (hv : Vals ys its') (hz : ys.length <= sizeLine) :
  Inv X pins σ (upd H l (.lst ys)) { s with heap := s.heap.update l (Obj.mapSeq f), toks := t' } := by
 have q := PySem.IsL.update e f
 rw [hf] at q
 refine I.write (x := l) (e := l) (by rw [hH]; exact trivial) (.inl rfl) (fun b' u hb hu => (Heap.get?_update_other s.heap (Obj.mapSeq f) (Ne.symm hb)).trans hu) ⟨_, q⟩ ?_
 exact ⟨hz, its', _, hv, q⟩
theorem Inv.lnew {its : List Value} {t' : Nat} (I : Inv X pins σ H s) (hv : Vals ys its) (hz : ys.length <= sizeLine) :
  Inv X pins σ (upd H s.heap.objs.size (.lst ys)) { s with heap := s.heap.push { cls := .type "list", data := .seq its.toArray }, toks := t' } :=
 I.laid (fun _ _ q => Heap.get?_push_of_some _ q) (Nat.le_refl _) ⟨hz, its, 0, hv, Heap.get?_push_size _ rfl⟩
theorem Inv.fresh (I : Inv X pins σ H s) : H s.heap.objs.size = none := I.hok.fresh (Nat.le_refl _)
theorem Inv.lstM (I : Inv X pins σ H s) (hH : H l = some (.lst xs)) : xs.length <= sizeLine /\ ∃ (its : List Value) (n : Nat), Vals xs its /\ xs.length = its.length /\ s.heap.get? l = some { cls := .type "list", data := .seq its.toArray n } := by
 obtain ⟨z, its, n, r, e⟩ := I.hok l _ hH
 exact ⟨z, its, n, r, r.length, e⟩
theorem notLongL {n : Nat} (h : n <= sizeLine) : Builtin.List.listTooLong n = false := by
 unfold Builtin.List.listTooLong
 exact decide_eq_false (by omega)
end
section
variable {X : Cx}
def rAppend : V -> List V -> Hp -> VK -> Prop := fun x vs H Q => ∃ l xs y, x = .ref l /\ vs = [y] /\ H l = some (.lst xs) /\ xs.length < sizeLine /\ Q .non (upd H l (.lst (xs ++ [y])))
theorem mt_append : MtM X "list.append" rAppend := by
 intro pins s σ H x vs v us Q I rx rv h
 obtain ⟨l, xs, y, rfl, rfl, hH, hz, q⟩ := h
 cases rx
 obtain ⟨u, rfl, ru⟩ := rv.one
 obtain ⟨z, its, n, r, hl, e⟩ := I.lstM hH
 refine call_meets F.slot_list_append ⟨_, e, rfl⟩ F.entry_list_append (F.args_list_append_2 _ _) (PySem.list_append l its.toArray n u (by rw [List.size_toArray]; omega)) ⟨e, ?_⟩
 refine ⟨.non, _, I.lset (its' := its ++ [u]) hH e (by simp) (r.append (.cons ru .nil)) ?_, rfl, q⟩
 rw [List.length_append, List.length_singleton]
 omega
def rExtend : V -> List V -> Hp -> VK -> Prop := fun x vs H Q => ∃ l b xs zs, x = .ref l /\ vs = [.ref b] /\ H l = some (.lst xs) /\ H b = some (.lst zs) /\ xs.length + zs.length <= sizeLine /\ Q .non (upd H l (.lst (xs ++ zs)))
theorem mt_extend : MtM X "list.extend" rExtend := by
 intro pins s σ H x vs v us Q I rx rv h
 obtain ⟨l, b, xs, zs, rfl, rfl, hH, hB, hz, q⟩ := h
 cases rx
 obtain ⟨u, rfl, ru⟩ := rv.one
 cases ru
 obtain ⟨z, its, n, r, hl, e⟩ := I.lstM hH
 obtain ⟨z2, its2, n2, r2, hl2, e2⟩ := I.lstM hB
 have hsz : its.toArray.size + its2.toArray.size <= sizeLine := by rw [List.size_toArray, List.size_toArray]; omega
 have hlong : ¬ (!its.toArray.isEmpty && Builtin.List.listTooLong (its.toArray.size + its2.toArray.size)) = true := by
  rw [notLongL hsz, Bool.and_false]
  exact Bool.false_ne_true
 refine call_meets F.slot_list_extend ⟨_, e, rfl⟩ F.entry_list_extend (F.args_list_extend_2 _ _)
  (AutoSeq1.list_extend_list_list_0 l its.toArray n b its2.toArray n2 hlong (by rw [List.size_toArray]; omega) (by omega)) ⟨e, e2, ?_⟩
 refine ⟨.non, _, I.lset (its' := its ++ its2) hH e (by simp) (r.append r2) ?_, rfl, q⟩
 rw [List.length_append]
 omega
def rCat : R2 := fun x y H Q => ∃ l b xs zs, x = .ref l /\ y = .ref b /\ H l = some (.lst xs) /\ H b = some (.lst zs) /\ xs.length + zs.length <= sizeLine /\ ∀ p, H p = none -> Q (.ref p) (upd H p (.lst (xs ++ zs)))
theorem op_cat : OpR X (binaryOp .Add) rCat := by
 intro pins s σ H x y v u Q I rx ry h
 obtain ⟨l, b, xs, zs, rfl, rfl, hH, hB, hz, q⟩ := h
 cases rx
 cases ry
 obtain ⟨z, its, n, r, hl, e⟩ := I.lstM hH
 obtain ⟨z2, its2, n2, r2, hl2, e2⟩ := I.lstM hB
 refine PySem.P.add_list e e2 ?_ (by rw [List.size_toArray, List.size_toArray]; omega)
 have ea : its.toArray ++ its2.toArray = (its ++ its2).toArray := by simp
 rw [ea]
 exact ⟨.ref _, _, I.lnew (t' := s.toks) (r.append r2) (by rw [List.length_append]; omega), rfl, q _ I.fresh⟩
def rRep : R2 := fun x y H Q => ∃ l k xs, x = .ref l /\ y = .int k /\ H l = some (.lst xs) /\ -(2 ^ 63) <= k /\ k < 2 ^ 63 /\ xs.length * k.toNat <= sizeLine /\
 ∀ p, H p = none -> Q (.ref p) (upd H p (.lst (List.replicate k.toNat xs).flatten))
theorem len_rep {α : Type} (xs : List α) (k : Nat) : (List.replicate k xs).flatten.length = k * xs.length := by
 induction k with
 | zero => simp
 | succ k ih => rw [List.replicate_succ, List.flatten_cons, List.length_append, ih, Nat.succ_mul, Nat.add_comm]
theorem op_rep : OpR X (binaryOp .Mult) rRep := by
 intro pins s σ H x y v u Q I rx ry h
 obtain ⟨l, k, xs, rfl, rfl, hH, h1, h2, hz, q⟩ := h
 cases rx
 obtain ⟨t, rfl⟩ := ry
 obtain ⟨z, its, n, r, hl, e⟩ := I.lstM hH
 have hlen : its.toArray.size * k.toNat <= sizeLine := by rw [List.size_toArray, <- hl]; exact hz
 have hcap : ¬ its.toArray.size * k.toNat > (2 ^ 63 - 1) / 8 := by
  have : (sizeLine : Nat) <= (2 ^ 63 - 1) / 8 := by decide
  omega
 have hfit : ¬ (!Builtin.List.listFitsIndex k) = true := by
  rw [fitsIndex_both h1 h2]
  exact Bool.false_ne_true
 have hlong : ¬ Builtin.List.listTooLong (its.toArray.size * k.toNat) = true := by
  rw [notLongL hlen]
  exact Bool.false_ne_true
 have hnew : List.foldl (fun x1 x2 => x1 ++ x2) #[] (List.replicate (if its.toArray.isEmpty = true then 0 else k.toNat) its.toArray) = (List.replicate k.toNat its).flatten.toArray := by
  have f0 : ∀ m : Nat, List.foldl (fun x1 x2 => x1 ++ x2) #[] (List.replicate m its.toArray) = (List.replicate m its).flatten.toArray := fun m => by
   have := foldl_rep its m []
   rw [List.nil_append] at this
   exact this
  rw [f0]
  cases its with
  | nil => simp
  | cons a r' => rw [if_neg (by simp)]
 refine wpAny_binaryOp_repeat_ref (T := "list") (U := "int") (by decide) ⟨_, e, rfl⟩ (fun s' => typeIs_int s' k t) noFill_list_mul F.fills_int_mul F.slot_int_rmul repeat_list F.slot_int_index.lookup
  (call_meets F.slot_int_rmul (typeIs_int s k t) F.entry_int_rmul (F.args_int_rmul_2 _ _) (int___rmul___int_list k t l its.toArray n)
   ⟨e, rfl, ⟨_, e, rfl⟩, call_meets F.slot_list_mul ⟨_, e, rfl⟩ F.entry_list_mul (F.args_list_mul_2 _ _) (AutoListH.list___mul___list_int_3 l its.toArray n k t hfit hcap hlong) ⟨e, ?_⟩⟩)
 rw [hnew]
 exact ⟨.ref _, _, I.lnew (t' := s.toks) (r.rep k.toNat) (by rw [len_rep, Nat.mul_comm]; exact hz), rfl, q _ I.fresh⟩
end
end L2
namespace Att
open PySem PySem.W PySem.Calls PyProof.Rows
theorem ints_of_wellAll {P : Params} {h : Heap} : ∀ (ns : List Int) (vs : List Value), WellAll P h vs (ns.map WData.int) -> IntsAre vs ns := by
 intro ns
 induction ns with
 | nil =>
  intro vs w
  rw [List.map_nil] at w
  cases w
  exact .nil
 | cons n ns ih =>
  intro vs w
  rw [List.map_cons] at w
  cases w with
  | cons a b =>
   cases a
   exact .cons _ _ (ih _ b)
theorem script_of {l : OpenLaw} {n : Nat} (hn : l.most = some n) {P : Params} {h : Heap} {args : List WData} {vals : List Value}
  (hpre : l.row.toRowW.claim.pre args = true) (hwl : WellAll P h vals args) :
  ∃ a vs ns, vals = [Value.ref a] /\ args = [WData.list (ns.map WData.int)] /\ h.get? a = some { cls := .type "list", data := .seq vs.toArray } /\ IntsAre vs ns /\ ns.length <= n := by
 have hsh : WShape.hasAll [] args [.list .int] = true := (pre_splitW hpre).1
 have hc : l.pre.holds [] { args := args } = true := (pre_splitW hpre).2
 obtain ⟨d, r, rfl, h1, h2⟩ := hasAllW_cons hsh
 obtain rfl := hasAllW_nil h2
 obtain ⟨xs, rfl, h3⟩ := hasW_list h1
 obtain ⟨ns, rfl⟩ := items_int h3
 have hlen : ns.length <= n := by
  unfold OpenLaw.pre at hc
  have h4 : (WTm.not (.lt (.lit (.int (n : Int))) (.len (.arg 0)))).holds [] { args := [.list (ns.map .int)] } = true := by
   have h4 := (holds_andW hc).1
   rw [hn] at h4
   exact h4
  have h5 := condW_of h4 (w_not (w_lt w_lit (w_len_list (w_arg rfl))))
  rw [List.length_map] at h5
  refine Nat.le_of_not_lt fun q => ?_
  have q' : (n : Int) < ((ns.length : Nat) : Int) := by omega
  first
   | (rw [decide_eq_true q'] at h5; exact absurd h5 (by decide))
   | (simp at h5; omega)
 cases hwl with
 | cons w1 w2 =>
  cases w2
  cases w1 with
  | list ho hall => exact ⟨_, _, ns, rfl, rfl, ho, ints_of_wellAll ns _ hall, hlen⟩
theorem post_true (l : OpenLaw) (args : List WData) : l.row.toRowW.claim.post args (.bool true) args = true :=
 postW_of (r := l.row.toRowW) (X := (true == true))
  (show WShape.has [] (.bool true) .bool = true by first | rfl | decide | simp [WShape.has, WShape.arms, WShape.armsAll])
  (show (WTm.eq .res (.lit (.bool true))).value [] { args := args, res := some (.bool true), after := args } = some (.bool (true == true)) from w_eq_bool (w_res rfl) w_lit) rfl
theorem attach_call {l : OpenLaw} {n : Nat} {q : Program} {loose : List Str} {XP : (Str -> Option Value) -> Heap -> Prop} {YP : World -> Heap -> Prop} {d : DefRec}
  (hn : l.most = some n) (hdf : d.params.defaults = [])
  (call : ∀ (w : World) (s₀ s₁ : Shared) (mg mb : Str -> Option Value) (fa : Addr) (o : Obj) (pm cd doc : Value) (a : Addr) (vs : List Value) (ns : List Int),
   Ground q loose [] XP w s₀ mg mb s₁.heap -> YP w s₁.heap →
   s₁.heap.get? fa = some o -> o.data = .func (docDef d.name d.params d.body d.scope pm cd doc) -> s₁.heap.CodeRec cd d.name -> mg d.name = some (.ref fa) →
   s₁.heap.get? a = some { cls := .type "list", data := .seq vs.toArray } -> IntsAre vs ns -> ns.length <= n -> s₁.gens = #[] →
   codeAny (model l.prog w) callerA (.call (.ref fa) ⟨[.ref a], []⟩) (fun r s' => r = .ok (.ret (.bool true)) /\ OldK s₁.heap s'.heap /\ s'.os = s₁.os /\ AllBare s'.gens) s₁) :
  WalkO q loose XP YP l.row.toRowW d [] (fun f vs => PySem.call f vs) := by
 intro w s₀ s₁ mg mb G Y fa o pm cd doc dV kV ho hd hcd hD hmg hg args vals as hpre hlay hrd hwl hlo
 obtain rfl : dV = .none := Dflts.none hD hdf
 obtain rfl : kV = .none := Dflts.noKw hD
 obtain ⟨a, vs, ns, rfl, rfl, hobj, hints, hlen⟩ := script_of hn hpre hwl
 refine enter_call (codeAny_mono (call w s₀ s₁ mg mb fa o pm cd doc a vs ns G Y ho (fd_plain hd) hcd hmg hobj hints hlen hg) fun r s' hq => ?_)
 obtain ⟨rfl, h2, h3, h4⟩ := hq
 exact ⟨.inl ⟨.bool true, .bool true, [], rfl, fun _ => rfl, .bool true, post_true l _, fun _ => ⟨List.Pairwise.nil, fun _ hm => (nomatch hm)⟩⟩, h2, h3, h4⟩
end Att
namespace L2
open PySem PySem.Spec PyProof.Rows
theorem vals_ints : ∀ {vs : List Value} {ns : List Int}, IntsAre vs ns -> Vals (ns.map V.int) vs
 | _, _, .nil => .nil
 | _, _, .cons n t h => .cons ⟨t, rfl⟩ (vals_ints h)
def Only (H : Hp) : Prop := ∀ b, H b = none \/ ∃ o xs, H b = some (.frz o (.lst xs))
theorem law_call {P : Program} {w : World} {K : PySem.W.Frag} {mg mb : Str -> Option Value} {CX : CXT} {k : Nat} {fa a : Addr} {fd : FuncData} {x : Str} {sp : Sp} {s₁ : Shared} {vs : List Value} {ns : List Int}
  (KX : K.In s₁.heap) (hns : s₁.heap.Ns mainGlobals mg) (hb : s₁.heap.Ns builtinsNs mb) (hbb : ∀ x : Str, x ≠ "__name__" -> mb x = bootBuiltins x) (hlim : s₁.heap.NoLimit) (hg : s₁.gens = #[])
  (ha : s₁.heap.get? a = some { cls := .type "list", data := .seq vs.toArray }) (hi : IntsAre vs ns) (hl : ns.length <= sizeLine) (hr : Room k callerA)
  (F : ∀ base : Heap, K.In base -> base.Ns mainGlobals mg -> FnOk P w K mg base CX k fa fd [x] sp) (hbind : ∀ (s : Shared) (u : Value), BindsTo s fd ⟨[u], []⟩ [(x, u)])
  (hsp : ∀ H : Hp, Only H -> SqL K H a (ns.map V.int) -> sp [.ref a] H (fun v _ => v = .bl true) fun _ _ _ => False)
  (hCX : ∀ H e s', CX [] H s₁ (fun _ _ _ => False) e s' -> False) :
  codeAny (model P w) callerA (.call (.ref fa) ⟨[.ref a], []⟩) (fun r s' => r = .ok (.ret (.bool true)) /\ OldK s₁.heap s'.heap /\ s'.os = s₁.os /\ AllBare s'.gens) s₁ := by
 have rv := vals_ints hi
 have lenV := hi.length
 have core : ∀ H : Hp, Only H -> SqL K H a (ns.map V.int) -> HOk P w H s₁.heap -> (∀ b, H b ≠ none -> b = a) -> (H a ≠ none -> K.lookup a = none) →
   codeAny (model P w) callerA (.call (.ref fa) ⟨[.ref a], []⟩) (fun r s' => r = .ok (.ret (.bool true)) /\ OldK s₁.heap s'.heap /\ s'.os = s₁.os /\ AllBare s'.gens) s₁ := by
  intro H hO hS hok hA hK
  have base_of : ∀ {b : Addr} {o : Obj}, s₁.heap.get? b = some o -> H b = none -> (hidT s₁.heap H).get? b = some o := fun e n => hidT_get e n
  have noA : ∀ {b : Addr} {o : Obj} {es : Array DictEntry} {ep : Nat}, s₁.heap.get? b = some o -> o.data = .dict es ep -> H b = none := fun {b o es ep} e d => by
   cases q : H b with
   | none => rfl
   | some u =>
    have e' : b = a := hA b (by rw [q]; simp)
    subst e'
    rw [ha] at e; cases e
    have d' : Data.seq vs.toArray _ = Data.dict es ep := d
    cases d'
  have nsK : ∀ {b : Addr} {m : Str -> Option Value}, s₁.heap.Ns b m -> (hidT s₁.heap H).Ns b m := fun {b m} ⟨o, es, ep, e, d, r⟩ => ⟨o, es, ep, base_of e (noA e d), d, r⟩
  have hKb : K.In (hidT s₁.heap H) := fun b o e => base_of (KX b o e) (by
   cases q : H b with
   | none => rfl
   | some u =>
    have e' : b = a := hA b (by rw [q]; simp)
    subst e'
    rw [hK (by rw [q]; simp)] at e; cases e)
  have hM : Mod K mg (hidT s₁.heap H) := ⟨hKb, nsK hns, ⟨mb, nsK hb, hbb⟩, let ⟨mc, h1, h2⟩ := hlim; ⟨mc, nsK h1, h2⟩⟩
  have e0 : Env0 P w K mg (hidT s₁.heap H) callerA [] s₁ H := ⟨rfl, hM, fun b o e => of_hidT e, Nat.le_of_eq (hidT_size _ _), trivial, fun b hb => absurd (show b ∈ ([] : List Addr) from hb) (by simp), hok, .of_eq hg⟩
  refine codeAny_mono ((F _ hKb (nsK hns)).run callerA [] s₁ H ⟨[.ref a], []⟩ [.ref a] [.ref a] _ _ hr e0 (hbind s₁ (.ref a)) (.cons rfl .nil) (hsp H hO hS)) fun r s' h => ?_
  cases r with
  | error e => exact (hCX H e s' h).elim
  | ok fl =>
   cases fl with
   | next => exact False.elim h
   | brk => exact False.elim h
   | cont => exact False.elim h
   | ret u =>
    obtain ⟨v, H', os, bare, un, hok', r', q⟩ := h
    have q' : v = .bl true := q
    subst q'
    obtain rfl : u = Value.bool true := r'
    refine ⟨rfl, OldK.of_keep fun b o e => ?_, os, bare⟩
    cases q : H b with
    | none => exact un.keep b o e q (by intro z; exact absurd (show b ∈ ([] : List Addr) from z) (by simp)) (by simp)
    | some u =>
     rcases hO b with z | ⟨ob, xs, z⟩
     ·rw [q] at z; cases z
     ·have z2 := un.frzs b ob _ z
      obtain ⟨e1, _⟩ := hok b _ z
      obtain ⟨e2, _⟩ := hok' b _ z2
      rw [e] at e1; cases e1
      exact e2
 cases hk : K.lookup a with
 | some o =>
  have e := KX a o hk
  rw [ha] at e
  cases e
  refine core (fun _ => none) (fun _ => .inl rfl) (.inr ⟨_, vs.toArray, _, hk, rfl, rfl, rfl, by rw [List.size_toArray, lenV]; exact hl, by simpa using rv⟩) (fun b u z => by have z' : (none : Option HO) = some u := z; cases z') (fun b z => absurd rfl z) fun z => absurd rfl z
 | none =>
  refine core (fun b => if b = a then some (.frz { cls := .type "list", data := .seq vs.toArray } (.lst (ns.map V.int))) else none) (fun b => ?_) (.inl (.inr ⟨{ cls := .type "list", data := .seq vs.toArray }, if_pos rfl⟩)) (fun b u z => ?_) (fun b z => ?_) fun _ => hk
  ·by_cases hb : b = a
   ·exact .inr ⟨_, _, if_pos hb⟩
   ·exact .inl (if_neg hb)
  ·by_cases hb : b = a
   ·have z' := (if_pos hb).symm.trans z
    cases z'
    subst hb
    exact ⟨ha, by rw [List.length_map]; exact hl, vs, _, rv, ha⟩
   ·have z' := (if_neg hb).symm.trans z
    cases z'
  ·by_cases hb : b = a
   ·exact hb
   ·exact absurd (if_neg hb) z
end L2
namespace L2
open PySem PySem.Spec PyProof.Rows
theorem walk_of {l : PySem.W.OpenLaw} {n k : Nat} {q : Program} {loose : List Str} {XP : (Str -> Option Value) -> Heap -> Prop} {YP : World -> Heap -> Prop} {d : DefRec} {K : Params -> PySem.W.Frag} {CX : World -> CXT} {sp : World -> Sp} {x : Str}
  (hn : l.most = some n) (hn2 : n <= sizeLine) (hdf : d.params.defaults = []) (hr : Room k callerA)
  (hY : ∀ (w : World) (h : Heap), YP w h -> (K w.params).In h)
  (F : ∀ (w : World) (mg : Str -> Option Value) (fa : Addr) (h : Heap), (K w.params).In h -> h.Ns mainGlobals mg -> mg d.name = some (.ref fa) →
   ∃ fd : FuncData, (∀ (s : Shared) (u : Value), BindsTo s fd ⟨[u], []⟩ [(x, u)]) /\
    ∀ base : Heap, (K w.params).In base -> base.Ns mainGlobals mg -> FnOk l.prog w (K w.params) mg base (CX w) k fa fd [x] (sp w))
  (hsp : ∀ (w : World) (H : Hp) (a : Addr) (ns : List Int), ns.length <= n -> Only H -> SqL (K w.params) H a (ns.map V.int) -> sp w [.ref a] H (fun v _ => v = .bl true) fun _ _ _ => False)
  (hCX : ∀ (w : World) (H : Hp) (s : Shared) (e : Value) (s' : Shared), CX w [] H s (fun _ _ _ => False) e s' -> False) :
  PySem.W.WalkO q loose XP YP l.row.toRowW d [] (fun f vs => PySem.call f vs) := by
 refine Att.attach_call hn hdf fun w s₀ s₁ mg mb fa o pm cd doc a vs ns G Y ho hd hcd hmg hobj hints hlen hg => ?_
 have KX := hY w _ Y
 obtain ⟨fd, hb, hF⟩ := F w mg fa _ KX G.T.g hmg
 exact law_call KX G.T.g G.T.b G.T.builtins G.T.nolimit hg hobj hints (Nat.le_trans hlen hn2) hr hF hb (fun H hO hS => hsp w H a ns hlen hO hS) fun H e s' => hCX w H s₁ e s'
end L2
namespace L2
open PySem PySem.Spec PyProof.Rows
def inClass (s : Stmt) (j : Nat) : Stmt := match s with
 | .ClassDef _ _ _ body _ _ _ _ _ _ _ => body.getD j (.Pass ⟨0, 0, 0, 0⟩)
 | _ => .Pass ⟨0, 0, 0, 0⟩
def defArgs (s : Stmt) : Arguments := match s with
 | .FunctionDef _ a _ _ _ _ _ _ _ _ => a
 | _ => { posonlyargs := [], args := [], vararg := none, kwonlyargs := [], kw_defaults := [], kwarg := none, defaults := [] }
def defBody (s : Stmt) : List Stmt := match s with
 | .FunctionDef _ _ b _ _ _ _ _ _ _ => b
 | _ => []
def defScope (s : Stmt) : Scope := match s with
 | .FunctionDef _ _ _ _ _ _ sc _ _ _ => sc
 | _ => { kind := .function, names := [], isGenerator := false, isCoroutine := false }
abbrev CX0 : CXT := fun _ _ _ _ _ _ => False
structure Fun (K : PySem.W.Frag) (x qual : Str) (st : Stmt) (f : Addr) (fd : FuncData) : Prop where
 ex : ∃ (oc : Value) (od : Option Addr) (kV doc pm : Value) (an : Option Addr) (cdv ct : Value) (osl : Array (Option Value)),
  fd = PySem.W.fnOf x qual (defArgs st) (defBody st) (defScope st) .none kV doc pm an cdv ct /\ K.lookup f = some ⟨oc, od, .func fd, osl⟩ /\ PySem.W.codeIn K cdv qual = true
 kp : PySem.W.keepIn K (.ref f) = true
section
variable {P : Program} {w : World} {K : PySem.W.Frag} {mg : Str -> Option Value} {base : Heap}
theorem Fun.ok {x qual : Str} {st : Stmt} {f : Addr} {fd : FuncData} {N ps : List Str} {k : Nat} {sp : Sp} (F : Fun K x qual st f fd) (S : FnScope N ps (defScope st)) (len : ∀ vs H Q E, sp vs H Q E -> vs.length = ps.length)
  (hbody : ∀ (cdv : Value) (A : Around) (outer : List Env) (s : Shared) (H : Hp) (vs : List V) (Q : VK) (E : XK), Room k (A.deeper (envOfC qual (defScope st) s.heap.objs.size f cdv)) -> sp vs H Q E →
   ∃ t, PSs (cxOf CX0 P w K mg base N qual (defScope st) f cdv A outer s H E).nox (defBody st) t /\ t { nx := fun _ H' => Q .non H', rt := Q } (start N vs) H) : FnOk P w K mg base CX0 (k + 1) f fd ps sp := by
 obtain ⟨oc, od, kV, doc, pm, an, cdv, ct, osl, rfl, lk, hcd⟩ := F.ex
 refine fn_of lk hcd S len fun A outer s H vs Q E hr hsp => ?_
 obtain ⟨t, h, q⟩ := hbody cdv A outer s H vs Q E hr hsp
 exact ⟨t, h.nox, q⟩
theorem Fun.binds {x qual : Str} {st : Stmt} {f : Addr} {fd : FuncData} {ps : List Str} (F : Fun K x qual st f fd)
  (h : ∀ (kV doc pm : Value) (an : Option Addr) (cdv ct : Value) (us : List Value), us.length = ps.length -> bindArgs (PySem.W.fnOf x qual (defArgs st) (defBody st) (defScope st) .none kV doc pm an cdv ct) ⟨us, []⟩ = pure (ps.zip us)) : Binds K fd ps [] := by
 obtain ⟨oc, od, kV, doc, pm, an, cdv, ct, osl, rfl, lk, hcd⟩ := F.ex
 exact .all (h kV doc pm an cdv ct)
theorem fun_mk {x qual : Str} {st : Stmt} {f : Addr} {oc : Value} {od an : Option Addr} {osl : Array (Option Value)} {kV doc pm cdv ct : Value} (l : K.lookup f = some ⟨oc, od, .func (PySem.W.fnOf x qual (defArgs st) (defBody st) (defScope st) .none kV doc pm an cdv ct), osl⟩)
  (c : PySem.W.codeIn K cdv qual = true) (k : PySem.W.keepIn K (.ref f) = true) : Fun K x qual st f (PySem.W.fnOf x qual (defArgs st) (defBody st) (defScope st) .none kV doc pm an cdv ct) := ⟨⟨oc, od, kV, doc, pm, an, cdv, ct, osl, rfl, l, c⟩, k⟩
end
theorem hu_of {A : Around} {k : Nat} (hr : Room k A) : A.units + 1 < cLine := Nat.lt_of_le_of_lt (Nat.add_le_add_left (by decide : 1 <= 64) _) hr.units
theorem iteF {A B : Prop} (h : B) : if false = true then A else B := by
 rw [if_neg Bool.false_ne_true]
 exact h
theorem iteT {A B : Prop} (h : A) : if true = true then A else B := by
 rw [if_pos rfl]
 exact h
def Same (H H' : Hp) : Prop := ∀ b o, H b = some o -> H' b = some o
theorem Same.refl (H : Hp) : Same H H := fun _ _ h => h
theorem Same.trans {H H1 H2 : Hp} (a : Same H H1) (b : Same H1 H2) : Same H H2 := fun c o h => b c o (a c o h)
theorem Same.free {H H' : Hp} (e : Same H H') {l : Addr} (h : H' l = Option.none) : H l = Option.none := by
 cases q : H l with
 | none => rfl
 | some o =>
  rw [e l o q] at h
  cases h
theorem Same.seq {K : PySem.W.Frag} {H H' : Hp} {a : Addr} {xs : List V} (e : Same H H') (h : SqL K H a xs) : SqL K H' a xs := by
 rcases h with (h | ⟨o, h⟩) | h
 ·exact .inl (.inl (e _ _ h))
 ·exact .inl (.inr ⟨o, e _ _ h⟩)
 ·exact .inr h
end L2
namespace L2
open PySem PySem.Spec PyProof.Rows
section
variable {κ : Type} [DecidableEq κ]
def valV (kvs : List (κ × V)) (k : κ) : Option V := (kvs.find? fun kv => decide (kv.1 = k)).map (·.2)
def putK (kvs : List (κ × V)) (k : κ) (v : V) : List (κ × V) :=
 if (kvs.any fun kv => decide (kv.1 = k)) = true then kvs.map (fun kv => if kv.1 = k then (kv.1, v) else kv) else kvs ++ [(k, v)]
def dropK (kvs : List (κ × V)) (k : κ) : List (κ × V) := kvs.filter fun kv => decide (kv.1 ≠ k)
theorem valV_pos {p : κ × V} {r : List (κ × V)} {k : κ} (e : p.1 = k) : valV (p :: r) k = some p.2 := by simp [valV, List.find?_cons, e]
theorem valV_neg {p : κ × V} {r : List (κ × V)} {k : κ} (e : ¬ p.1 = k) : valV (p :: r) k = valV r k := by simp [valV, List.find?_cons, e]
theorem valV_any (k : κ) : ∀ kvs : List (κ × V), (kvs.any fun kv => decide (kv.1 = k)) = (valV kvs k).isSome
 | [] => rfl
 | p :: r => by
  rw [List.any_cons]
  by_cases e : p.1 = k
  ·simp only [valV_pos e, decide_eq_true e, Bool.true_or, Option.isSome_some]
  ·rw [valV_neg e, decide_eq_false e, Bool.false_or]; exact valV_any k r
theorem length_putK (kvs : List (κ × V)) (k : κ) (v : V) : (putK kvs k v).length <= kvs.length + 1 := by
 unfold putK
 split
 ·rw [List.length_map]; omega
 ·rw [List.length_append, List.length_cons, List.length_nil]; omega
theorem RelO.isSome_eq {o : Option V} {u : Option Value} (r : RelO o u) : o.isSome = u.isSome := by
 cases o with
 | none => cases u with
  | none => rfl
  | some _ => exact (show False from r).elim
 | some _ => cases u with
  | none => exact (show False from r).elim
  | some _ => rfl
theorem RelO.getD {o : Option V} {u : Option Value} {d : V} {d' : Value} (r : RelO o u) (rd : RelV d d') : RelV (o.getD d) (u.getD d') := by
 cases o with
 | none => cases u with
  | none => exact rd
  | some _ => exact (show False from r).elim
 | some _ => cases u with
  | none => exact (show False from r).elim
  | some _ => exact r
theorem KV.val {kvs : List (κ × V)} {vs : List (κ × Value)} (r : KV kvs vs) (k : κ) : RelO (valV kvs k) (valueAt vs k) := by
 unfold KV at r
 induction r with
 | nil => exact True.intro
 | @cons p q ps qs h t ih =>
  obtain ⟨h1, h2⟩ := h
  by_cases e : p.1 = k
  ·have e' : q.1 = k := h1.symm.trans e
   have b : valueAt (q :: qs) k = some q.2 := by simp [valueAt, List.find?_cons, e']
   rw [valV_pos e, b]; exact h2
  ·have e' : ¬ q.1 = k := fun z => e (h1.trans z)
   have b : valueAt (q :: qs) k = valueAt qs k := by simp [valueAt, List.find?_cons, e']
   rw [valV_neg e, b]; exact ih
theorem KV.any {kvs : List (κ × V)} {vs : List (κ × Value)} (r : KV kvs vs) (k : κ) : (kvs.any fun kv => decide (kv.1 = k)) = vs.any fun kv => decide (kv.1 = k) := by
 unfold KV at r
 induction r with
 | nil => rfl
 | cons h t ih => rw [List.any_cons, List.any_cons, ih, h.1]
theorem KV.repl {kvs : List (κ × V)} {vs : List (κ × Value)} (r : KV kvs vs) (k : κ) {y : V} {u : Value} (ry : RelV y u) :
  KV (kvs.map fun kv => if kv.1 = k then (kv.1, y) else kv) (vs.map fun kv => if kv.1 = k then (kv.1, u) else kv) := by
 unfold KV at r ⊢
 induction r with
 | nil => exact .nil
 | @cons p q ps qs h t ih =>
  rw [List.map_cons, List.map_cons]
  refine .cons ?_ ih
  obtain ⟨h1, h2⟩ := h
  by_cases e : p.1 = k
  ·rw [if_pos e, if_pos (h1.symm.trans e)]; exact ⟨h1, ry⟩
  ·rw [if_neg e, if_neg (fun z => e (h1.trans z))]; exact ⟨h1, h2⟩
theorem KV.put {kvs : List (κ × V)} {vs : List (κ × Value)} (r : KV kvs vs) (k : κ) {y : V} {u : Value} (ry : RelV y u) : KV (putK kvs k y) (stored vs k u) := by
 unfold putK stored
 rw [r.any k]
 by_cases e : (vs.any fun kv => decide (kv.1 = k)) = true
 ·rw [if_pos e, if_pos e]; exact r.repl k ry
 ·rw [if_neg e, if_neg e]; exact Paired.snoc r ⟨rfl, ry⟩
theorem KV.drop {kvs : List (κ × V)} {vs : List (κ × Value)} (r : KV kvs vs) (k : κ) : KV (dropK kvs k) (without vs k) := by
 unfold KV at r ⊢
 unfold dropK without
 induction r with
 | nil => exact .nil
 | @cons p q ps qs h t ih =>
  obtain ⟨h1, h2⟩ := h
  rw [List.filter_cons, List.filter_cons]
  by_cases e : p.1 = k
  ·have a : ¬ decide (p.1 ≠ k) = true := by simp [e]
   have b : ¬ decide (q.1 ≠ k) = true := by simp [h1.symm.trans e]
   rw [if_neg a, if_neg b]; exact ih
  ·have e' : ¬ q.1 = k := fun z => e (h1.trans z)
   have a : decide (p.1 ≠ k) = true := by simp [e]
   have b : decide (q.1 ≠ k) = true := by simp [e']
   rw [if_pos a, if_pos b]; exact .cons ⟨h1, h2⟩ ih
theorem KV.keys {kvs : List (κ × V)} {vs : List (κ × Value)} (r : KV kvs vs) : kvs.map (·.1) = vs.map (·.1) := by
 unfold KV at r
 induction r with
 | nil => rfl
 | cons h t ih => rw [List.map_cons, List.map_cons, ih, h.1]
theorem KV.length {kvs : List (κ × V)} {vs : List (κ × Value)} (r : KV kvs vs) : kvs.length = vs.length := Paired.length r
end
theorem kV_is {P : Program} {w : World} {k : Key} {u : Value} (r : RelV (kV k) u) : (mixKind P w).is k u = true := by
 cases k with
 | inl i => obtain ⟨t, e⟩ := (show ∃ t, u = Value.int i t from r); subst e; exact mixKind_int P w i t
 | inr x => obtain ⟨t, e⟩ := (show ∃ t, u = Value.str x t from r); subst e; exact mixKind_str P w x t
theorem items_are {P : Program} {w : World} : ∀ {ks : List Key} {us : List Value}, Vals (ks.map kV) us -> ItemsAre (mixKind P w) ks us
 | [], _, r => by rw [List.map_nil] at r; cases r; exact .nil
 | k :: ks, _, r => by
  rw [List.map_cons] at r
  cases r with
  | cons h t => exact .cons (kV_is h) (items_are t)
abbrev KT (H : Hp) : List (List Key × V) -> List (List Key × Addr × Value) -> Prop := Paired fun p q => p.1 = q.1 /\ H q.2.1 = some (.tup (p.1.map kV)) /\ RelV p.2 q.2.2
theorem KT.val {H : Hp} {kvs : List (List Key × V)} {xs : List (List Key × Addr × Value)} (r : KT H kvs xs) (k : List Key) : RelO (valV kvs k) ((atKey xs k).map (·.2)) := by
 induction r with
 | nil => exact True.intro
 | @cons p q ps qs h t ih =>
  obtain ⟨h1, _, h2⟩ := h
  by_cases e : p.1 = k
  ·have e' : q.1 = k := h1.symm.trans e
   have b : atKey (q :: qs) k = some q.2 := by simp [atKey, List.find?_cons, e']
   rw [valV_pos e, b]; exact h2
  ·have e' : ¬ q.1 = k := fun z => e (h1.trans z)
   have b : atKey (q :: qs) k = atKey qs k := by simp [atKey, List.find?_cons, e']
   rw [valV_neg e, b]; exact ih
theorem KT.repl {H : Hp} {kvs : List (List Key × V)} {xs : List (List Key × Addr × Value)} (r : KT H kvs xs) (k : List Key) {y : V} {u : Value} (ry : RelV y u) :
  KT H (kvs.map fun kv => if kv.1 = k then (kv.1, y) else kv) (xs.map (putAt k u)) := by
 induction r with
 | nil => exact .nil
 | @cons p q ps qs h t ih =>
  rw [List.map_cons, List.map_cons]
  refine .cons ?_ ih
  obtain ⟨h1, h2, h3⟩ := h
  unfold putAt
  by_cases e : p.1 = k
  ·rw [if_pos e, if_pos (h1.symm.trans e)]; exact ⟨h1, h2, ry⟩
  ·rw [if_neg e, if_neg (fun z => e (h1.trans z))]; exact ⟨h1, h2, h3⟩
theorem KT.put {H : Hp} {kvs : List (List Key × V)} {xs : List (List Key × Addr × Value)} (r : KT H kvs xs) (k : List Key) {b : Addr} {y : V} {u : Value} (hb : H b = some (.tup (k.map kV))) (ry : RelV y u) :
  KT H (putK kvs k y) (storedH xs k b u) := by
 have e : (kvs.any fun kv => decide (kv.1 = k)) = (atKey xs k).isSome := by
  rw [valV_any, (r.val k).isSome_eq, Option.isSome_map]
 unfold putK storedH
 rw [e]
 by_cases q : (atKey xs k).isSome = true
 ·rw [if_pos q, if_pos q]; exact r.repl k ry
 ·rw [if_neg q, if_neg q]; exact Paired.snoc r ⟨rfl, hb, ry⟩
theorem KT.keeps {H H' : Hp} {kvs : List (List Key × V)} {xs : List (List Key × Addr × Value)} (r : KT H kvs xs) (ht : ∀ b ys, H b = some (.tup ys) -> H' b = some (.tup ys)) : KT H' kvs xs :=
 Paired.mapP r fun _ _ z => ⟨z.1, ht _ _ z.2.1, z.2.2⟩
section
variable {P : Program} {w : World} {H : Hp} {h : Heap} {a : Addr}
theorem rd_of {u : HO} (ok : HOk P w H h) (e : Rd H a u) : ObjOk P w H h a u := e.ok ok
theorem dk_rd {kvs : List (Key × V)} (ok : HOk P w H h) (e : Rd H a (.dK kvs)) : kvs.length <= sizeLine /\ (a == sysModules) = false /\ ∃ vs, KV kvs vs /\ h.DictOf (mixKind P w) a vs :=
 show ObjOk P w H h a (.dK kvs) from rd_of ok e
theorem dk_of {kvs : List (Key × V)} (ok : HOk P w H h) (e : H a = some (.dK kvs)) : kvs.length <= sizeLine /\ (a == sysModules) = false /\ ∃ vs, KV kvs vs /\ h.DictOf (mixKind P w) a vs := dk_rd ok (.inl e)
theorem key_of {ks : List Key} (ok : HOk P w H h) (e : H a = some (.tup (ks.map kV))) : (tupleKind (mixKind P w)).is h ks a := by
 obtain ⟨_, its, r, o, h1, h2, n, h3⟩ := (show ObjOk P w H h a (.tup (ks.map kV)) from ok a _ e)
 exact ⟨o, its.toArray, n, h1, h2, h3, by simpa using items_are r⟩
theorem dt_rd {kvs : List (List Key × V)} (ok : HOk P w H h) (e : Rd H a (.dT kvs)) : kvs.length <= sizeLine /\ (a == sysModules) = false /\
  ∃ xs, KT H kvs xs /\ h.DictOfH (tupleKind (mixKind P w)) a xs := by
 obtain ⟨z, y, xs, r, o, es, ep, h1, h2, h3, h4, h5⟩ := (show ObjOk P w H h a (.dT kvs) from rd_of ok e)
 refine ⟨z, y, xs, r, o, es, ep, h1, h2, h3, h4, fun x hx => ?_, h5⟩
 have all : ∀ {l : List (List Key × V)} {m : List (List Key × Addr × Value)}, KT H l m -> ∀ x ∈ m, (tupleKind (mixKind P w)).is h x.1 x.2.1 := by
  intro l m q
  induction q with
  | nil => intro x hx; exact nomatch hx
  | @cons p q ps qs hq t ih =>
   intro x hx
   rcases List.mem_cons.mp hx with e | hx
   ·subst e
    exact key_of ok (by rw [<- hq.1]; exact hq.2.1)
   ·exact ih x hx
 exact all r x hx
theorem dt_of {kvs : List (List Key × V)} (ok : HOk P w H h) (e : H a = some (.dT kvs)) : kvs.length <= sizeLine /\ (a == sysModules) = false /\
  ∃ xs, KT H kvs xs /\ h.DictOfH (tupleKind (mixKind P w)) a xs := dt_rd ok (.inl e)
end
def DGet (H : Hp) (a : Addr) (y : V) (r : Option V) : Prop :=
 (∃ kvs k, Rd H a (.dK kvs) /\ y = kV k /\ r = valV kvs k) \/ ∃ kvs k b, Rd H a (.dT kvs) /\ y = .ref b /\ H b = some (.tup (k.map kV)) /\ r = valV kvs k
def DPut (H : Hp) (a : Addr) (y v : V) (H' : Hp) : Prop :=
 (∃ kvs k, H a = some (.dK kvs) /\ y = kV k /\ kvs.length < sizeLine /\ H' = upd H a (.dK (putK kvs k v))) \/
 ∃ kvs k b, H a = some (.dT kvs) /\ y = .ref b /\ H b = some (.tup (k.map kV)) /\ kvs.length < sizeLine /\ H' = upd H a (.dT (putK kvs k v))
theorem DGet.k {H : Hp} {a : Addr} {kvs : List (Key × V)} {k : Key} (e : H a = some (.dK kvs)) : DGet H a (kV k) (valV kvs k) := .inl ⟨kvs, k, .inl e, rfl, rfl⟩
theorem DGet.t {H : Hp} {a b : Addr} {kvs : List (List Key × V)} {k : List Key} (e : H a = some (.dT kvs)) (eb : H b = some (.tup (k.map kV))) : DGet H a (.ref b) (valV kvs k) := .inr ⟨kvs, k, b, .inl e, rfl, eb, rfl⟩
theorem DPut.k {H : Hp} {a : Addr} {kvs : List (Key × V)} {k : Key} {v : V} (e : H a = some (.dK kvs)) (hl : kvs.length < sizeLine) : DPut H a (kV k) v (upd H a (.dK (putK kvs k v))) := .inl ⟨kvs, k, e, rfl, hl, rfl⟩
theorem DPut.t {H : Hp} {a b : Addr} {kvs : List (List Key × V)} {k : List Key} {v : V} (e : H a = some (.dT kvs)) (eb : H b = some (.tup (k.map kV))) (hl : kvs.length < sizeLine) :
  DPut H a (.ref b) v (upd H a (.dT (putK kvs k v))) := .inr ⟨kvs, k, b, e, rfl, eb, hl, rfl⟩
section
variable {X : Cx} {pins : List (Addr × Obj)} {σ : St} {H : Hp} {s : Shared} {a : Addr} {y v : V} {u r : Value} {o : Option V} {A : Around} {E : Value -> Shared -> Prop}
theorem Inv.big (I : Inv X pins σ H s) : sysModules < s.heap.objs.size := by
 have h : mainGlobals < s.heap.objs.size := (I.mod.glob.keeps I.bk).lt
 exact Nat.lt_trans (by decide) h
theorem d_getItem {Q : Value -> Shared -> Prop} (hu : A.units + 1 < cLine) (I : Inv X pins σ H s) (g : DGet H a y (some v)) (ry : RelV y u) (h : ∀ w' s', Inv X pins σ H s' -> RelV v w' -> Q w' s') :
  wpAny (model X.prog X.w) A (getItem (.ref a) u) Q E s := by
 rcases g with ⟨kvs, k, e, ey, l⟩ | ⟨kvs, k, b, e, ey, eb, l⟩
 ·subst ey
  obtain ⟨z, hd, vs, rel, dd⟩ := dk_rd I.hok e
  obtain ⟨w', hw, rw'⟩ := RelO.some_of (v := v) (o := valueAt vs k) (by rw [l]; exact rel.val k)
  exact wpAny_getItem_of (kV_is ry) dd.mapOf hw (h w' _ (I.tok _) rw')
 ·subst ey
  cases (show u = Value.ref b from ry)
  obtain ⟨z, hd, xs, rel, dd⟩ := dt_rd I.hok e
  obtain ⟨w', hw, rw'⟩ := RelO.some_of (v := v) (o := (atKey xs k).map (·.2)) (by rw [l]; exact rel.val k)
  obtain ⟨p, hp, hp2⟩ := Option.map_eq_some_iff.mp hw
  refine wpAny_getItem_heap (tupleKind_room_in1 hu) (key_of I.hok eb) dd hp ?_
  rw [hp2]
  exact h w' _ (I.tok _) rw'
theorem d_in {Q : Value -> Shared -> Prop} (hu : A.units + 1 < cLine) (I : Inv X pins σ H s) (g : DGet H a y o) (ry : RelV y u) (h : ∀ s', Inv X pins σ H s' -> Q (.bool o.isSome) s') :
  wpAny (model X.prog X.w) A (compareOp .In u (.ref a)) Q E s := by
 rcases g with ⟨kvs, k, e, ey, l⟩ | ⟨kvs, k, b, e, ey, eb, l⟩
 ·subst ey
  obtain ⟨z, hd, vs, rel, dd⟩ := dk_rd I.hok e
  refine wpAny_in_of (kV_is ry) hd dd.mapOf ?_
  rw [<- (rel.val k).isSome_eq, <- l]
  exact h _ (I.tok _)
 ·subst ey
  cases (show u = Value.ref b from ry)
  obtain ⟨z, hd, xs, rel, dd⟩ := dt_rd I.hok e
  refine wpAny_in_heap (tupleKind_room_in1 hu) (key_of I.hok eb) hd dd ?_
  have q := (rel.val k).isSome_eq
  rw [Option.isSome_map] at q
  rw [<- q, <- l]
  exact h _ (I.tok _)
theorem d_write {h' : Heap} {t' : Nat} {ob : HO} (I : Inv X pins σ H s) (mu : Mut (H a)) (hs : Heap.SameBut a s.heap h') (he : ∃ q, h'.get? a = some q) (new : ObjOk X.prog X.w (upd H a ob) h' a ob) :
  Inv X pins σ (upd H a ob) { s with heap := h', toks := t' } :=
 I.write (x := a) (e := a) mu (.inl rfl) (fun b q hb z => (hs.2 b hb).trans z) he new
theorem dk_new {P : Program} {w : World} {H' : Hp} {h' : Heap} {kvs : List (Key × V)} {vs : List (Key × Value)} (z : kvs.length <= sizeLine) (hd : (a == sysModules) = false) (rel : KV kvs vs) (dd : h'.DictOf (mixKind P w) a vs) :
  ObjOk P w H' h' a (.dK kvs) := ⟨z, hd, vs, rel, dd⟩
theorem d_setItem {H' : Hp} {Q : Unit -> Shared -> Prop} (hu : A.units + 1 < cLine) (I : Inv X pins σ H s) (g : DPut H a y v H') (ry : RelV y u) (rv : RelV v r) (h : ∀ s', Inv X pins σ H' s' -> Q () s') :
  wpAny (model X.prog X.w) A (setItem (.ref a) u r) Q E s := by
 rcases g with ⟨kvs, k, e, ey, l, eH⟩ | ⟨kvs, k, b, e, ey, eb, l, eH⟩
 ·subst ey eH
  obtain ⟨z, hd, vs, rel, dd⟩ := dk_of I.hok e
  have hz : vs.length <= sizeLine := by rw [<- rel.length]; exact z
  have hl : (putK kvs k v).length <= sizeLine := by have := length_putK kvs k v; omega
  refine wpAny_setItem_pairs (hsz := hz) (kV_is ry) dd fun h' dd' hs => h _ ?_
  have he : ∃ q, h'.get? a = some q := let ⟨q, _, _, hq, _⟩ := dd'; ⟨q, hq⟩
  exact d_write I (by rw [e]; exact True.intro) hs he (dk_new hl hd (rel.put k rv) dd')
 ·subst ey eH
  cases (show u = Value.ref b from ry)
  obtain ⟨z, hd, xs, rel, dd⟩ := dt_of I.hok e
  have hz : xs.length <= sizeLine := by rw [<- Paired.length rel]; exact z
  have hl : (putK kvs k v).length <= sizeLine := by have := length_putK kvs k v; omega
  refine wpAny_setItem_heap (hsz := hz) (tupleKind_room_in1 hu) (key_of I.hok eb) dd fun h' dd' hs => h _ ?_
  obtain ⟨q, es, ep, hq, h2, h3, h4, _, h5⟩ := dd'
  refine d_write I (by rw [e]; exact True.intro) hs ⟨q, hq⟩ ⟨hl, hd, _, (rel.put k eb rv).keeps fun c ys ec => ?_, q, es, ep, hq, h2, h3, h4, h5⟩
  rw [upd_ne (ne_of ec e (fun z => nomatch z))]
  exact ec
end
theorem dict_typeIs {X : Cx} {pins : List (Addr × Obj)} {σ : St} {H : Hp} {s : Shared} {a : Addr} {y : V} {o : Option V} (I : Inv X pins σ H s) (g : DGet H a y o) : s.TypeIs (.ref a) "dict" := by
 rcases g with ⟨kvs, k, e, _, _⟩ | ⟨kvs, k, b, e, _, _, _⟩
 ·obtain ⟨_, _, vs, _, dd⟩ := dk_rd I.hok e
  exact dd.typeIs
 ·obtain ⟨_, _, xs, _, dd⟩ := dt_rd I.hok e
  exact dd.typeIs
theorem dk_empty {P : Program} {w : World} {H : Hp} (h : Heap) (hb : sysModules < h.objs.size) : ObjOk P w H (h.push { cls := .type "dict", data := .dict #[] }) h.objs.size (.dK []) :=
 ⟨Nat.zero_le _, beq_eq_false_iff_ne.mpr (Ne.symm (Nat.ne_of_lt hb)), [], .nil, Heap.DictOf.new h⟩
def tDNewK : TE := fun _ H Q => ∀ p, H p = none -> Q (.ref p) (upd H p (.dK []))
section
variable {X : Cx} {pos : Pos}
theorem pe_dnewK : PE X (.Dict [] [] pos) tDNewK := fun pins s σ H Q I h =>
 wpAny_Dict_empty ⟨.ref s.heap.objs.size, _, I.laid (a := s.heap.objs.size) (o := .dK []) (t' := s.toks) (fun _ _ q => Heap.get?_push_of_some _ q) (Nat.le_refl _) (dk_empty s.heap I.big), rfl, h _ (I.hok.fresh (Nat.le_refl _))⟩
end
section
variable {X : Cx} {pins : List (Addr × Obj)} {σ : St} {H : Hp} {s : Shared} {a : Addr} {y d : V} {u r : Value} {o : Option V} {A : Around} {E : Value -> Shared -> Prop}
theorem d_get1 {Q : Value -> Shared -> Prop} (hu : A.units + 1 < cLine) (I : Inv X pins σ H s) (g : DGet H a y o) (ry : RelV y u) (h : ∀ w' s', Inv X pins σ H s' -> RelV (o.getD .non) w' -> Q w' s') :
  wpAny (model X.prog X.w) A (call (.builtin "dict.get") [.ref a, u]) Q E s := by
 rcases g with ⟨kvs, k, e, ey, l⟩ | ⟨kvs, k, b, e, ey, eb, l⟩
 ·subst ey
  obtain ⟨z, hd, vs, rel, dd⟩ := dk_rd I.hok e
  refine call_meetsIn PySem.F.slot_dict_get dd.typeIs PySem.F.entry_dict_get (PySem.F.args_dict_get_2 _ _) (meets_dict_get (mixKind X.prog X.w) a (kV_is ry) hd) ⟨_, dd.mapOf, h _ _ (I.tok _) ?_⟩
  rw [l]
  exact (rel.val k).getD rfl
 ·subst ey
  cases (show u = Value.ref b from ry)
  obtain ⟨z, hd, xs, rel, dd⟩ := dt_rd I.hok e
  refine call_meetsIn PySem.F.slot_dict_get dd.typeIs PySem.F.entry_dict_get (PySem.F.args_dict_get_2 _ _) (meetsH_dict_get (tupleKind (mixKind X.prog X.w)) a b hd) ⟨tupleKind_room_in1 hu, k, xs, key_of I.hok eb, dd, h _ _ (I.tok _) ?_⟩
  rw [l]
  exact (rel.val k).getD rfl
theorem d_get2 {Q : Value -> Shared -> Prop} (hu : A.units + 1 < cLine) (I : Inv X pins σ H s) (g : DGet H a y o) (ry : RelV y u) (rd : RelV d r) (h : ∀ w' s', Inv X pins σ H s' -> RelV (o.getD d) w' -> Q w' s') :
  wpAny (model X.prog X.w) A (call (.builtin "dict.get") [.ref a, u, r]) Q E s := by
 rcases g with ⟨kvs, k, e, ey, l⟩ | ⟨kvs, k, b, e, ey, eb, l⟩
 ·subst ey
  obtain ⟨z, hd, vs, rel, dd⟩ := dk_rd I.hok e
  refine call_meetsIn PySem.F.slot_dict_get dd.typeIs PySem.F.entry_dict_get (PySem.F.args_dict_get_3 _ _ _) (meets_dict_get_default (mixKind X.prog X.w) a (kV_is ry) hd r) ⟨_, dd.mapOf, h _ _ (I.tok _) ?_⟩
  rw [l]
  exact (rel.val k).getD rd
 ·subst ey
  cases (show u = Value.ref b from ry)
  obtain ⟨z, hd, xs, rel, dd⟩ := dt_rd I.hok e
  refine call_meetsIn PySem.F.slot_dict_get dd.typeIs PySem.F.entry_dict_get (PySem.F.args_dict_get_3 _ _ _) (meetsH_dict_get_default (tupleKind (mixKind X.prog X.w)) a b hd r) ⟨tupleKind_room_in1 hu, k, xs, key_of I.hok eb, dd, h _ _ (I.tok _) ?_⟩
  rw [l]
  exact (rel.val k).getD rd
end
end L2
namespace L2
open PySem PySem.Spec PyProof.Rows
end L2
namespace IL
open PySem PySem.Spec PyProof.Rows L2
inductive W where
 | non | bl (b : Bool) | int (i : Int) | str (x : Str) | tup (ws : List W) | fl (ws : List W) | ref (i : Nat) | exc (c : Str) (ns : List Str) (ws : List W)
mutual
def W.dec : (a b : W) -> Decidable (a = b)
 | .non, .non => Decidable.isTrue rfl
 | .bl a, .bl b => if h : a = b then Decidable.isTrue (by rw [h]) else Decidable.isFalse (fun e => h (W.bl.inj e))
 | .int a, .int b => if h : a = b then Decidable.isTrue (by rw [h]) else Decidable.isFalse (fun e => h (W.int.inj e))
 | .str a, .str b => if h : a = b then Decidable.isTrue (by rw [h]) else Decidable.isFalse (fun e => h (W.str.inj e))
 | .tup a, .tup b => match W.decs a b with
  | Decidable.isTrue h => Decidable.isTrue (by rw [h])
  | Decidable.isFalse h => Decidable.isFalse (fun e => h (W.tup.inj e))
 | .fl a, .fl b => match W.decs a b with
  | Decidable.isTrue h => Decidable.isTrue (by rw [h])
  | Decidable.isFalse h => Decidable.isFalse (fun e => h (W.fl.inj e))
 | .ref a, .ref b => if h : a = b then Decidable.isTrue (by rw [h]) else Decidable.isFalse (fun e => h (W.ref.inj e))
 | .exc c ns a, .exc c' ns' b => match W.decs a b with
  | Decidable.isTrue h => if h1 : c = c' then if h2 : ns = ns' then Decidable.isTrue (by rw [h, h1, h2]) else Decidable.isFalse (fun e => h2 (W.exc.inj e).2.1) else Decidable.isFalse (fun e => h1 (W.exc.inj e).1)
  | Decidable.isFalse h => Decidable.isFalse (fun e => h (W.exc.inj e).2.2)
 | .non, .bl _ | .non, .int _ | .non, .str _ | .non, .tup _ | .non, .fl _ | .non, .ref _ | .non, .exc _ _ _ => Decidable.isFalse (fun e => nomatch e)
 | .bl _, .non | .bl _, .int _ | .bl _, .str _ | .bl _, .tup _ | .bl _, .fl _ | .bl _, .ref _ | .bl _, .exc _ _ _ => Decidable.isFalse (fun e => nomatch e)
 | .int _, .non | .int _, .bl _ | .int _, .str _ | .int _, .tup _ | .int _, .fl _ | .int _, .ref _ | .int _, .exc _ _ _ => Decidable.isFalse (fun e => nomatch e)
 | .str _, .non | .str _, .bl _ | .str _, .int _ | .str _, .tup _ | .str _, .fl _ | .str _, .ref _ | .str _, .exc _ _ _ => Decidable.isFalse (fun e => nomatch e)
 | .tup _, .non | .tup _, .bl _ | .tup _, .int _ | .tup _, .str _ | .tup _, .fl _ | .tup _, .ref _ | .tup _, .exc _ _ _ => Decidable.isFalse (fun e => nomatch e)
 | .fl _, .non | .fl _, .bl _ | .fl _, .int _ | .fl _, .str _ | .fl _, .tup _ | .fl _, .ref _ | .fl _, .exc _ _ _ => Decidable.isFalse (fun e => nomatch e)
 | .ref _, .non | .ref _, .bl _ | .ref _, .int _ | .ref _, .str _ | .ref _, .tup _ | .ref _, .fl _ | .ref _, .exc _ _ _ => Decidable.isFalse (fun e => nomatch e)
 | .exc _ _ _, .non | .exc _ _ _, .bl _ | .exc _ _ _, .int _ | .exc _ _ _, .str _ | .exc _ _ _, .tup _ | .exc _ _ _, .fl _ | .exc _ _ _, .ref _ => Decidable.isFalse (fun e => nomatch e)
def W.decs : (a b : List W) -> Decidable (a = b)
 | [], [] => Decidable.isTrue rfl
 | a :: as, b :: bs => match W.dec a b, W.decs as bs with
  | Decidable.isTrue h, Decidable.isTrue h' => Decidable.isTrue (by rw [h, h'])
  | Decidable.isFalse h, _ => Decidable.isFalse (fun e => h (List.cons.inj e).1)
  | _, Decidable.isFalse h => Decidable.isFalse (fun e => h (List.cons.inj e).2)
 | [], _ :: _ | _ :: _, [] => Decidable.isFalse (fun e => nomatch e)
end
instance : DecidableEq W := W.dec
inductive PO where
 | lst (ws : List W)
 | dct (kvs : List (W × W))
 | obj (c : Str) (fs : List (Str × W))
 | fdc (kvs : List (W × W))
 deriving DecidableEq
def PO.fz : PO -> Bool
 | .fdc _ => true
 | _ => false
abbrev PH := List PO
abbrev Po (α : Type) := PH -> Option (α × PH)
def ret {α : Type} (a : α) : Po α := fun ph => some (a, ph)
def nono {α : Type} : Po α := fun _ => none
structure XC where
 cls : Str
 fs : List (Str × W)
inductive Out (α : Type) where
 | ok (a : α) (ph : PH)
 | ex (x : XC) (ph : PH)
 | no
def Out.Run {α : Type} (r : Out α) (N : α -> PH -> Prop) (E : XC -> PH -> Prop) : Prop := match r with
 | .ok a ph => N a ph
 | .ex x ph => E x ph
 | .no => False
theorem Out.Run.mono {α : Type} {r : Out α} {N N' : α -> PH -> Prop} {E E' : XC -> PH -> Prop} (h : r.Run N E) (hn : ∀ a ph, N a ph -> N' a ph) (he : ∀ x ph, E x ph -> E' x ph) : r.Run N' E' := by
 cases r with
 | ok a ph => exact hn a ph h
 | ex x ph => exact he x ph h
 | no => exact h
abbrev Mo (α : Type) := PH -> Out α
def pur {α : Type} (a : α) : Mo α := fun ph => .ok a ph
def nop {α : Type} : Mo α := fun _ => .no
def lift {α : Type} (o : Po α) : Mo α := fun ph => match o ph with
 | some p => .ok p.1 p.2
 | none => .no
def bnd {α β : Type} (m : Mo α) (f : α -> Mo β) : Mo β := fun ph => match m ph with
 | .ok a ph' => f a ph'
 | .ex x ph' => .ex x ph'
 | .no => .no
theorem run_bnd {α β : Type} {m : Mo α} {f : α -> Mo β} {ph : PH} {N : β -> PH -> Prop} {E : XC -> PH -> Prop} : (bnd m f ph).Run N E = (m ph).Run (fun a ph1 => (f a ph1).Run N E) E := by
 unfold bnd
 cases m ph <;> rfl
theorem run_lift {α : Type} {o : Po α} {ph : PH} {N : α -> PH -> Prop} {E : XC -> PH -> Prop} (h : (lift o ph).Run N E) : ∃ a ph', o ph = some (a, ph') /\ N a ph' := by
 unfold lift at h
 cases e : o ph with
 | none => rw [e] at h; exact h.elim
 | some p => rw [e] at h; exact ⟨p.1, p.2, rfl, h⟩
abbrev PSt := List (Option W)
abbrev EM := PSt -> Mo W
abbrev TM := PSt -> Mo Bool
abbrev AM := PSt -> Mo (List W)
inductive Fl where
 | nx (σ : PSt) | rt (w : W) | bk (σ : PSt) | ct (σ : PSt)
abbrev SM := PSt -> Mo Fl
def KL (K : PySem.W.Frag) (a : Addr) (xs : List V) : Prop :=
 ∃ (o : Obj) (its : Array Value) (n : Nat), K.lookup a = some o /\ o.cls = .type "list" /\ o.dict = none /\ o.data = .seq its n /\ its.size <= sizeLine /\ Vals xs its.toList
def FrzL (K : PySem.W.Frag) (H : Hp) (a : Addr) (xs : List V) : Prop := (∃ o, H a = some (.frz o (.lst xs))) \/ KL K a xs
theorem FrzL.sq {K : PySem.W.Frag} {H : Hp} {a : Addr} {xs : List V} (h : FrzL K H a xs) : SqL K H a xs := by
 rcases h with ⟨o, h⟩ | h
 ·exact .inl (.inr ⟨o, h⟩)
 ·exact .inr h
def XFld (H : Hp) (o : Obj) (ns : List Str) (vs : List V) : Prop := (ns = [] /\ vs = []) \/ ∃ d od, o.dict = some d /\ ns.length = vs.length /\ H d = some (.frz od (.xd (ns.zip vs)))
mutual
inductive RelW (K : PySem.W.Frag) (φ : Nat -> Addr) (n : Nat) (H : Hp) : W -> V -> Prop where
 | non : RelW K φ n H .non .non
 | bl (b : Bool) : RelW K φ n H (.bl b) (.bl b)
 | int (i : Int) : RelW K φ n H (.int i) (.int i)
 | str (x : Str) : RelW K φ n H (.str x) (.str x)
 | tup {ws : List W} {a : Addr} {vs : List V} (h : H a = some (.tup vs)) (r : RelWs K φ n H ws vs) : RelW K φ n H (.tup ws) (.ref a)
 | fl {ws : List W} {a : Addr} {vs : List V} (h : FrzL K H a vs) (r : RelWs K φ n H ws vs) : RelW K φ n H (.fl ws) (.ref a)
 | ref {i : Nat} (h : i < n) : RelW K φ n H (.ref i) (.ref (φ i))
 | exc {c : Str} {ns : List Str} {ws : List W} {a C : Addr} {vs : List V} {o : Obj} {u : HO} (h : H a = some (.frz o u)) (hc : o.cls = .ref C) (hn : PySem.W.nsIn K mainGlobals c = some (some (.ref C))) (hk : PySem.W.notCls o = true) (hf : XFld H o ns vs) (r : RelWs K φ n H ws vs) : RelW K φ n H (.exc c ns ws) (.ref a)
inductive RelWs (K : PySem.W.Frag) (φ : Nat -> Addr) (n : Nat) (H : Hp) : List W -> List V -> Prop where
 | nil : RelWs K φ n H [] []
 | cons {w : W} {v : V} {ws : List W} {vs : List V} (h : RelW K φ n H w v) (r : RelWs K φ n H ws vs) : RelWs K φ n H (w :: ws) (v :: vs)
end
structure Step (K : PySem.W.Frag) (φ : Nat -> Addr) (n : Nat) (H : Hp) (φ' : Nat -> Addr) (n' : Nat) (H' : Hp) : Prop where
 le : n <= n'
 eq : ∀ i, i < n -> φ' i = φ i
 tup : ∀ a xs, H a = some (.tup xs) -> H' a = some (.tup xs)
 frz : ∀ a o u, H a = some (.frz o u) -> H' a = some (.frz o u)
section
variable {K : PySem.W.Frag} {φ φ' φ'' : Nat -> Addr} {n n' n'' : Nat} {H H' H'' : Hp}
theorem Step.refl : Step K φ n H φ n H := ⟨Nat.le_refl _, fun _ _ => rfl, fun _ _ h => h, fun _ _ _ h => h⟩
theorem Step.trans (a : Step K φ n H φ' n' H') (b : Step K φ' n' H' φ'' n'' H'') : Step K φ n H φ'' n'' H'' :=
 ⟨Nat.le_trans a.le b.le, fun i h => (b.eq i (Nat.lt_of_lt_of_le h a.le)).trans (a.eq i h), fun c xs h => b.tup c xs (a.tup c xs h), fun c o u h => b.frz c o u (a.frz c o u h)⟩
theorem XFld.mono (s : Step K φ n H φ' n' H') {o : Obj} {ns : List Str} {vs : List V} (h : XFld H o ns vs) : XFld H' o ns vs :=
 h.imp_right fun ⟨d, od, e1, e2, e3⟩ => ⟨d, od, e1, e2, s.frz _ _ _ e3⟩
mutual
theorem RelW.mono (s : Step K φ n H φ' n' H') : ∀ {w : W} {v : V}, RelW K φ n H w v -> RelW K φ' n' H' w v
 | _, _, .non => .non
 | _, _, .bl b => .bl b
 | _, _, .int i => .int i
 | _, _, .str x => .str x
 | _, _, .tup h r => .tup (s.tup _ _ h) (RelWs.mono s r)
 | _, _, .fl h r => .fl (h.elim (fun ⟨o, e⟩ => .inl ⟨o, s.frz _ _ _ e⟩) .inr) (RelWs.mono s r)
 | _, _, .ref (i := i) h => (s.eq i h) ▸ .ref (Nat.lt_of_lt_of_le h s.le)
 | _, _, .exc h hc hn hk hf r => .exc (s.frz _ _ _ h) hc hn hk (hf.mono s) (RelWs.mono s r)
theorem RelWs.mono (s : Step K φ n H φ' n' H') : ∀ {ws : List W} {vs : List V}, RelWs K φ n H ws vs -> RelWs K φ' n' H' ws vs
 | _, _, .nil => .nil
 | _, _, .cons h r => .cons (RelW.mono s h) (RelWs.mono s r)
end
theorem RelWs.length : ∀ {ws : List W} {vs : List V}, RelWs K φ n H ws vs -> ws.length = vs.length
 | _, _, .nil => rfl
 | _, _, .cons _ r => by simp [RelWs.length r]
theorem RelWs.get : ∀ {ws : List W} {vs : List V} {i : Nat} {w : W}, RelWs K φ n H ws vs -> ws[i]? = some w -> ∃ v, vs[i]? = some v /\ RelW K φ n H w v
 | _, _, _, _, .nil, e => by simp at e
 | _, _, 0, _, .cons h _, e => by simp at e; subst e; exact ⟨_, rfl, h⟩
 | _, _, i + 1, w, .cons _ r, e => by
  obtain ⟨u, h1, h2⟩ := RelWs.get (i := i) (w := w) r (by simpa using e)
  exact ⟨u, by simpa using h1, h2⟩
theorem RelWs.append : ∀ {ws xs : List W} {vs us : List V}, RelWs K φ n H ws vs -> RelWs K φ n H xs us -> RelWs K φ n H (ws ++ xs) (vs ++ us)
 | _, _, _, _, .nil, s => s
 | _, _, _, _, .cons h r, s => .cons h (RelWs.append r s)
theorem RelWs.take : ∀ {ws : List W} {vs : List V} (k : Nat), RelWs K φ n H ws vs -> RelWs K φ n H (ws.take k) (vs.take k)
 | _, _, 0, _ => .nil
 | _, _, _ + 1, .nil => .nil
 | _, _, k + 1, .cons h r => .cons h (RelWs.take k r)
theorem RelWs.drop : ∀ {ws : List W} {vs : List V} (k : Nat), RelWs K φ n H ws vs -> RelWs K φ n H (ws.drop k) (vs.drop k)
 | _, _, 0, r => r
 | _, _, _ + 1, .nil => .nil
 | _, _, k + 1, .cons h r => RelWs.drop k r
theorem RelWs.set {w : W} {v : V} (q : RelW K φ n H w v) : ∀ {ws : List W} {vs : List V} (i : Nat), RelWs K φ n H ws vs -> RelWs K φ n H (ws.set i w) (vs.set i v)
 | _, _, _, .nil => .nil
 | _, _, 0, .cons _ r => .cons q r
 | _, _, i + 1, .cons h r => .cons h (RelWs.set q i r)
theorem RelWs.reverse : ∀ {ws : List W} {vs : List V}, RelWs K φ n H ws vs -> RelWs K φ n H ws.reverse vs.reverse
 | _, _, .nil => .nil
 | _, _, .cons h r => by simp only [List.reverse_cons]; exact RelWs.append (RelWs.reverse r) (.cons h .nil)
end
def keyW : Key -> W
 | .inl i => .int i
 | .inr x => .str x
inductive RelD (K : PySem.W.Frag) (φ : Nat -> Addr) (n : Nat) (H : Hp) : List (W × W) -> List (Key × V) -> Prop where
 | nil : RelD K φ n H [] []
 | cons {k : Key} {w : W} {v : V} {kws : List (W × W)} {kvs : List (Key × V)} (h : RelW K φ n H w v) (r : RelD K φ n H kws kvs) : RelD K φ n H ((keyW k, w) :: kws) ((k, v) :: kvs)
inductive RelT (K : PySem.W.Frag) (φ : Nat -> Addr) (n : Nat) (H : Hp) : List (W × W) -> List (List Key × V) -> Prop where
 | nil : RelT K φ n H [] []
 | cons {k : List Key} {w : W} {v : V} {kws : List (W × W)} {kvs : List (List Key × V)} (h : RelW K φ n H w v) (r : RelT K φ n H kws kvs) : RelT K φ n H ((.tup (k.map keyW), w) :: kws) ((k, v) :: kvs)
theorem RelD.mono {K : PySem.W.Frag} {φ φ' : Nat -> Addr} {n n' : Nat} {H H' : Hp} (s : Step K φ n H φ' n' H') : ∀ {ws : List (W × W)} {vs : List (Key × V)}, RelD K φ n H ws vs -> RelD K φ' n' H' ws vs
 | _, _, .nil => .nil
 | _, _, .cons h r => .cons (h.mono s) (RelD.mono s r)
theorem RelT.mono {K : PySem.W.Frag} {φ φ' : Nat -> Addr} {n n' : Nat} {H H' : Hp} (s : Step K φ n H φ' n' H') : ∀ {ws : List (W × W)} {vs : List (List Key × V)}, RelT K φ n H ws vs -> RelT K φ' n' H' ws vs
 | _, _, .nil => .nil
 | _, _, .cons h r => .cons (h.mono s) (RelT.mono s r)
inductive RelF (K : PySem.W.Frag) (φ : Nat -> Addr) (n : Nat) (H : Hp) : List (Str × W) -> List (Str × V) -> Prop where
 | nil : RelF K φ n H [] []
 | cons {f : Str} {w : W} {v : V} {fs : List (Str × W)} {vs : List (Str × V)} (h : RelW K φ n H w v) (r : RelF K φ n H fs vs) : RelF K φ n H ((f, w) :: fs) ((f, v) :: vs)
theorem RelF.mono {K : PySem.W.Frag} {φ φ' : Nat -> Addr} {n n' : Nat} {H H' : Hp} (s : Step K φ n H φ' n' H') : ∀ {ws : List (Str × W)} {vs : List (Str × V)}, RelF K φ n H ws vs -> RelF K φ' n' H' ws vs
 | _, _, .nil => .nil
 | _, _, .cons h r => .cons (h.mono s) (RelF.mono s r)
def RelPO (K : PySem.W.Frag) (φ : Nat -> Addr) (n : Nat) (H : Hp) (o : PO) (a : Addr) : Prop := match o with
 | .lst ws => ∃ vs, H a = some (.lst vs) /\ RelWs K φ n H ws vs
 | .dct kws => (∃ kvs, H a = some (.dK kvs) /\ RelD K φ n H kws kvs) \/ ∃ kvs, H a = some (.dT kvs) /\ RelT K φ n H kws kvs
 | .obj c fs => ∃ C dx vs, PySem.W.nsIn K mainGlobals c = some (some (.ref C)) /\ H a = some (.ins C dx vs) /\ RelF K φ n H fs vs
 | .fdc kws => ∃ o, o.cls = .type "dict" /\ ((∃ kvs, H a = some (.frz o (.dK kvs)) /\ RelD K φ n H kws kvs) \/ ∃ kvs, H a = some (.frz o (.dT kvs)) /\ RelT K φ n H kws kvs)
structure RelH (K : PySem.W.Frag) (φ : Nat -> Addr) (ph : PH) (H : Hp) : Prop where
 hp : ∀ i o, ph[i]? = some o -> RelPO K φ ph.length H o (φ i)
 inj : ∀ i j, i < ph.length -> j < ph.length -> φ i = φ j -> i = j
inductive RelS (K : PySem.W.Frag) (φ : Nat -> Addr) (n : Nat) (H : Hp) : PSt -> L2.St -> Prop where
 | nil : RelS K φ n H [] []
 | sm {w : W} {v : V} {ws : PSt} {vs : L2.St} (h : RelW K φ n H w v) (r : RelS K φ n H ws vs) : RelS K φ n H (some w :: ws) (some v :: vs)
 | nn {v : Option V} {ws : PSt} {vs : L2.St} (r : RelS K φ n H ws vs) : RelS K φ n H (none :: ws) (v :: vs)
section
variable {K : PySem.W.Frag} {φ φ' φ'' : Nat -> Addr} {n n' n'' : Nat} {H H' H'' : Hp} {ph : PH}
theorem RelS.mono (s : Step K φ n H φ' n' H') : ∀ {ws : PSt} {vs : L2.St}, RelS K φ n H ws vs -> RelS K φ' n' H' ws vs
 | _, _, .nil => .nil
 | _, _, .sm h r => .sm (h.mono s) (RelS.mono s r)
 | _, _, .nn r => .nn (RelS.mono s r)
theorem RelS.get : ∀ {ws : PSt} {vs : L2.St} {i : Nat} {w : W}, RelS K φ n H ws vs -> ws[i]? = some (some w) -> ∃ v, vs[i]? = some (some v) /\ RelW K φ n H w v
 | _, _, _, _, .nil, e => by simp at e
 | _, _, 0, _, .sm h _, e => by simp at e; subst e; exact ⟨_, rfl, h⟩
 | _, _, 0, _, .nn _, e => by simp at e
 | _, _, i + 1, w, .sm _ r, e => by
  obtain ⟨u, h1, h2⟩ := RelS.get (i := i) (w := w) r (by simpa using e)
  exact ⟨u, by simpa using h1, h2⟩
 | _, _, i + 1, w, .nn r, e => by
  obtain ⟨u, h1, h2⟩ := RelS.get (i := i) (w := w) r (by simpa using e)
  exact ⟨u, by simpa using h1, h2⟩
theorem RelS.set {w : W} {v : V} (q : RelW K φ n H w v) : ∀ {ws : PSt} {vs : L2.St} (i : Nat), RelS K φ n H ws vs -> RelS K φ n H (ws.set i (Option.some w)) (vs.set i (Option.some v))
 | _, _, _, .nil => .nil
 | _, _, 0, .sm _ r => .sm q r
 | _, _, 0, .nn r => .sm q r
 | _, _, i + 1, .sm h r => .sm h (RelS.set q i r)
 | _, _, i + 1, .nn r => .nn (RelS.set q i r)
theorem RelS.start : ∀ {ws : List W} {vs : List V} (k : Nat), RelWs K φ n H ws vs -> RelS K φ n H (ws.map Option.some ++ List.replicate k Option.none) (vs.map Option.some ++ List.replicate k Option.none)
 | _, _, 0, .nil => .nil
 | _, _, k + 1, .nil => .nn (RelS.start k .nil)
 | _, _, k, .cons h r => .sm h (RelS.start k r)
theorem RelPO.some {o : PO} {a : Addr} (h : RelPO K φ n H o a) : ∃ x, H a = Option.some x /\ (o.fz = false -> Mut (Option.some x)) := by
 cases o with
 | lst ws => obtain ⟨vs, e, _⟩ := h; exact ⟨_, e, fun _ => trivial⟩
 | dct kws =>
  rcases h with ⟨vs, e, _⟩ | ⟨vs, e, _⟩
  ·exact ⟨_, e, fun _ => trivial⟩
  ·exact ⟨_, e, fun _ => trivial⟩
 | obj c fs => obtain ⟨C, dx, vs, _, e, _⟩ := h; exact ⟨_, e, fun _ => trivial⟩
 | fdc kws =>
  obtain ⟨o, _, ⟨vs, e, _⟩ | ⟨vs, e, _⟩⟩ := h
  ·exact ⟨_, e, fun z => nomatch z⟩
  ·exact ⟨_, e, fun z => nomatch z⟩
theorem RelPO.mono {o : PO} {a : Addr} (s : Step K φ n H φ' n' H') (e : H' a = H a) (h : RelPO K φ n H o a) : RelPO K φ' n' H' o a := by
 cases o with
 | lst ws => obtain ⟨vs, q, r⟩ := h; exact ⟨vs, e.trans q, r.mono s⟩
 | dct kws =>
  rcases h with ⟨vs, q, r⟩ | ⟨vs, q, r⟩
  ·exact .inl ⟨vs, e.trans q, r.mono s⟩
  ·exact .inr ⟨vs, e.trans q, r.mono s⟩
 | obj c fs => obtain ⟨C, dx, vs, q1, q2, r⟩ := h; exact ⟨C, dx, vs, q1, e.trans q2, r.mono s⟩
 | fdc kws =>
  obtain ⟨o, hc, ⟨vs, q, r⟩ | ⟨vs, q, r⟩⟩ := h
  ·exact ⟨o, hc, .inl ⟨vs, e.trans q, r.mono s⟩⟩
  ·exact ⟨o, hc, .inr ⟨vs, e.trans q, r.mono s⟩⟩
theorem RelH.at (h : RelH K φ ph H) {i : Nat} (hi : i < ph.length) : ∃ x, H (φ i) = Option.some x /\ (ph[i].fz = false -> Mut (Option.some x)) := (h.hp i ph[i] (by simp [hi])).some
theorem RelH.mu (h : RelH K φ ph H) {i : Nat} {o : PO} (hw : ph[i]? = Option.some o) (hz : o.fz = false) : ∃ x, H (φ i) = Option.some x /\ Mut (Option.some x) := let ⟨x, e, k⟩ := (h.hp i o hw).some; ⟨x, e, k hz⟩
theorem step_tup {p : Addr} {xs : List V} (hp : H p = none) : Step K φ n H φ n (upd H p (.tup xs)) := by
 refine ⟨Nat.le_refl _, fun _ _ => rfl, fun a ys h => ?_, fun a o u h => ?_⟩
 ·rw [upd_ne (ne_of_none h hp)]; exact h
 ·rw [upd_ne (ne_of_none h hp)]; exact h
theorem RelH.tup {p : Addr} {xs : List V} (h : RelH K φ ph H) (hp : H p = none) : RelH K φ ph (upd H p (.tup xs)) := by
 refine ⟨fun i o e => ?_, h.inj⟩
 have hi : i < ph.length := (List.getElem?_eq_some_iff.mp e).1
 obtain ⟨x, ex, _⟩ := h.at hi
 exact (h.hp i o e).mono (step_tup hp) (upd_ne (ne_of_none ex hp))
def ext (φ : Nat -> Addr) (n : Nat) (p : Addr) : Nat -> Addr := fun i => if i = n then p else φ i
theorem ext_lt {p : Addr} {i : Nat} (h : i < n) : ext φ n p i = φ i := by unfold ext; rw [if_neg (by omega)]
theorem ext_eq {p : Addr} : ext φ n p n = p := by unfold ext; rw [if_pos rfl]
theorem step_new {p : Addr} {o : HO} (hp : H p = none) : Step K φ n H (ext φ n p) (n + 1) (upd H p o) := by
 refine ⟨Nat.le_succ _, fun i h => ext_lt h, fun a ys h => ?_, fun a o u h => ?_⟩
 ·rw [upd_ne (ne_of_none h hp)]; exact h
 ·rw [upd_ne (ne_of_none h hp)]; exact h
theorem RelH.new {p : Addr} {x : HO} {o : PO} (h : RelH K φ ph H) (hp : H p = none) (r : RelPO K (ext φ ph.length p) (ph.length + 1) (upd H p x) o p) :
  RelH K (ext φ ph.length p) (ph ++ [o]) (upd H p x) := by
 refine ⟨fun i o' e => ?_, fun i j hi hj e => ?_⟩
 ·rw [List.length_append]
  by_cases hi : i < ph.length
  ·rw [List.getElem?_append_left hi] at e
   obtain ⟨y, ey, _⟩ := h.at hi
   rw [ext_lt hi]
   exact (h.hp i o' e).mono (step_new hp) (upd_ne (ne_of_none ey hp))
  ·have hl := (List.getElem?_eq_some_iff.mp e).1
   simp at hl
   have : i = ph.length := by omega
   subst this
   simp at e
   subst e
   rw [ext_eq]
   exact r
 ·simp at hi hj
  have key : ∀ k, k < ph.length -> φ k ≠ p := fun k hk z => by
   obtain ⟨y, ey, _⟩ := h.at hk
   rw [z, hp] at ey; cases ey
  by_cases h1 : i < ph.length <;> by_cases h2 : j < ph.length
  ·rw [ext_lt h1, ext_lt h2] at e; exact h.inj i j h1 h2 e
  ·have : j = ph.length := by omega
   subst this
   rw [ext_lt h1, ext_eq] at e; exact (key i h1 e).elim
  ·have : i = ph.length := by omega
   subst this
   rw [ext_lt h2, ext_eq] at e; exact (key j h2 e.symm).elim
  ·omega
theorem step_set {a : Addr} {x y : HO} (ha : H a = some x) (mx : Mut (some x)) : Step K φ n H φ n (upd H a y) := by
 refine ⟨Nat.le_refl _, fun _ _ => rfl, fun c ys h => ?_, fun c o u h => ?_⟩
 ·rw [upd_ne (ne_of h ha (by rintro rfl; exact mx))]; exact h
 ·rw [upd_ne (ne_of h ha (by rintro rfl; exact mx))]; exact h
theorem RelH.put {i : Nat} {x : HO} {o o0 : PO} (h : RelH K φ ph H) (hw : ph[i]? = some o0) (hz : o0.fz = false) (r : RelPO K φ ph.length (upd H (φ i) x) o (φ i)) : RelH K φ (ph.set i o) (upd H (φ i) x) := by
 have hi : i < ph.length := (List.getElem?_eq_some_iff.mp hw).1
 obtain ⟨y, ey, my⟩ := h.mu hw hz
 refine ⟨fun j o' e => ?_, fun j k hj hk e => ?_⟩
 ·rw [List.length_set]
  by_cases hj : j = i
  ·subst hj
   rw [List.getElem?_set_self hi] at e
   cases e
   exact r
  ·rw [List.getElem?_set_ne (Ne.symm hj)] at e
   have hjl := (List.getElem?_eq_some_iff.mp e).1
   exact (h.hp j o' e).mono (step_set ey my) (upd_ne fun z => hj (h.inj j i hjl hi z))
 ·rw [List.length_set] at hj hk
  exact h.inj j k hj hk e
end
def Made (X : Cx) (C : Addr) (H' : Hp) (e : Value) (s' : Shared) : Prop :=
 ∃ pins σ s vs h' a, e = .ref a /\ s' = { s with heap := h' } /\ Inv X pins σ H' s /\ Heap.MadeExcOf s.heap h' a (.ref C) vs
structure UnB (fs : List Addr) (H H' : Hp) (h B h' : Heap) : Prop where
 keep : ∀ b o, h.get? b = some o -> H b = none -> b ∉ fs -> B.get? b = some o
 slot : ∀ b o, h.get? b = some o -> H b = none -> b ∈ fs -> ∃ sl, h'.get? b = some { o with slots := sl }
 free : ∀ b o, h.get? b = some o -> H b = none -> H' b = none
 there : ∀ b o, h.get? b = some o -> b ∉ fs -> ∃ o', B.get? b = some o'
 tups : ∀ b xs, H b = some (.tup xs) -> H' b = some (.tup xs)
 frzs : ∀ b o u, H b = some (.frz o u) -> H' b = some (.frz o u)
 tbls : ∀ b ps, H b = some (.tbl ps) -> ∃ more, H' b = some (.tbl (ps ++ more))
def Flew (P : Program) (w : World) (l : List Env) (H : Hp) (s : Shared) (C : Addr) (H' : Hp) (e : Value) (s' : Shared) : Prop :=
 ∃ a a0 B, e = .ref a /\ s'.os = s.os /\ AllBare s'.gens /\ Heap.FlyingW B l a (.ref C) a0 s'.heap /\ HOk P w H' B /\ UnB (frs l) H H' s.heap B s'.heap
def Thr (X : Cx) (x : XC) (H' : Hp) (e : Value) (s' : Shared) : Prop := ∃ C, X.mg x.cls = some (.ref C) /\ x.fs = [] /\ (Made X C H' e s' \/ ∃ pins σ H s, Inv X pins σ H s /\ Flew X.prog X.w X.stack H s C H' e s')
def XE (X : Cx) (φ : Nat -> Addr) (n : Nat) (H : Hp) : XC -> PH -> Prop := fun x ph' => ∀ φ' H' e s', RelH X.K φ' ph' H' -> Step X.K φ n H φ' ph'.length H' -> Thr X x H' e s' -> X.xe e s'
theorem XE.step {X : Cx} {φ φ1 : Nat -> Addr} {n n1 : Nat} {H H1 : Hp} {x : XC} {ph' : PH} (h : XE X φ n H x ph') (s : Step X.K φ n H φ1 n1 H1) : XE X φ1 n1 H1 x ph' := fun φ' H' e s' r t q => h φ' H' e s' r (s.trans t) q
def tM (X : Cx) (m : EM) : TE := fun σ H Q => ∃ φ ph ws, RelH X.K φ ph H /\ RelS X.K φ ph.length H ws σ /\ (m ws ph).Run (fun w ph' =>
 ∀ φ' H' v, RelH X.K φ' ph' H' -> Step X.K φ ph.length H φ' ph'.length H' -> RelW X.K φ' ph'.length H' w v -> Q v H') (XE X φ ph.length H)
def tT (X : Cx) (m : TM) : TT := fun σ H Q => ∃ φ ph ws, RelH X.K φ ph H /\ RelS X.K φ ph.length H ws σ /\ (m ws ph).Run (fun b ph' =>
 ∀ φ' H', RelH X.K φ' ph' H' -> Step X.K φ ph.length H φ' ph'.length H' -> Q b H') (XE X φ ph.length H)
def tA (X : Cx) (m : AM) : TA := fun σ H Q => ∃ φ ph ws, RelH X.K φ ph H /\ RelS X.K φ ph.length H ws σ /\ (m ws ph).Run (fun xs ph' =>
 ∀ φ' H' vs, RelH X.K φ' ph' H' -> Step X.K φ ph.length H φ' ph'.length H' -> RelWs X.K φ' ph'.length H' xs vs -> Q vs H') (XE X φ ph.length H)
def EndF (X : Cx) (D : Ends) (φ' : Nat -> Addr) (ph' : PH) (H' : Hp) (f : Fl) : Prop := match f with
 | .nx ws' => ∀ σ', RelS X.K φ' ph'.length H' ws' σ' -> D.nx σ' H'
 | .bk ws' => ∀ σ', RelS X.K φ' ph'.length H' ws' σ' -> D.bk σ' H'
 | .ct ws' => ∀ σ', RelS X.K φ' ph'.length H' ws' σ' -> D.ct σ' H'
 | .rt w => ∀ v, RelW X.K φ' ph'.length H' w v -> D.rt v H'
def tS (X : Cx) (m : SM) : TS := fun D σ H => ∃ φ ph ws, RelH X.K φ ph H /\ RelS X.K φ ph.length H ws σ /\ (m ws ph).Run (fun f ph' =>
 ∀ φ' H', RelH X.K φ' ph' H' -> Step X.K φ ph.length H φ' ph'.length H' -> EndF X D φ' ph' H' f) (XE X φ ph.length H)
section
variable {X : Cx} {e : Expr}
theorem PE.imp {t t' : TE} (h : PE X e t) (k : ∀ σ H Q, t' σ H Q -> t σ H Q) : PE X e t' := fun pins s σ H Q I q => h pins s σ H Q I (k σ H Q q)
theorem PT.imp {t t' : TT} (h : PT X e t) (k : ∀ σ H Q, t' σ H Q -> t σ H Q) : PT X e t' := fun pins s σ H Q I q => h pins s σ H Q I (k σ H Q q)
theorem PA.imp {es : List Expr} {t t' : TA} (h : PA X es t) (k : ∀ σ H Q, t' σ H Q -> t σ H Q) : PA X es t' := fun pos pins s σ H Q I q => h pos pins s σ H Q I (k σ H Q q)
theorem PS.imp {st : Stmt} {t t' : TS} (h : PS X st t) (k : ∀ D σ H, t' D σ H -> t D σ H) : PS X st t' := fun pins s σ H D I q => h pins s σ H D I (k D σ H q)
theorem PSs.imp {st : List Stmt} {t t' : TS} (h : PSs X st t) (k : ∀ D σ H, t' D σ H -> t D σ H) : PSs X st t' := fun pins s σ H D I q => h pins s σ H D I (k D σ H q)
abbrev IE (X : Cx) (e : Expr) (m : EM) : Prop := PE X e (tM X m)
abbrev IT (X : Cx) (e : Expr) (m : TM) : Prop := PT X e (tT X m)
abbrev IA (X : Cx) (es : List Expr) (m : AM) : Prop := PA X es (tA X m)
abbrev IS (X : Cx) (st : Stmt) (m : SM) : Prop := PS X st (tS X m)
abbrev ISs (X : Cx) (st : List Stmt) (m : SM) : Prop := PSs X st (tS X m)
end
def eVar (i : Nat) : EM := fun σ => lift fun ph => match σ[i]? with
 | some (some w) => some (w, ph)
 | _ => none
def eC (w : W) : EM := fun _ => pur w
def eOp (f : W -> W -> Po W) (a b : EM) : EM := fun σ => bnd (a σ) fun x => bnd (b σ) fun y => lift (f x y)
def eUn (f : W -> Po W) (a : EM) : EM := fun σ => bnd (a σ) fun x => lift (f x)
def OpI (K : PySem.W.Frag) (r : R2) (f : W -> W -> Po W) : Prop := ∀ {φ : Nat -> Addr} {ph : PH} {H : Hp} {x y : W} {vx vy : V} {w : W} {ph' : PH} {Q : VK}, RelH K φ ph H -> RelW K φ ph.length H x vx -> RelW K φ ph.length H y vy -> f x y ph = some (w, ph') →
 (∀ φ' H' v, RelH K φ' ph' H' -> Step K φ ph.length H φ' ph'.length H' -> RelW K φ' ph'.length H' w v -> Q v H') -> r vx vy H Q
def UnI (K : PySem.W.Frag) (r : V -> Hp -> VK -> Prop) (f : W -> Po W) : Prop := ∀ {φ : Nat -> Addr} {ph : PH} {H : Hp} {x : W} {vx : V} {w : W} {ph' : PH} {Q : VK}, RelH K φ ph H -> RelW K φ ph.length H x vx -> f x ph = some (w, ph') →
 (∀ φ' H' v, RelH K φ' ph' H' -> Step K φ ph.length H φ' ph'.length H' -> RelW K φ' ph'.length H' w v -> Q v H') -> r vx H Q
section
variable {X : Cx} {a b c : Expr} {ma mb mc : EM} {pos : Pos}
theorem ie_var (i : Nat) {x : Str} (hN : X.N[i]? = some x := by rfl) (hv : Vis X.env.scope x := by first | exact Or.inl rfl | exact Or.inr (Or.inl rfl) | exact Or.inr (Or.inr rfl)) (hd : (x == ("__debug__" : Str)) = false := by decide)
  (hcd : (x == ("__classdict__" : Str)) = false := by decide) : IE X (.Name x pos) (eVar i) := by
 refine PE.imp (pe_var hN hv hd hcd) fun σ H Q h => ?_
 obtain ⟨φ, ph, ws, hH, hS, h⟩ := h
 obtain ⟨w, ph', e, k⟩ := run_lift h
 split at e
 ·rename_i w' ew
  cases e
  obtain ⟨v, ev, rv⟩ := hS.get ew
  exact ⟨v, ev, k φ H v hH Step.refl rv⟩
 ·cases e
theorem ie_c {t : V} {w : W} (h : PE X a (tC t)) (r : ∀ φ n H, RelW X.K φ n H w t) : IE X a (eC w) := by
 refine PE.imp h fun σ H Q h => ?_
 obtain ⟨φ, ph, ws, hH, hS, h⟩ := h
 exact h φ H _ hH Step.refl (r _ _ _)
theorem ie_int {i : Int} {j : Nat} : IE X (.Constant (.int i) j pos) (eC (.int i)) := ie_c pe_int fun _ _ _ => .int i
theorem ie_str {x : Str} {j : Nat} : IE X (.Constant (.str x) j pos) (eC (.str x)) := ie_c pe_str fun _ _ _ => .str x
theorem ie_bl {x : Bool} {j : Nat} : IE X (.Constant (.bool x) j pos) (eC (.bl x)) := ie_c pe_bl fun _ _ _ => .bl x
theorem tM.bind {β : Type} {m : EM} {σ : L2.St} {H : Hp} {Q : VK} {φ : Nat -> Addr} {ph : PH} {ws : PSt} {f : W -> Mo β} {N : β -> PH -> Prop} (hH : RelH X.K φ ph H) (hS : RelS X.K φ ph.length H ws σ) (h : (bnd (m ws) f ph).Run N (XE X φ ph.length H))
  (k : ∀ w ph1 φ1 H1 v, RelH X.K φ1 ph1 H1 -> Step X.K φ ph.length H φ1 ph1.length H1 -> RelW X.K φ1 ph1.length H1 w v -> (f w ph1).Run N (XE X φ1 ph1.length H1) -> Q v H1) : tM X m σ H Q := by
 rw [run_bnd] at h
 exact ⟨φ, ph, ws, hH, hS, h.mono (fun w ph1 h1 φ1 H1 v hH1 s1 r1 => k w ph1 φ1 H1 v hH1 s1 r1 (h1.mono (fun _ _ z => z) fun _ _ z => z.step s1)) fun _ _ z => z⟩
theorem tT.bind {β : Type} {m : TM} {σ : L2.St} {H : Hp} {Q : Bool -> Hp -> Prop} {φ : Nat -> Addr} {ph : PH} {ws : PSt} {f : Bool -> Mo β} {N : β -> PH -> Prop} (hH : RelH X.K φ ph H) (hS : RelS X.K φ ph.length H ws σ) (h : (bnd (m ws) f ph).Run N (XE X φ ph.length H))
  (k : ∀ b ph1 φ1 H1, RelH X.K φ1 ph1 H1 -> Step X.K φ ph.length H φ1 ph1.length H1 -> (f b ph1).Run N (XE X φ1 ph1.length H1) -> Q b H1) : tT X m σ H Q := by
 rw [run_bnd] at h
 exact ⟨φ, ph, ws, hH, hS, h.mono (fun b ph1 h1 φ1 H1 hH1 s1 => k b ph1 φ1 H1 hH1 s1 (h1.mono (fun _ _ z => z) fun _ _ z => z.step s1)) fun _ _ z => z⟩
theorem tA.bind {β : Type} {m : AM} {σ : L2.St} {H : Hp} {Q : List V -> Hp -> Prop} {φ : Nat -> Addr} {ph : PH} {ws : PSt} {f : List W -> Mo β} {N : β -> PH -> Prop} (hH : RelH X.K φ ph H) (hS : RelS X.K φ ph.length H ws σ) (h : (bnd (m ws) f ph).Run N (XE X φ ph.length H))
  (k : ∀ xs ph1 φ1 H1 vs, RelH X.K φ1 ph1 H1 -> Step X.K φ ph.length H φ1 ph1.length H1 -> RelWs X.K φ1 ph1.length H1 xs vs -> (f xs ph1).Run N (XE X φ1 ph1.length H1) -> Q vs H1) : tA X m σ H Q := by
 rw [run_bnd] at h
 exact ⟨φ, ph, ws, hH, hS, h.mono (fun w ph1 h1 φ1 H1 v hH1 s1 r1 => k w ph1 φ1 H1 v hH1 s1 r1 (h1.mono (fun _ _ z => z) fun _ _ z => z.step s1)) fun _ _ z => z⟩
theorem bin_imp {r : R2} {f : W -> W -> Po W} (hi : OpI X.K r f) {σ : L2.St} {H : Hp} {Q : VK} (h : tM X (eOp f ma mb) σ H Q) : tOp r (tM X ma) (tM X mb) σ H Q := by
 obtain ⟨φ, ph, ws, hH, hS, h⟩ := h
 refine tM.bind hH hS h fun x ph1 φ1 H1 vx hH1 s1 rx h => tM.bind hH1 (hS.mono s1) h fun y ph2 φ2 H2 vy hH2 s2 ry h => ?_
 obtain ⟨w, ph', e, k⟩ := run_lift h
 exact hi hH2 (rx.mono s2) ry e fun φ3 H3 v hH3 s3 r3 => k φ3 H3 v hH3 ((s1.trans s2).trans s3) r3
theorem ie_op {op : Operator} {r : R2} {f : W -> W -> Po W} (ho : OpR X (binaryOp op) r) (hi : OpI X.K r f) (ha : IE X a ma) (hb : IE X b mb) : IE X (.BinOp a op b pos) (eOp f ma mb) :=
 PE.imp (pe_op ho ha hb) fun _ _ _ h => bin_imp hi h
theorem ie_un {op : UnaryOp} {r : V -> Hp -> VK -> Prop} {f : W -> Po W} (ho : UnR X (unaryOp op) r) (hi : UnI X.K r f) (ha : IE X a ma) : IE X (.UnaryOp op a pos) (eUn f ma) := by
 refine PE.imp (pe_un ho ha) fun σ H Q h => ?_
 obtain ⟨φ, ph, ws, hH, hS, h⟩ := h
 refine tM.bind hH hS h fun x ph1 φ1 H1 vx hH1 s1 rx h => ?_
 obtain ⟨w, ph', e, k⟩ := run_lift h
 exact hi hH1 rx e fun φ3 H3 v hH3 s3 r3 => k φ3 H3 v hH3 (s1.trans s3) r3
theorem ie_cmp {op : CmpOp} {r : R2} {f : W -> W -> Po W} (ho : OpR X (compareOp op) r) (hi : OpI X.K r f) (ha : IE X a ma) (hb : IE X b mb) (hm : behindInMarks op b = false) : IE X (.Compare a [op] [b] pos) (eOp f ma mb) :=
 PE.imp (pe_cmpR ho ha hb hm) fun _ _ _ h => bin_imp hi h
def eT (m : EM) : TM := fun σ => bnd (m σ) fun w => lift (match w with
 | .bl b => ret b
 | _ => nono)
theorem it_cmp {op : CmpOp} {r : R2} {f : W -> W -> Po W} (ho : OpR X (compareOp op) r) (hi : OpI X.K r f) (ha : IE X a ma) (hb : IE X b mb) (hm : behindInMarks op b = false) : IT X (.Compare a [op] [b] pos) (eT (eOp f ma mb)) := by
 refine PT.imp (pt_cmpR ho ha hb hm) fun σ H Q h => ?_
 obtain ⟨φ, ph, ws, hH, hS, h⟩ := h
 refine bin_imp hi (tM.bind hH hS h fun x ph1 φ1 H1 vx hH1 s1 rx h => ?_)
 obtain ⟨w, ph', e, k⟩ := run_lift h
 split at e
 ·cases e
  cases rx
  exact ⟨_, rfl, k φ1 H1 hH1 s1⟩
 ·cases e
end
def iop (g : Int -> Int -> Int) : W -> W -> Po W := fun x y => match x, y with
 | .int i, .int j => ret (.int (g i j))
 | _, _ => nono
def iopC (c : Int -> Int -> Bool) (g : Int -> Int -> Int) : W -> W -> Po W := fun x y => match x, y with
 | .int i, .int j => if c i j = true then ret (.int (g i j)) else nono
 | _, _ => nono
def icmp (g : Int -> Int -> Bool) : W -> W -> Po W := fun x y => match x, y with
 | .int i, .int j => ret (.bl (g i j))
 | _, _ => nono
theorem iop_i {K : PySem.W.Frag} {g : Int -> Int -> Int} : OpI K (rI0 fun i j => .int (g i j)) (iop g) := by
 intro φ ph H x y vx vy w ph' Q hH rx ry e k
 unfold iop at e
 split at e
 ·cases e; cases rx; cases ry
  exact ⟨_, _, rfl, rfl, k φ H _ hH Step.refl (.int _)⟩
 ·cases e
theorem iopC_i {K : PySem.W.Frag} {C : Int -> Int -> Prop} {c : Int -> Int -> Bool} {g : Int -> Int -> Int} (hc : ∀ i j, c i j = true -> C i j) : OpI K (rI C fun i j => .int (g i j)) (iopC c g) := by
 intro φ ph H x y vx vy w ph' Q hH rx ry e k
 unfold iopC at e
 split at e
 ·split at e
  ·cases e; cases rx; cases ry
   exact ⟨_, _, rfl, rfl, hc _ _ (by assumption), k φ H _ hH Step.refl (.int _)⟩
  ·cases e
 ·cases e
theorem icmp_i {K : PySem.W.Frag} {g : Int -> Int -> Bool} : OpI K (rI0 fun i j => .bl (g i j)) (icmp g) := by
 intro φ ph H x y vx vy w ph' Q hH rx ry e k
 unfold icmp at e
 split at e
 ·cases e; cases rx; cases ry
  exact ⟨_, _, rfl, rfl, k φ H _ hH Step.refl (.bl _)⟩
 ·cases e
end IL
namespace IL
open PySem PySem.Spec PyProof.Rows L2
def tAndM (a b : TM) : TM := fun σ => bnd (a σ) fun c => if c = true then b σ else pur false
def tOrM (a b : TM) : TM := fun σ => bnd (a σ) fun c => if c = true then pur true else b σ
def tNotM (a : TM) : TM := fun σ => bnd (a σ) fun c => pur (!c)
def eAnd (a b : EM) : EM := fun σ => bnd (a σ) fun w => match w with
 | .bl c => if c = true then b σ else pur (.bl false)
 | _ => nop
def eOr (a b : EM) : EM := fun σ => bnd (a σ) fun w => match w with
 | .bl c => if c = true then pur (.bl true) else b σ
 | _ => nop
def eNot (a : EM) : EM := fun σ => bnd (a σ) fun w => match w with
 | .bl c => pur (.bl (!c))
 | _ => nop
def eIf (t : TM) (a b : EM) : EM := fun σ => bnd (t σ) fun c => if c = true then a σ else b σ
section
variable {X : Cx} {a b c : Expr} {rest : List Expr} {ma mb mc : EM} {ta tb : TM} {pos : Pos}
theorem it_not (ha : IT X a ta) : IT X (.UnaryOp .Not a pos) (tNotM ta) := by
 refine PT.imp (pt_not ha) fun σ H Q h => ?_
 obtain ⟨φ, ph, ws, hH, hS, h⟩ := h
 exact tT.bind hH hS h fun x ph1 φ1 H1 hH1 s1 h => h φ1 H1 hH1 s1
theorem and_imp {σ : L2.St} {H : Hp} {Q : Bool -> Hp -> Prop} (h : tT X (tAndM ta tb) σ H Q) : tAnd (tT X ta) (tT X tb) σ H Q := by
 obtain ⟨φ, ph, ws, hH, hS, h⟩ := h
 refine tT.bind hH hS h fun x ph1 φ1 H1 hH1 s1 h => ?_
 cases x with
 | true => exact iteT ⟨φ1, ph1, ws, hH1, hS.mono s1, h.mono (fun _ _ k φ2 H2 hH2 s2 => k φ2 H2 hH2 (s1.trans s2)) fun _ _ z => z⟩
 | false => exact iteF (h φ1 H1 hH1 s1)
theorem or_imp {σ : L2.St} {H : Hp} {Q : Bool -> Hp -> Prop} (h : tT X (tOrM ta tb) σ H Q) : tOr (tT X ta) (tT X tb) σ H Q := by
 obtain ⟨φ, ph, ws, hH, hS, h⟩ := h
 refine tT.bind hH hS h fun x ph1 φ1 H1 hH1 s1 h => ?_
 cases x with
 | false => exact iteF ⟨φ1, ph1, ws, hH1, hS.mono s1, h.mono (fun _ _ k φ2 H2 hH2 s2 => k φ2 H2 hH2 (s1.trans s2)) fun _ _ z => z⟩
 | true => exact iteT (h φ1 H1 hH1 s1)
theorem iw_one {op : BoolOp} (ha : IT X a ta) : PW X (.BoolOp op [a] pos) (tT X ta) := by
 cases op with
 | And => exact pw_and1 ha
 | Or => exact pw_or1 ha
theorem iw_and (ha : IT X a ta) (hb : PW X (.BoolOp .And (b :: rest) pos) (tT X tb)) : PW X (.BoolOp .And (a :: b :: rest) pos) (tT X (tAndM ta tb)) :=
 fun wh pins s σ H Q I h => pw_and ha hb wh pins s σ H Q I (and_imp h)
theorem iw_or (ha : IT X a ta) (hb : PW X (.BoolOp .Or (b :: rest) pos) (tT X tb)) : PW X (.BoolOp .Or (a :: b :: rest) pos) (tT X (tOrM ta tb)) :=
 fun wh pins s σ H Q I h => pw_or ha hb wh pins s σ H Q I (or_imp h)
theorem ie_and (ha : IE X a ma) (hb : IE X (.BoolOp .And (b :: rest) pos) mb) : IE X (.BoolOp .And (a :: b :: rest) pos) (eAnd ma mb) := by
 refine PE.imp (pe_and ha hb) fun σ H Q h => ?_
 obtain ⟨φ, ph, ws, hH, hS, h⟩ := h
 refine tM.bind hH hS h fun x ph1 φ1 H1 vx hH1 s1 rx h => ?_
 cases rx with
 | bl c =>
  refine ⟨c, rfl, ?_⟩
  cases c with
  | true => exact iteT ⟨φ1, ph1, ws, hH1, hS.mono s1, h.mono (fun _ _ k φ2 H2 v hH2 s2 r2 => k φ2 H2 v hH2 (s1.trans s2) r2) fun _ _ z => z⟩
  | false => exact iteF (h φ1 H1 _ hH1 s1 (.bl false))
 | _ => exact h.elim
theorem ie_or (ha : IE X a ma) (hb : IE X (.BoolOp .Or (b :: rest) pos) mb) : IE X (.BoolOp .Or (a :: b :: rest) pos) (eOr ma mb) := by
 refine PE.imp (pe_or ha hb) fun σ H Q h => ?_
 obtain ⟨φ, ph, ws, hH, hS, h⟩ := h
 refine tM.bind hH hS h fun x ph1 φ1 H1 vx hH1 s1 rx h => ?_
 cases rx with
 | bl c =>
  refine ⟨c, rfl, ?_⟩
  cases c with
  | false => exact iteF ⟨φ1, ph1, ws, hH1, hS.mono s1, h.mono (fun _ _ k φ2 H2 v hH2 s2 r2 => k φ2 H2 v hH2 (s1.trans s2) r2) fun _ _ z => z⟩
  | true => exact iteT (h φ1 H1 _ hH1 s1 (.bl true))
 | _ => exact h.elim
theorem ie_one {op : BoolOp} (ha : IE X a ma) : IE X (.BoolOp op [a] pos) ma := pe_one ha
def truW (w : W) : Po Bool := fun ph => match w with
 | .non => some (false, ph)
 | .bl b => some (b, ph)
 | .int i => some (i != 0, ph)
 | .str y => if y.length <= sizeLine then some ((y.length : Int) != 0, ph) else none
 | .tup ws => some (!ws.isEmpty, ph)
 | .fl ws => some (!ws.isEmpty, ph)
 | .ref i => match ph[i]? with
  | some (.lst ws) => some (!ws.isEmpty, ph)
  | _ => none
 | .exc .. => none
def eTru (m : EM) : TM := fun σ => bnd (m σ) fun w => lift (truW w)
theorem emp_of {K : PySem.W.Frag} {φ : Nat -> Addr} {n : Nat} {H : Hp} {ws : List W} {vs : List V} (r : RelWs K φ n H ws vs) : (!vs.isEmpty) = !ws.isEmpty := by cases r <;> rfl
theorem it_tru (ha : IE X a ma) (he : ∀ whole, isTrue a X.env whole = (do let v <- whole; standAt a.pos; holding [v] (truthy v)) := by intro _; rfl) : IT X a (eTru ma) := by
 refine PT.imp (pt_truth ha he) fun σ H Q h => ?_
 obtain ⟨φ, ph, ws, hH, hS, h⟩ := h
 refine tM.bind hH hS h fun x ph1 φ1 H1 vx hH1 s1 rx h => ?_
 obtain ⟨b, ph2, e, k⟩ := run_lift h
 unfold truW at e
 cases rx with
 | non => cases e; exact ⟨_, rfl, k φ1 H1 hH1 s1⟩
 | bl b => cases e; exact ⟨_, rfl, k φ1 H1 hH1 s1⟩
 | int i => cases e; exact ⟨_, rfl, k φ1 H1 hH1 s1⟩
 | str y =>
  simp only at e
  split at e
  ·rename_i hy
   cases e
   exact ⟨_, ⟨hy, rfl⟩, k φ1 H1 hH1 s1⟩
  ·cases e
 | tup hq r => cases e; exact ⟨_, .inr (.inl ⟨_, SqT.of hq, rfl⟩), by rw [emp_of r]; exact k φ1 H1 hH1 s1⟩
 | fl hq r => cases e; exact ⟨_, .inl ⟨_, hq.sq, rfl⟩, by rw [emp_of r]; exact k φ1 H1 hH1 s1⟩
 | ref hi =>
  simp only at e
  split at e
  ·rename_i ws' hw
   cases e
   obtain ⟨vs, hv, r⟩ := hH1.hp _ _ hw
   exact ⟨_, .inl ⟨vs, SqL.of hv, rfl⟩, by rw [emp_of r]; exact k φ1 H1 hH1 s1⟩
  ·cases e
 | exc => cases e
end
def sNext : SM := fun σ => pur (.nx σ)
def sSeq (a b : SM) : SM := fun σ => bnd (a σ) fun f => match f with
 | .nx σ' => b σ'
 | f => pur f
def sExpr (e : EM) : SM := fun σ => bnd (e σ) fun _ => pur (.nx σ)
def sRet (e : EM) : SM := fun σ => bnd (e σ) fun w => pur (.rt w)
def sIf (t : TM) (a b : SM) : SM := fun σ => bnd (t σ) fun c => if c = true then a σ else b σ
abbrev GM := W -> PSt -> Mo PSt
def gN (i : Nat) : GM := fun w σ => pur (σ.set i (some w))
def sAsg (e : EM) (g : GM) : SM := fun σ => bnd (e σ) fun w => bnd (g w σ) fun σ' => pur (.nx σ')
def tG (X : Cx) (g : GM) : TG := fun v σ H Q => ∃ φ ph ws w, RelH X.K φ ph H /\ RelS X.K φ ph.length H ws σ /\ RelW X.K φ ph.length H w v /\ (g w ws ph).Run (fun ws' ph' =>
 ∀ φ' H' σ', RelH X.K φ' ph' H' -> Step X.K φ ph.length H φ' ph'.length H' -> RelS X.K φ' ph'.length H' ws' σ' -> Q σ' H') (XE X φ ph.length H)
abbrev IG (X : Cx) (tg : Expr) (g : GM) : Prop := PG X tg (tG X g)
section
variable {X : Cx} {e c : Expr} {m : EM} {t : TM} {a b : SM} {st : Stmt} {as bs rest : List Stmt} {pos : Pos} {tg : Expr} {g : GM}
theorem PG.imp {t t' : TG} (h : PG X tg t) (k : ∀ v σ H Q, t' v σ H Q -> t v σ H Q) : PG X tg t' := fun pins s σ H v u Q I r q => h pins s σ H v u Q I r (k v σ H Q q)
theorem iss_nil : ISs X [] sNext := PSs.imp pss_nil fun D σ H h => by
 obtain ⟨φ, ph, ws, hH, hS, h⟩ := h
 exact h φ H hH Step.refl σ hS
theorem seq_imp {D : Ends} {σ : L2.St} {H : Hp} (h : tS X (sSeq a b) D σ H) : tSeq (tS X a) (tS X b) D σ H := by
 obtain ⟨φ, ph, ws, hH, hS, h⟩ := h
 unfold sSeq at h
 rw [run_bnd] at h
 refine ⟨φ, ph, ws, hH, hS, h.mono (fun f ph1 h φ1 H1 hH1 s1 => ?_) fun _ _ z => z⟩
 cases f with
 | nx ws1 => exact fun σ1 hS1 => ⟨φ1, ph1, ws1, hH1, hS1, h.mono (fun f ph2 k φ2 H2 hH2 s2 => k φ2 H2 hH2 (s1.trans s2)) fun _ _ z => z.step s1⟩
 | bk ws1 => exact h φ1 H1 hH1 s1
 | ct ws1 => exact h φ1 H1 hH1 s1
 | rt w => exact h φ1 H1 hH1 s1
theorem iss_cons (h1 : IS X st a) (h2 : ISs X rest b) : ISs X (st :: rest) (sSeq a b) := PSs.imp (pss_cons h1 h2) fun _ _ _ h => seq_imp h
theorem iss_one (h1 : IS X st a) : ISs X [st] a := pss_one h1
theorem is_expr (he : IE X e m) (hs : swapsWith e none pos.line X.env = pure false := by rfl) : IS X (.Expr e pos) (sExpr m) := PS.imp (ps_expr he hs) fun D σ H h => by
 obtain ⟨φ, ph, ws, hH, hS, h⟩ := h
 exact tM.bind hH hS h fun w ph1 φ1 H1 v hH1 s1 r1 h => h φ1 H1 hH1 s1 σ (hS.mono s1)
theorem is_ret (he : IE X e m) : IS X (.Return (some e) pos) (sRet m) := PS.imp (ps_ret he) fun D σ H h => by
 obtain ⟨φ, ph, ws, hH, hS, h⟩ := h
 exact tM.bind hH hS h fun w ph1 φ1 H1 v hH1 s1 r1 h => h φ1 H1 hH1 s1 v r1
theorem is_if (hc : IT X c t) (ha : ISs X as a) (hb : ISs X bs b) : IS X (.If c as bs pos) (sIf t a b) := PS.imp (ps_if hc ha hb) fun D σ H h => by
 obtain ⟨φ, ph, ws, hH, hS, h⟩ := h
 refine tT.bind hH hS h fun x ph1 φ1 H1 hH1 s1 h => ?_
 cases x with
 | true => exact iteT ⟨φ1, ph1, ws, hH1, hS.mono s1, h.mono (fun _ _ k φ2 H2 hH2 s2 => k φ2 H2 hH2 (s1.trans s2)) fun _ _ z => z⟩
 | false => exact iteF ⟨φ1, ph1, ws, hH1, hS.mono s1, h.mono (fun _ _ k φ2 H2 hH2 s2 => k φ2 H2 hH2 (s1.trans s2)) fun _ _ z => z⟩
theorem ig_name {i : Nat} {x : Str} (hN : X.N.Nodup) (hi : X.N[i]? = some x) (hx : Loc X.env.scope x) (hf : X.fn x = true \/ X.env.scope.names.lookup x = some .local := by first | exact .inl rfl | exact .inr rfl | assumption) : IG X (.Name x pos) (gN i) :=
 PG.imp (pg_name hN hi hx hf) fun v σ H Q h => by
  obtain ⟨φ, ph, ws, w, hH, hS, rw', h⟩ := h
  exact h φ H _ hH Step.refl (hS.set rw' i)
theorem tG.bind {β : Type} {g : GM} {σ : L2.St} {H : Hp} {Q : L2.St -> Hp -> Prop} {φ : Nat -> Addr} {ph : PH} {ws : PSt} {w : W} {v : V} {f : PSt -> Mo β} {N : β -> PH -> Prop} (hH : RelH X.K φ ph H) (hS : RelS X.K φ ph.length H ws σ) (rw' : RelW X.K φ ph.length H w v) (h : (bnd (g w ws) f ph).Run N (XE X φ ph.length H))
  (k : ∀ ws1 ph1 φ1 H1 σ1, RelH X.K φ1 ph1 H1 -> Step X.K φ ph.length H φ1 ph1.length H1 -> RelS X.K φ1 ph1.length H1 ws1 σ1 -> (f ws1 ph1).Run N (XE X φ1 ph1.length H1) -> Q σ1 H1) : tG X g v σ H Q := by
 rw [run_bnd] at h
 exact ⟨φ, ph, ws, w, hH, hS, rw', h.mono (fun ws1 ph1 h1 φ1 H1 σ1 hH1 s1 r1 => k ws1 ph1 φ1 H1 σ1 hH1 s1 r1 (h1.mono (fun _ _ z => z) fun _ _ z => z.step s1)) fun _ _ z => z⟩
theorem asg_imp {D : Ends} {σ : L2.St} {H : Hp} (h : tS X (sAsg m g) D σ H) : tAsg (tM X m) (tG X g) D σ H := by
 obtain ⟨φ, ph, ws, hH, hS, h⟩ := h
 refine tM.bind hH hS h fun w ph1 φ1 H1 v hH1 s1 r1 h => ?_
 exact tG.bind hH1 (hS.mono s1) r1 h fun ws2 ph2 φ2 H2 σ2 hH2 s2 hS2 h => h φ2 H2 hH2 (s1.trans s2) σ2 hS2
theorem is_set {i : Nat} {x : Str} {pos' : Pos} (hN : X.N.Nodup) (hi : X.N[i]? = some x) (hx : Loc X.env.scope x) (he : IE X e m) (hs : swapsWith e (some (.Name x pos')) pos.line X.env = pure false := by rfl)
  (hf : X.fn x = true \/ X.env.scope.names.lookup x = some .local := by first | exact .inl rfl | exact .inr rfl | assumption) : IS X (.Assign [.Name x pos'] e pos) (sAsg m (gN i)) :=
 PS.imp (ps_set hN hi hx he hs hf) fun D σ H h => by
  obtain ⟨φ, ph, ws, hH, hS, h⟩ := h
  exact tM.bind hH hS h fun w ph1 φ1 H1 v hH1 s1 r1 h => h φ1 H1 hH1 s1 _ ((hS.mono s1).set r1 i)
theorem is_asg (he : IE X e m) (hg : IG X tg g) (hs : swapsWithSole [tg] e pos.line X.env = pure false := by rfl) (hw : swappedStores [tg] e X.env = pure none := by rfl)
  (h1 : (assignEach [tg] X.env).map (·.2) = [assign tg X.env] := by rfl) : IS X (.Assign [tg] e pos) (sAsg m g) := PS.imp (ps_asg he hg hs hw h1) fun _ _ _ h => asg_imp h
end
abbrev IM := PSt -> Mo (List W × (PH -> Bool))
def forG (chk : PH -> Bool) (g : GM) (b : SM) : List W -> SM
 | [], σ => fun ph => if chk ph = true then .ok (.nx σ) ph else .no
 | x :: xs, σ => fun ph => if chk ph = true then bnd (g x σ) (fun σ1 => bnd (b σ1) fun f => match f with
   | .nx σ' => forG chk g b xs σ'
   | .ct σ' => forG chk g b xs σ'
   | .bk σ' => pur (.nx σ')
   | .rt w => pur (.rt w)) ph else .no
def sFor (im : IM) (g : GM) (b : SM) : SM := fun σ => bnd (im σ) fun r => forG r.2 g b r.1 σ
def ItI (K : PySem.W.Frag) (J : It) (items : List W) (chk : PH -> Bool) (φ : Nat -> Addr) (n : Nat) (H : Hp) : Prop :=
 ∀ φ' ph' H', RelH K φ' ph' H' -> Step K φ n H φ' ph'.length H' -> chk ph' = true -> ∀ i : Nat,
  (∀ w, items[i]? = some w -> J.go i H' /\ ∀ x H'', J.yld i H' x H'' -> RelH K φ' ph' H'' /\ Step K φ' ph'.length H' φ' ph'.length H'' /\ RelW K φ' ph'.length H'' w x) /\ (items[i]? = none -> J.stop i H')
def tI (X : Cx) (im : IM) : TI := fun σ H R => ∃ φ ph ws, RelH X.K φ ph H /\ RelS X.K φ ph.length H ws σ /\ (im ws ph).Run (fun r ph' =>
 ∀ φ' H' J, RelH X.K φ' ph' H' -> Step X.K φ ph.length H φ' ph'.length H' -> ItI X.K J r.1 r.2 φ' ph'.length H' -> R J H') (XE X φ ph.length H)
abbrev II (X : Cx) (tg iter : Expr) (im : IM) : Prop := PI X tg iter (tI X im)
section
variable {X : Cx} {iter tg c : Expr} {im : IM} {g : GM} {b : SM} {t : TM} {body : List Stmt} {pos : Pos}
theorem for_imp {D : Ends} {σ : L2.St} {H : Hp} (h : tS X (sFor im g b) D σ H) : tFor (tI X im) (tG X g) (tS X b) D σ H := by
 obtain ⟨φ, ph, ws, hH, hS, h⟩ := h
 unfold sFor at h
 rw [run_bnd] at h
 refine ⟨φ, ph, ws, hH, hS, h.mono (fun r ph1 h φ1 H1 J hH1 s1 hJ => ?_) fun _ _ z => z⟩
 obtain ⟨items, chk⟩ := r
 refine ⟨fun i m σ2 H2 => ∃ φ2 ph2 ws2, m = (items.drop i).length /\ RelH X.K φ2 ph2 H2 /\ RelS X.K φ2 ph2.length H2 ws2 σ2 /\ Step X.K φ1 ph1.length H1 φ2 ph2.length H2 /\
   (forG chk g b (items.drop i) ws2 ph2).Run (fun f ph' => ∀ φ' H', RelH X.K φ' ph' H' -> Step X.K φ2 ph2.length H2 φ' ph'.length H' -> EndF X D φ' ph' H' f) (XE X φ2 ph2.length H2),
  ⟨_, φ1, ph1, ws, rfl, hH1, hS.mono s1, Step.refl, h.mono (fun f ph' k φ' H' r' s' => k φ' H' r' (s1.trans s')) fun _ _ z => z.step s1⟩, ?_⟩
 rintro i m σ2 H2 ⟨φ2, ph2, ws2, rfl, hH2, hS2, s2, h2⟩
 cases hd : items.drop i with
 | nil =>
  rw [hd] at h2
  unfold forG at h2
  split at h2
  ·rename_i hc
   have hn : items[i]? = none := by
    have : items.length <= i := by simpa using hd
    simpa using this
   exact .inl ⟨(hJ φ2 _ H2 hH2 s2 hc i).2 hn, h2 φ2 H2 hH2 Step.refl σ2 hS2⟩
  ·exact h2.elim
 | cons x xs =>
  rw [hd] at h2
  unfold forG at h2
  split at h2
  ·rename_i hc
   have hx : items[i]? = some x := by
    have := congrArg (fun l => l[0]?) hd
    simpa using this
   have hxs : items.drop (i + 1) = xs := by
    have := congrArg (fun l => l.drop 1) hd
    simpa [List.drop_drop, Nat.add_comm] using this
   obtain ⟨hgo, hy⟩ := (hJ φ2 _ H2 hH2 s2 hc i).1 x hx
   refine .inr ⟨hgo, fun σ' H' => ∃ φ' ph'' ws', RelH X.K φ' ph'' H' /\ RelS X.K φ' ph''.length H' ws' σ' /\ Step X.K φ1 ph1.length H1 φ' ph''.length H' /\
     (forG chk g b xs ws' ph'').Run (fun f p' => ∀ φ3 H3, RelH X.K φ3 p' H3 -> Step X.K φ' ph''.length H' φ3 p'.length H3 -> EndF X D φ3 p' H3 f) (XE X φ' ph''.length H'),
    fun σ' H' ⟨φ', ph'', ws', q1, q2, q3, q4⟩ => ⟨xs.length, by simp, φ', ph'', ws', by rw [hxs], q1, q2, q3, by rw [hxs]; exact q4⟩, fun v H3 y => ?_⟩
   obtain ⟨hH3, s3, rv⟩ := hy v H3 y
   have h2' : (bnd (g x ws2) (fun σ1 => bnd (b σ1) fun f => match f with
    | .nx σ' => forG chk g b xs σ'
    | .ct σ' => forG chk g b xs σ'
    | .bk σ' => pur (.nx σ')
    | .rt w => pur (.rt w)) ph2).Run (fun f ph' => ∀ φ' H', RelH X.K φ' ph' H' -> Step X.K φ2 ph2.length H2 φ' ph'.length H' -> EndF X D φ' ph' H' f) (XE X φ2 ph2.length H3) := Out.Run.mono h2 (fun _ _ z => z) fun _ _ z => z.step s3
   refine tG.bind hH3 (hS2.mono s3) rv h2' fun ws4 ph4 φ4 H4 σ4 hH4 s4 hS4 h4 => ?_
   rw [run_bnd] at h4
   refine ⟨φ4, ph4, ws4, hH4, hS4, h4.mono (fun f ph5 h5 φ5 H5 hH5 s5 => ?_) fun _ _ z => z⟩
   have sall := ((s2.trans s3).trans s4).trans s5
   have s25 := (s3.trans s4).trans s5
   cases f with
   | nx ws5 => exact fun σ5 hS5 => ⟨φ5, ph5, ws5, hH5, hS5, sall, h5.mono (fun f p' k φ' H' r' s' => k φ' H' r' (s25.trans s')) fun _ _ z => z.step s5⟩
   | ct ws5 => exact fun σ5 hS5 => ⟨φ5, ph5, ws5, hH5, hS5, sall, h5.mono (fun f p' k φ' H' r' s' => k φ' H' r' (s25.trans s')) fun _ _ z => z.step s5⟩
   | bk ws5 => exact fun σ5 hS5 => h5 φ5 H5 hH5 s25 σ5 hS5
   | rt w => exact fun v hv => h5 φ5 H5 hH5 s25 v hv
  ·exact h2.elim
theorem PI.imp {t t' : TI} (h : PI X tg iter t) (k : ∀ σ H R, t' σ H R -> t σ H R) : PI X tg iter t' := fun pins s σ H R I q => h pins s σ H R I (k σ H R q)
theorem is_for (hp : PassesOwn (model X.prog X.w) X.A X.env X.xe) (hc : X.calm = true) (hi : II X tg iter im) (hg : IG X tg g) (hb : ISs X body b) (hs : ∀ x, foldedSetIterable iter X.env x = pure x := by intro _; rfl) :
  IS X (.For tg iter body [] pos) (sFor im g b) := PS.imp (ps_for hp hc hi hg hb hs) fun _ _ _ h => for_imp h
def seqI (w : W) : Po (List W × (PH -> Bool)) := fun ph => match w with
 | .ref i => match ph[i]? with
  | some (.lst ws) => some ((ws, fun ph' => decide (ph'[i]? = some (.lst ws))), ph)
  | _ => none
 | .fl ws => some ((ws, fun _ => true), ph)
 | _ => none
def tupI (w : W) : Po (List W × (PH -> Bool)) := fun ph => match w with
 | .tup ws => some ((ws, fun _ => true), ph)
 | _ => none
def iSeq (m : EM) : IM := fun σ => bnd (m σ) fun w => lift (seqI w)
def iTupM (m : EM) : IM := fun σ => bnd (m σ) fun w => lift (tupI w)
theorem ii_list {l : Expr} {m : EM} (hl : IE X l m) : II X tg l (iSeq m) := by
 refine PI.imp (pi_list hl) fun σ H R h => ?_
 obtain ⟨φ, ph, ws, hH, hS, h⟩ := h
 refine tM.bind hH hS h fun w ph1 φ1 H1 v hH1 s1 r1 h => ?_
 obtain ⟨r, ph', e, k⟩ := run_lift h
 unfold seqI at e
 cases r1 with
 | ref hi =>
  rename_i i
  simp only at e
  split at e
  ·rename_i items hw
   cases e
   obtain ⟨vs, hv, r⟩ := hH1.hp _ _ hw
   refine ⟨_, rfl, ⟨vs, SqL.of hv⟩, k φ1 H1 _ hH1 s1 ?_⟩
   intro φ2 ph2 H2 hH2 s2 hc j
   have hc' : ph2[i]? = some (.lst items) := of_decide_eq_true hc
   obtain ⟨us, hu, ru⟩ := hH2.hp _ _ hc'
   rw [s2.eq i hi] at hu
   refine ⟨fun w hw2 => ?_, fun hn => ?_⟩
   ·obtain ⟨u, eu, ru'⟩ := ru.get hw2
    refine ⟨⟨us, u, SqL.of hu, eu⟩, fun x H'' hy => ?_⟩
    obtain ⟨rfl, hy⟩ := hy
    have := hy us (SqL.of hu)
    rw [eu] at this; cases this
    exact ⟨hH2, Step.refl, ru'⟩
   ·refine ⟨us, SqL.of hu, ?_⟩
    rw [<- ru.length]
    simpa using hn
  ·cases e
 | fl hq r =>
  cases e
  refine ⟨_, rfl, ⟨_, hq.sq⟩, k φ1 H1 _ hH1 s1 ?_⟩
  intro φ2 ph2 H2 hH2 s2 hc j
  have h2 := RelW.mono s2 (.fl hq r)
  cases h2 with
  | fl h2 r2 =>
   refine ⟨fun w hw2 => ?_, fun hn => ?_⟩
   ·obtain ⟨u, eu, ru'⟩ := r2.get hw2
    refine ⟨⟨_, u, h2.sq, eu⟩, fun x H'' hy => ?_⟩
    obtain ⟨rfl, hy⟩ := hy
    have := hy _ h2.sq
    rw [eu] at this; cases this
    exact ⟨hH2, Step.refl, ru'⟩
   ·refine ⟨_, h2.sq, ?_⟩
    rw [<- r2.length]
    simpa using hn
 | _ => cases e
theorem ii_tup {l : Expr} {m : EM} (hl : IE X l m) : II X tg l (iTupM m) := by
 refine PI.imp (pi_tup hl) fun σ H R h => ?_
 obtain ⟨φ, ph, ws, hH, hS, h⟩ := h
 refine tM.bind hH hS h fun w ph1 φ1 H1 v hH1 s1 r1 h => ?_
 obtain ⟨r, ph', e, k⟩ := run_lift h
 unfold tupI at e
 cases r1 with
 | tup hq r =>
  cases e
  refine ⟨_, rfl, ⟨_, SqT.of hq⟩, k φ1 H1 _ hH1 s1 ?_⟩
  intro φ2 ph2 H2 hH2 s2 hc j
  have h2 := SqT.of (K := X.K) (s2.tup _ _ hq)
  have r2 := r.mono s2
  refine ⟨fun w hw2 => ?_, fun hn => ?_⟩
  ·obtain ⟨u, eu, ru'⟩ := r2.get hw2
   refine ⟨⟨_, u, h2, eu⟩, fun x H'' hy => ?_⟩
   obtain ⟨rfl, hy⟩ := hy
   have := hy _ h2
   rw [eu] at this; cases this
   exact ⟨hH2, Step.refl, ru'⟩
  ·refine ⟨_, h2, ?_⟩
   rw [<- r2.length]
   simpa using hn
 | _ => cases e
def rngW (lo : Int) (n : Nat) : List W := (List.range n).map fun i : Nat => .int (lo + ((i : Nat) : Int))
def rng1 (xs : List W) : Po (List W × (PH -> Bool)) := fun ph => match xs with
 | [.int j] => if -(2 ^ 62) <= j /\ j < 2 ^ 62 then some ((rngW 0 j.toNat, fun _ => true), ph) else none
 | _ => none
def iR1 (m : AM) : IM := fun σ => bnd (m σ) fun xs => lift (rng1 xs)
theorem rng_it {K : PySem.W.Frag} {lo : Int} {n : Nat} {chk : PH -> Bool} {φ : Nat -> Addr} {k : Nat} {H : Hp} : ItI K (Itr lo n) (rngW lo n) chk φ k H := by
 intro φ2 ph2 H2 hH2 s2 hc j
 unfold rngW
 refine ⟨fun w hw2 => ?_, fun hn => ?_⟩
 ·rw [List.getElem?_map] at hw2
  have hj : j < n := by
   by_cases hj : j < n
   ·exact hj
   ·rw [List.getElem?_eq_none (by simpa using hj)] at hw2; cases hw2
  rw [List.getElem?_range hj] at hw2
  cases hw2
  refine ⟨hj, fun x H'' hy => ?_⟩
  obtain ⟨rfl, rfl⟩ := hy
  exact ⟨hH2, Step.refl, .int _⟩
 ·have : n <= j := by simpa using hn
  exact this
theorem ii_range1 {a : Expr} {m : AM} {p : Pos} (hg : Gl X "range") (hm : X.mg "range" = none) (ha : IA X [a] m) (hs : starEach [a] X.env = [(false, eval a X.env)] := by rfl) : II X tg (.Call (.Name "range" p) [a] [] pos) (iR1 m) := by
 refine PI.imp (pi_range1 hg hm ha hs) fun σ H R h => ?_
 obtain ⟨φ, ph, ws, hH, hS, h⟩ := h
 refine tA.bind hH hS h fun xs ph1 φ1 H1 vs hH1 s1 r1 h => ?_
 obtain ⟨r, ph', e, k⟩ := run_lift h
 unfold rng1 at e
 split at e
 ·split at e
  ·rename_i hc
   cases e
   cases r1 with
   | cons r r' => cases r; cases r'; exact ⟨_, rfl, hc.1, hc.2, k φ1 H1 _ hH1 s1 rng_it⟩
  ·cases e
 ·cases e
def whN (t : TM) (b : SM) : Nat -> SM
 | 0 => fun _ => nop
 | n + 1 => fun σ => bnd (t σ) fun c => if c = true then bnd (b σ) fun f => match f with
   | .nx σ' => whN t b n σ'
   | .ct σ' => whN t b n σ'
   | .bk σ' => pur (.nx σ')
   | .rt w => pur (.rt w)
  else pur (.nx σ)
def Out.isNo {α : Type} : Out α -> Bool
 | .no => true
 | _ => false
open Classical in
noncomputable def sWhile (t : TM) (b : SM) : SM := fun σ ph => if h : ∃ n, (whN t b n σ ph).isNo = false then whN t b h.choose σ ph else .no
theorem while_imp {D : Ends} {σ : L2.St} {H : Hp} (h : tS X (sWhile t b) D σ H) : tWhile (tT X t) (tS X b) D σ H := by
 obtain ⟨φ, ph, ws, hH, hS, h⟩ := h
 have ⟨n, h⟩ : ∃ n, (whN t b n ws ph).Run (fun f ph' => ∀ φ' H', RelH X.K φ' ph' H' -> Step X.K φ ph.length H φ' ph'.length H' -> EndF X D φ' ph' H' f) (XE X φ ph.length H) := by
  unfold sWhile at h
  split at h
  ·exact ⟨_, h⟩
  ·exact h.elim
 refine ⟨fun m σ2 H2 => ∃ φ2 ph2 ws2, RelH X.K φ2 ph2 H2 /\ RelS X.K φ2 ph2.length H2 ws2 σ2 /\
  (whN t b m ws2 ph2).Run (fun f ph' => ∀ φ' H', RelH X.K φ' ph' H' -> Step X.K φ2 ph2.length H2 φ' ph'.length H' -> EndF X D φ' ph' H' f) (XE X φ2 ph2.length H2), ⟨n, φ, ph, ws, hH, hS, h⟩, ?_⟩
 rintro m σ2 H2 ⟨φ2, ph2, ws2, hH2, hS2, h2⟩
 cases m with
 | zero => exact h2.elim
 | succ m =>
  refine tT.bind hH2 hS2 h2 fun c ph3 φ3 H3 hH3 s3 h3 => ?_
  cases c with
  | false => exact iteF (h3 φ3 H3 hH3 s3 σ2 (hS2.mono s3))
  | true =>
   have h3' : (bnd (b ws2) (fun f => match f with
    | .nx σ' => whN t b m σ'
    | .ct σ' => whN t b m σ'
    | .bk σ' => pur (.nx σ')
    | .rt w => pur (.rt w)) ph3).Run _ _ := h3
   rw [run_bnd] at h3'
   refine iteT ⟨fun σ' H' => ∃ φ' ph'' ws', RelH X.K φ' ph'' H' /\ RelS X.K φ' ph''.length H' ws' σ' /\
    (whN t b m ws' ph'').Run (fun f p' => ∀ φ4 H4, RelH X.K φ4 p' H4 -> Step X.K φ' ph''.length H' φ4 p'.length H4 -> EndF X D φ4 p' H4 f) (XE X φ' ph''.length H'), fun σ' H' q => ⟨m, Nat.lt_succ_self _, q⟩, ?_⟩
   refine ⟨φ3, ph3, ws2, hH3, hS2.mono s3, h3'.mono (fun f ph5 h5 φ5 H5 hH5 s5 => ?_) fun _ _ z => z⟩
   have s25 := s3.trans s5
   cases f with
   | nx ws5 => exact fun σ5 hS5 => ⟨φ5, ph5, ws5, hH5, hS5, h5.mono (fun f p' k φ' H' r' s' => k φ' H' r' (s25.trans s')) fun _ _ z => z.step s5⟩
   | ct ws5 => exact fun σ5 hS5 => ⟨φ5, ph5, ws5, hH5, hS5, h5.mono (fun f p' k φ' H' r' s' => k φ' H' r' (s25.trans s')) fun _ _ z => z.step s5⟩
   | bk ws5 => exact fun σ5 hS5 => h5 φ5 H5 hH5 s25 σ5 hS5
   | rt w => exact fun v hv => h5 φ5 H5 hH5 s25 v hv
theorem is_while (hp : PassesOwn (model X.prog X.w) X.A X.env X.xe) (hc : IT X c t) (hb : ISs X body b) : IS X (.While c body [] pos) (sWhile t b) :=
 PS.imp (ps_while hp hc hb) fun _ _ _ h => while_imp h
end
end IL
namespace IL
open PySem PySem.Spec PyProof.Rows L2
def aNil : AM := fun _ => pur []
def aCons (e : EM) (r : AM) : AM := fun σ => bnd (e σ) fun w => bnd (r σ) fun ws => pur (w :: ws)
def newT (ws : List W) : Po W := fun ph => if ws.length <= sizeLine then some (.tup ws, ph) else none
def newL (ws : List W) : Po W := fun ph => if ws.length <= sizeLine then some (.ref ph.length, ph ++ [.lst ws]) else none
def eTup (a : AM) : EM := fun σ => bnd (a σ) fun ws => lift (newT ws)
def eLst (a : AM) : EM := fun σ => bnd (a σ) fun ws => lift (newL ws)
section
variable {X : Cx} {e : Expr} {es : List Expr} {m : EM} {a : AM} {pos : Pos}
theorem ia_nil : IA X [] aNil := PA.imp pa_nil fun σ H Q h => by
 obtain ⟨φ, ph, ws, hH, hS, h⟩ := h
 exact h φ H [] hH Step.refl .nil
theorem ia_cons (he : IE X e m) (hr : IA X es a) (hs : starEach (e :: es) X.env = (false, eval e X.env) :: starEach es X.env := by rfl) : IA X (e :: es) (aCons m a) := PA.imp (pa_cons he hr hs) fun σ H Q h => by
 obtain ⟨φ, ph, ws, hH, hS, h⟩ := h
 refine tM.bind hH hS h fun w ph1 φ1 H1 v hH1 s1 r1 h => tA.bind hH1 (hS.mono s1) h fun ys ph2 φ2 H2 vs hH2 s2 r2 h => ?_
 exact h φ2 H2 _ hH2 (s1.trans s2) (.cons (r1.mono s2) r2)
theorem ie_tup {x1 : Nat} (h : IA X es a) : IE X (.Tuple es x1 pos) (eTup a) := PE.imp (pe_tup h) fun σ H Q h => by
 obtain ⟨φ, ph, ws, hH, hS, h⟩ := h
 refine tA.bind hH hS h fun xs ph1 φ1 H1 vs hH1 s1 r1 h => ?_
 obtain ⟨w, ph', e, k⟩ := run_lift h
 unfold newT at e
 split at e
 ·rename_i hz
  cases e
  refine ⟨by rw [<- r1.length]; exact hz, fun p hp => ?_⟩
  exact k φ1 _ _ (hH1.tup hp) (s1.trans (step_tup hp)) (.tup upd_same (r1.mono (step_tup hp)))
 ·cases e
theorem new_list {K : PySem.W.Frag} {φ : Nat -> Addr} {ph : PH} {H : Hp} {p : Addr} {ws : List W} {vs : List V} (hH : RelH K φ ph H) (r : RelWs K φ ph.length H ws vs) (hp : H p = none) :
  RelH K (ext φ ph.length p) (ph ++ [.lst ws]) (upd H p (.lst vs)) /\ Step K φ ph.length H (ext φ ph.length p) (ph ++ [PO.lst ws]).length (upd H p (.lst vs)) /\ RelW K (ext φ ph.length p) (ph ++ [PO.lst ws]).length (upd H p (.lst vs)) (.ref ph.length) (.ref p) := by
 have hl : (ph ++ [PO.lst ws]).length = ph.length + 1 := by simp
 rw [hl]
 have s := step_new (K := K) (φ := φ) (n := ph.length) (o := HO.lst vs) hp
 refine ⟨hH.new hp ⟨vs, upd_same, r.mono s⟩, s, ?_⟩
 have q : RelW K (ext φ ph.length p) (ph.length + 1) (upd H p (.lst vs)) (.ref ph.length) (.ref (ext φ ph.length p ph.length)) := .ref (Nat.lt_succ_self _)
 rw [ext_eq] at q
 exact q
theorem ie_lst (h : IA X es a) : IE X (.List es pos) (eLst a) := PE.imp (pe_lst h) fun σ H Q h => by
 obtain ⟨φ, ph, ws, hH, hS, h⟩ := h
 refine tA.bind hH hS h fun xs ph1 φ1 H1 vs hH1 s1 r1 h => ?_
 obtain ⟨w, ph', e, k⟩ := run_lift h
 unfold newL at e
 split at e
 ·rename_i hz
  cases e
  refine ⟨by rw [<- r1.length]; exact hz, fun p hp => ?_⟩
  obtain ⟨q1, q2, q3⟩ := new_list hH1 r1 hp
  exact k _ _ _ q1 (s1.trans q2) q3
 ·cases e
end
def eCall (f : List W -> Mo W) (a : AM) : EM := fun σ => bnd (a σ) f
def fEnd : Fl -> Mo W
 | .rt w => pur w
 | .nx _ => pur .non
 | _ => nop
def fM (body : SM) (n np : Nat) (args : List W) : Mo W := if args.length = np then bnd (body (args.map some ++ List.replicate (n - args.length) none)) fEnd else nop
theorem fM_len {body : SM} {n np : Nat} {xs : List W} {ph : PH} (h : xs.length ≠ np) : fM body n np xs ph = .no := by
 unfold fM
 rw [if_neg h]
 rfl
def CXW (P : Program) (w : World) : CXT := fun l H s E e s' => ∃ C H', Flew P w l H s C H' e s' /\ E (.ref C) none H'
def spM (K : PySem.W.Frag) (mg : Str -> Option Value) (np : Nat) (f : List W -> Mo W) : Sp := fun vs H Q E => vs.length = np /\ ∃ φ ph args, RelH K φ ph H /\ RelWs K φ ph.length H args vs /\ (f args ph).Run (fun w ph' =>
 ∀ φ' H' v, RelH K φ' ph' H' -> Step K φ ph.length H φ' ph'.length H' -> RelW K φ' ph'.length H' w v -> Q v H') (fun x ph' =>
 ∀ φ' H' C, RelH K φ' ph' H' -> Step K φ ph.length H φ' ph'.length H' -> mg x.cls = some (.ref C) -> x.fs = [] -> E (.ref C) none H')
section
variable {X : Cx} {k : Nat} {f : Addr} {fd : FuncData} {ps : List Str} {fm : List W -> Mo W} {x : Str} {p pos : Pos} {e : Expr} {es : List Expr} {a : AM}
theorem run_fnx {CX : CXT} {sp : Sp} {E : XK} {pins : List (Addr × Obj)} {σ : L2.St} {H : Hp} {s : Shared} {Q : VK} {us : List Value} {vs : List V} (F : FnOk X.prog X.w X.K X.mg X.base CX k f fd ps sp) (hr : Room k X.A) (hb : Binds X.K fd ps [])
  (I : Inv X pins σ H s) (r : Vals vs us) (h : sp vs H Q E) (hx : ∀ e s', CX X.stack H s E e s' -> X.xe e s') : wpAny (model X.prog X.w) X.A (call (.ref f) us) (EP X pins σ Q) X.xe s := by
 have hl : (us ++ []).length = ps.length := by rw [List.append_nil, <- r.length]; exact F.len _ _ _ _ h
 have hbb := hb s us I.kIn hl
 rw [List.append_nil] at hbb
 refine wpAny_call (codeAny_mono (F.run X.A X.stack s H ⟨us, []⟩ us vs Q E hr I.env0 hbb r h) fun r s' hq => ?_)
 cases r with
 | error e => exact hx e s' hq
 | ok fl =>
  cases fl with
  | ret u => exact I.after hq
  | _ => exact False.elim hq
theorem ie_call (F : FnOk X.prog X.w X.K X.mg X.base (CXW X.prog X.w) k f fd ps (spM X.K X.mg ps.length fm)) (hl : ∀ {xs : List W} {ph : PH}, xs.length ≠ ps.length -> fm xs ph = .no) (hr : Room k X.A) (hg : Gl X x) (hm : X.mg x = some (.ref f))
  (hk : PySem.W.keepIn X.K (.ref f) = true) (hb : Binds X.K fd ps []) (ha : IA X (e :: es) a) (hdb : (x == ("__debug__" : Str)) = false := by decide) (he : starEach (e :: es) X.env = (false, eval e X.env) :: starEach es X.env := by rfl) (hpl : (backTo pos (starEach es X.env)).any (·.1) = false := by rfl) :
  IE X (.Call (.Name x p) (e :: es) [] pos) (eCall fm a) := by
 intro pins s σ H Q I h
 obtain ⟨φ, ph, ws, hH, hS, h⟩ := h
 have hA : tA X a σ H (fun vs H1 => ∃ φ1 ph1 xs, RelH X.K φ1 ph1 H1 /\ RelWs X.K φ1 ph1.length H1 xs vs /\ (fm xs ph1).Run (fun w ph' => ∀ φ' H' v, RelH X.K φ' ph' H' -> Step X.K φ1 ph1.length H1 φ' ph'.length H' -> RelW X.K φ' ph'.length H' w v -> Q v H') (XE X φ1 ph1.length H1)) :=
  tA.bind hH hS h fun xs ph1 φ1 H1 vs hH1 s1 r1 h => ⟨φ1, ph1, xs, hH1, r1, h.mono (fun w ph' k φ' H' v r' s' q => k φ' H' v r' (s1.trans s') q) fun _ _ z => z⟩
 refine wpAny_Call_Name_kw (ld_glob I hg hm (PySem.W.callWith_K (h₀ := X.base) I.ok.mod.kin hk (thn (ha pos pins s σ H _ I hA) fun us s1 ⟨vs, H1, I1, r, q⟩ => ⟨I1.kIn, ?_⟩) he hpl) hdb)
 obtain ⟨φ1, ph1, xs, hH1, r1, h1⟩ := q
 have hlen : vs.length = ps.length := by
  rw [<- r1.length]
  by_cases z : xs.length = ps.length
  ·exact z
  ·rw [hl z] at h1; exact h1.elim
 refine run_fnx (E := fun c _ H' => ∃ x ph' φ', fm xs ph1 = .ex x ph' /\ RelH X.K φ' ph' H' /\ Step X.K φ1 ph1.length H1 φ' ph'.length H' /\ ∃ C, c = .ref C /\ X.mg x.cls = some (.ref C) /\ x.fs = []) F hr hb I1 r ⟨hlen, φ1, ph1, xs, hH1, r1, ?_⟩ fun e s' hx => ?_
 ·cases q : fm xs ph1 with
  | ok w ph' => rw [q] at h1; exact h1
  | ex x ph' => exact fun φ' H' C hr hs hm hf => ⟨x, ph', φ', rfl, hr, hs, C, rfl, hm, hf⟩
  | no => rw [q] at h1; exact h1
 ·obtain ⟨C, H', hfl, x, ph', φ', ef, hr', hs', C', ec, hm', hf'⟩ := hx
  cases ec
  rw [ef] at h1
  exact h1 φ' H' e s' hr' hs' ⟨C, hm', hf', .inr ⟨pins, σ, H1, s1, I1, hfl⟩⟩
end
section
variable {P : Program} {w : World} {K : PySem.W.Frag} {mg : Str -> Option Value} {base : Heap}
theorem hide_ok {H' : Hp} {h : Heap} {fr : List Addr} (hok : HOk P w H' h) (hf : ∀ b ∈ fr, H' b = none) : HOk P w H' (PySem.W.hideAll h fr) := fun a o e => by
 refine (hok a o e).stay (fun b u hb q => PySem.W.hideAll_get _ q fun hm => ?_) (fun _ q => q) fun _ _ q => q
 have := hf b hm
 rcases hb with z | z
 ·rw [z, e] at this; cases this
 ·rw [z] at this; cases this
theorem frs_cons {env : Env} {l : List Env} (hf : env.frame = some env.locals) : frs (env :: l) = env.locals :: frs l := by
 unfold frs
 rw [List.filterMap_cons, hf]
theorem leave_made {X : Cx} {C : Addr} {H' : Hp} {e : Value} {s' : Shared} {E : Value -> Shared -> Prop} (hst : X.stack = X.env :: X.outer) (hf : X.env.frame = some X.env.locals) (hex : X.ex = []) (hm : Made X C H' e s') :
  wpAny (model X.prog X.w) X.A (leaving X.env e) (fun _ s'' => Flew X.prog X.w X.outer X.H₀ X.s₀ C H' e s'') E s' := by
 obtain ⟨pins, σ, s, vs, h', a, rfl, rfl, I, hx⟩ := hm
 have sf := I.stkFree
 have hl := I.stack
 rw [hst] at sf hl
 have hin : ∀ env ∈ X.env :: X.outer, ∀ b, env.frame = some b -> b ∈ frs (X.env :: X.outer) := fun env he b hb => List.mem_filterMap.mpr ⟨env, he, hb⟩
 have noX : ∀ b : Addr, b ∉ X.ex := fun b z => by rw [hex] at z; exact nomatch z
 have out : ∀ b o, X.s₀.heap.get? b = some o -> b ∉ X.fs -> b ∉ frs (X.env :: X.outer) := fun b o e hb hm => by
  rw [frs_cons hf] at hm
  rcases List.mem_cons.mp hm with z | z
  ·exact absurd (Nat.lt_of_lt_of_le (Heap.lt_size e) I.ok.above) (by rw [z]; exact Nat.lt_irrefl _)
  ·exact hb z
 refine wpAny_leaves_madeW (base := PySem.W.hideAll s.heap (frs (X.env :: X.outer))) (h := s.heap) (by rw [I.ok.frames, hst]) hf (fun b o q => PySem.W.of_hideAll _ q) (PySem.W.funFrames_hide hl hin) hx fun h'' t f1 f2 f3 f4 => ?_
 refine ⟨a, .ref t, _, rfl, I.os, I.bare, f1, hide_ok I.hok sf, ⟨fun b o e n hb => PySem.W.hideAll_get _ (I.base.keep b o e n hb (noX b)) (out b o e hb), fun b o e n hb => ?_, fun b o e n => I.base.free b o e n (noX b), fun b o e hb => ?_, I.base.tups, I.base.frzs, I.base.tbls⟩⟩
 ·obtain ⟨sl, e1⟩ := I.base.slot b o e n hb (noX b)
  obtain ⟨_, o', ho, hd⟩ := I.ok.funs.mem hb
  rw [e] at ho
  cases ho
  obtain ⟨sl2, e2⟩ := f4 b _ (hx.keeps b _ e1) hd
  exact ⟨sl2, e2⟩
 ·obtain ⟨o', e1⟩ := I.base.there b o e (noX b)
  exact ⟨o', PySem.W.hideAll_get _ e1 (out b o e hb)⟩
theorem leave_flew {X : Cx} {C : Addr} {H' H0 : Hp} {e : Value} {s s' : Shared} {pins : List (Addr × Obj)} {σ : L2.St} {E : Value -> Shared -> Prop} (hst : X.stack = X.env :: X.outer) (hf : X.env.frame = some X.env.locals) (hex : X.ex = []) (I : Inv X pins σ H0 s)
  (hm : Flew X.prog X.w X.stack H0 s C H' e s') : wpAny (model X.prog X.w) X.A (leaving X.env e) (fun _ s'' => Flew X.prog X.w X.outer X.H₀ X.s₀ C H' e s'') E s' := by
 obtain ⟨a, a0, B, rfl, ho, hbare, hfl, hok, u⟩ := hm
 rw [hst] at hfl u
 have noX : ∀ b : Addr, b ∉ X.ex := fun b z => by rw [hex] at z; exact nomatch z
 have out : ∀ b o, X.s₀.heap.get? b = some o -> b ∉ X.fs -> b ∉ frs (X.env :: X.outer) := fun b o e hb hm => by
  rw [frs_cons hf] at hm
  rcases List.mem_cons.mp hm with z | z
  ·exact absurd (Nat.lt_of_lt_of_le (Heap.lt_size e) I.ok.above) (by rw [z]; exact Nat.lt_irrefl _)
  ·exact hb z
 refine wpAny_leaves_onW (by rw [I.ok.frames, hst]) hf hfl fun h'' f1 f4 => ?_
 refine ⟨a, a0, B, rfl, ho.trans I.os, hbare, f1, hok, ⟨fun b o e n hb => u.keep b o (I.base.keep b o e n hb (noX b)) (I.base.free b o e n (noX b)) (out b o e hb), fun b o e n hb => ?_, fun b o e n => ?_, fun b o e hb => ?_,
  fun b xs e => u.tups b xs (I.base.tups b xs e), fun b ob xs e => u.frzs b ob xs (I.base.frzs b ob xs e), fun b ps e => ?_⟩⟩
 ·obtain ⟨sl, e1⟩ := I.base.slot b o e n hb (noX b)
  obtain ⟨_, o', ho', hd⟩ := I.ok.funs.mem hb
  rw [e] at ho'
  cases ho'
  obtain ⟨sl2, e2⟩ := u.slot b _ e1 (I.base.free b o e n (noX b)) (by rw [frs_cons hf]; exact List.mem_cons_of_mem _ hb)
  obtain ⟨sl3, e3⟩ := f4 b _ e2 hd
  exact ⟨sl3, e3⟩
 ·obtain ⟨o', e1⟩ := I.base.there b o e (noX b)
  exact u.free b o' e1 (I.base.free b o e n (noX b))
 ·obtain ⟨o', e1⟩ := I.base.there b o e (noX b)
  exact u.there b o' e1 (out b o e hb)
 ·obtain ⟨m1, e1⟩ := I.base.tbls b ps e
  obtain ⟨m2, e2⟩ := u.tbls b _ e1
  exact ⟨m1 ++ m2, by rw [e2, Array.append_assoc]⟩
theorem fun_il {x qual : Str} {st : Stmt} {f : Addr} {fd : FuncData} {N ps : List Str} {k : Nat} {body : SM} (F : Fun K x qual st f fd) (S : FnScope N ps (defScope st))
  (hbody : ∀ (cdv : Value) (A : Around) (outer : List Env) (s : Shared) (H : Hp) (E : XK), Room k (A.deeper (envOfC qual (defScope st) s.heap.objs.size f cdv)) →
   ISs (cxOf (CXW P w) P w K mg base N qual (defScope st) f cdv A outer s H E) (defBody st) body) : FnOk P w K mg base (CXW P w) (k + 1) f fd ps (spM K mg ps.length (fM body N.length ps.length)) := by
 obtain ⟨oc, od, kV, doc, pm, an, cdv, ct, osl, rfl, lk, hcd⟩ := F.ex
 refine fn_of lk hcd S (fun vs H Q E h => h.1) fun A outer s H vs Q E hr h => ?_
 obtain ⟨hl, φ, ph, args, hH, ra, h⟩ := h
 refine ⟨_, hbody cdv A outer s H E hr, ?_⟩
 have hla : args.length = vs.length := ra.length
 unfold fM at h
 rw [if_pos (hla.trans hl), run_bnd, hla] at h
 refine ⟨φ, ph, _, hH, RelS.start (N.length - vs.length) ra, h.mono (fun fl ph' h φ1 H1 hH1 s1 => ?_) fun x ph' h φ' H' e s' r' st' th => ?_⟩
 ·cases fl with
  | rt w => exact fun v rv => h φ1 H1 v hH1 s1 rv
  | nx σ' => exact fun σ1 hS1 => h φ1 H1 .non hH1 s1 .non
  | bk σ' => exact h.elim
  | ct σ' => exact h.elim
 ·obtain ⟨C, hm, hfs, th⟩ := th
  have hE := h φ' H' C r' st' hm hfs
  have key : wpAny (model P w) (A.deeper (envOfC qual (defScope st) s.heap.objs.size f cdv)) (leaving (envOfC qual (defScope st) s.heap.objs.size f cdv) e) (fun _ s'' => Flew P w outer H s C H' e s'') (fun e' s'' => CXW P w outer H s E e' s'') s' := by
   rcases th with th | ⟨pins, σ, H0, s0, I0, th⟩
   ·exact leave_made (X := cxOf (CXW P w) P w K mg base N qual (defScope st) f cdv A outer s H E) rfl rfl rfl th
   ·exact leave_flew (X := cxOf (CXW P w) P w K mg base N qual (defScope st) f cdv A outer s H E) rfl rfl rfl I0 th
  exact wpAny_mono key (fun _ s'' q => ⟨C, H', q, hE⟩) fun _ _ q => q
end
theorem fl_ints {K : PySem.W.Frag} {φ : Nat -> Addr} {n : Nat} {H : Hp} : ∀ (ns : List Int), RelWs K φ n H (ns.map W.int) (ns.map V.int)
 | [] => .nil
 | n :: ns => .cons (.int n) (fl_ints ns)
theorem law_sp {K : PySem.W.Frag} {mg : Str -> Option Value} {H : Hp} {a : Addr} {ns : List Int} {fm : List W -> Mo W} (hO : Only H) (hS : SqL K H a (ns.map V.int)) (h : ∃ ph', fm [.fl (ns.map W.int)] [] = .ok (.bl true) ph') :
  spM K mg 1 fm [.ref a] H (fun v _ => v = .bl true) fun _ _ _ => False := by
 obtain ⟨ph', e⟩ := h
 have hf : FrzL K H a (ns.map V.int) := by
  rcases hS with h | h
  ·rcases h with h | h
   ·rcases hO a with z | ⟨o, xs, z⟩
    ·rw [z] at h; cases h
    ·rw [z] at h; cases h
   ·exact .inl h
  ·exact .inr h
 refine ⟨rfl, fun _ => 0, [], [.fl (ns.map W.int)], ⟨fun i o e => by simp at e, fun i j hi => absurd hi (by simp)⟩, .cons (.fl hf (fl_ints ns)) .nil, ?_⟩
 rw [e]
 intro φ' H' v _ _ r
 cases r
 rfl
end IL
namespace IL
open PySem PySem.Spec PyProof.Rows L2
theorem OpR.or {X : Cx} {f : Value -> Value -> Sem Value} {r r' : R2} (h : OpR X f r) (h' : OpR X f r') : OpR X f (fun x y H Q => r x y H Q \/ r' x y H Q) := by
 intro pins s σ H x y v u Q I rx ry q
 rcases q with q | q
 ·exact h pins s σ H x y v u Q I rx ry q
 ·exact h' pins s σ H x y v u Q I rx ry q
theorem OpI.inl {K : PySem.W.Frag} {r r' : R2} {f : W -> W -> Po W} (h : OpI K r f) : OpI K (fun x y H Q => r x y H Q \/ r' x y H Q) f := fun hH rx ry e k => .inl (h hH rx ry e k)
theorem OpI.inr {K : PySem.W.Frag} {r r' : R2} {f : W -> W -> Po W} (h : OpI K r' f) : OpI K (fun x y H Q => r x y H Q \/ r' x y H Q) f := fun hH rx ry e k => .inr (h hH rx ry e k)
def seqW (w : W) (ph : PH) : Option (List W) := match w with
 | .tup ws => some ws
 | .fl ws => some ws
 | .ref i => match ph[i]? with
  | some (.lst ws) => some ws
  | _ => none
 | _ => none
theorem seqW_rel {K : PySem.W.Frag} {φ : Nat -> Addr} {ph : PH} {H : Hp} {w : W} {v : V} {ws : List W} (hH : RelH K φ ph H) (r : RelW K φ ph.length H w v) (e : seqW w ph = some ws) :
  ∃ a vs, v = .ref a /\ (SqL K H a vs \/ SqT K H a vs) /\ RelWs K φ ph.length H ws vs := by
 unfold seqW at e
 cases r with
 | tup h r => cases e; exact ⟨_, _, rfl, .inr (SqT.of h), r⟩
 | fl h r => cases e; exact ⟨_, _, rfl, .inl h.sq, r⟩
 | ref hi =>
  simp only at e
  split at e
  ·rename_i ws' hw
   cases e
   obtain ⟨vs, hv, r⟩ := hH.hp _ _ hw
   exact ⟨_, vs, rfl, .inl (SqL.of hv), r⟩
  ·cases e
 | _ => cases e
theorem atI_rel {K : PySem.W.Frag} {φ : Nat -> Addr} {n : Nat} {H : Hp} {ws : List W} {vs : List V} {i : Int} {w : W} (r : RelWs K φ n H ws vs) (e : atI ws i = some w) : ∃ v, atI vs i = some v /\ RelW K φ n H w v := by
 unfold atI at e ⊢
 rw [r.length] at e
 cases q : ixN vs.length i with
 | none => rw [q] at e; cases e
 | some j =>
  rw [q] at e
  exact r.get e
def ixW : W -> W -> Po W := fun x y ph => match y with
 | .int i => match x with
  | .str z => if z.length <= sizeLine then (atI z.cps.toList i).map fun c => (.str ⟨#[c]⟩, ph) else none
  | x => (seqW x ph).bind fun ws => (atI ws i).map fun w => (w, ph)
 | _ => none
theorem ixW_i {K : PySem.W.Frag} : OpI K (rIx K) ixW := by
  intro φ ph H x y vx vy w ph' Q hH rx ry e k
  unfold ixW at e
  cases ry with
  | int i =>
    cases rx with
    | str z =>
      simp only at e
      split at e
      · rename_i hz
        cases q : atI z.cps.toList i with
        | none => rw [q] at e; cases e
        | some c =>
          rw [q] at e
          cases e
          exact .inr (.inr ⟨z, i, c, rfl, rfl, hz, q, k φ H _ hH Step.refl (.str _)⟩)
      · cases e
    | _ =>
      all_goals
        first
          | (cases e; done)
          | (rename_i h r
             simp only [seqW, Option.bind] at e
             cases q : atI _ i with
             | none => rw [q] at e; cases e
             | some c =>
               rw [q] at e
               cases e
               obtain ⟨v, ev, rv⟩ := atI_rel r q
               first
                 | exact .inr (.inl ⟨_, _, i, v, rfl, rfl, SqT.of h, ev, k φ H _ hH Step.refl rv⟩)
                 | exact .inl ⟨_, _, i, v, rfl, rfl, h.sq, ev, k φ H _ hH Step.refl rv⟩)
          | (rename_i hi
             simp only [seqW] at e
             split at e
             · rename_i ws' hw
               simp only [Option.bind] at e
               cases q : atI ws' i with
               | none => rw [q] at e; cases e
               | some c =>
                 rw [q] at e
                 cases e
                 obtain ⟨vs, hv, r⟩ := hH.hp _ _ hw
                 obtain ⟨v, ev, rv⟩ := atI_rel r q
                 exact .inl ⟨_, _, i, v, rfl, rfl, SqL.of hv, ev, k φ H _ hH Step.refl rv⟩
             · cases e)
  | _ => cases e
def CallI (K : PySem.W.Frag) (r : List V -> Hp -> VK -> Prop) (f : List W -> Po W) : Prop := ∀ {φ : Nat -> Addr} {ph : PH} {H : Hp} {xs : List W} {vs : List V} {w : W} {ph' : PH} {Q : VK}, RelH K φ ph H -> RelWs K φ ph.length H xs vs -> f xs ph = some (w, ph') →
 (∀ φ' H' v, RelH K φ' ph' H' -> Step K φ ph.length H φ' ph'.length H' -> RelW K φ' ph'.length H' w v -> Q v H') -> r vs H Q
def eCallB (f : List W -> Po W) (a : AM) : EM := fun σ => bnd (a σ) fun xs => lift (f xs)
section
variable {X : Cx} {x : Str} {p pos : Pos} {e : Expr} {es : List Expr} {t : AM} {id T : String} {r : List V -> Hp -> VK -> Prop} {f : List W -> Po W}
theorem call_imp (hi : CallI X.K r f) {σ : L2.St} {H : Hp} {Q : VK} (h : tM X (eCallB f t) σ H Q) : tCB r (tA X t) σ H Q := by
 obtain ⟨φ, ph, ws, hH, hS, h⟩ := h
 refine tA.bind hH hS h fun xs ph1 φ1 H1 vs hH1 s1 r1 h => ?_
 obtain ⟨w, ph', e, k⟩ := run_lift h
 exact hi hH1 r1 e fun φ2 H2 v hH2 s2 r2 => k φ2 H2 v hH2 (s1.trans s2) r2
theorem ie_callB (hc : CallR X (.builtin id) r) (hi : CallI X.K r f) (hg : Gl X x) (hm : X.mg x = none) (hv : bootBuiltins x = some (.builtin id)) (ha : IA X (e :: es) t) (hn : x ≠ "__name__" := by decide) (hdb : (x == ("__debug__" : Str)) = false := by decide)
  (he : starEach (e :: es) X.env = (false, eval e X.env) :: starEach es X.env := by rfl) (hpl : (backTo pos (starEach es X.env)).any (·.1) = false := by rfl) : IE X (.Call (.Name x p) (e :: es) [] pos) (eCallB f t) :=
 PE.imp (pe_callB hc hg hm hv ha hn hdb he hpl) fun _ _ _ h => call_imp hi h
theorem ie_callTy (hc : CallR X (.type T) r) (hi : CallI X.K r f) (hg : Gl X x) (hm : X.mg x = none) (hv : bootBuiltins x = some (.type T)) (ha : IA X (e :: es) t) (hn : x ≠ "__name__" := by decide) (hdb : (x == ("__debug__" : Str)) = false := by decide)
  (he : starEach (e :: es) X.env = (false, eval e X.env) :: starEach es X.env := by rfl) (hpl : (backTo pos (starEach es X.env)).any (·.1) = false := by rfl) : IE X (.Call (.Name x p) (e :: es) [] pos) (eCallB f t) :=
 PE.imp (pe_callTy hc hg hm hv ha hn hdb he hpl) fun _ _ _ h => call_imp hi h
end
theorem CallR.or {X : Cx} {f : Value} {r r' : List V -> Hp -> VK -> Prop} (h : CallR X f r) (h' : CallR X f r') : CallR X f (fun xs H Q => r xs H Q \/ r' xs H Q) := by
 intro pins s σ H xs us Q I rx q
 rcases q with q | q
 ·exact h pins s σ H xs us Q I rx q
 ·exact h' pins s σ H xs us Q I rx q
def lenW : List W -> Po W := fun xs ph => match xs with
 | [.str z] => if z.length <= sizeLine then some (.int z.length, ph) else none
 | [w] => (seqW w ph).map fun ws => (.int ws.length, ph)
 | _ => none
abbrev rLen (K : PySem.W.Frag) : List V -> Hp -> VK -> Prop := fun xs H Q => (∃ p ys, xs = [.ref p] /\ (SqL K H p ys \/ SqT K H p ys) /\ Q (.int ys.length) H) \/ (∃ z, xs = [.str z] /\ z.length <= sizeLine /\ Q (.int z.length) H)
theorem lenW_i {K : PySem.W.Frag} : CallI K (rLen K) lenW := by
 intro φ ph H xs vs w ph' Q hH r e k
 unfold lenW at e
 split at e
 ·split at e
  ·rename_i hz
   cases e
   cases r with
   | cons r r' => cases r; cases r'; exact .inr ⟨_, rfl, hz, k φ H _ hH Step.refl (.int _)⟩
  ·cases e
 ·rename_i w0 hne
  cases r with
  | cons r r' =>
   cases r'
   cases q : seqW w0 ph with
   | none => rw [q] at e; cases e
   | some ws =>
    rw [q] at e
    cases e
    obtain ⟨a, ys, rfl, hs, rs⟩ := seqW_rel hH r q
    exact .inl ⟨a, ys, rfl, hs, by rw [<- rs.length]; exact k φ H _ hH Step.refl (.int _)⟩
 ·cases e
theorem call_lenW {X : Cx} : CallR X (.builtin "len") (rLen X.K) := CallR.or call_len_seq call_len_str
def MtI (K : PySem.W.Frag) (T : String) (r : V -> List V -> Hp -> VK -> Prop) (f : W -> List W -> Po W) : Prop := ∀ {φ : Nat -> Addr} {ph : PH} {H : Hp} {x : W} {xs : List W} {vx : V} {vs : List V} {w : W} {ph' : PH} {Q : VK},
 RelH K φ ph H -> RelW K φ ph.length H x vx -> RelWs K φ ph.length H xs vs -> f x xs ph = some (w, ph') →
 (∀ φ' H' v, RelH K φ' ph' H' -> Step K φ ph.length H φ' ph'.length H' -> RelW K φ' ph'.length H' w v -> Q v H') -> r vx vs H Q
def TyI (K : PySem.W.Frag) (T : String) (ty : W -> PH -> Bool) : Prop := ∀ {φ : Nat -> Addr} {ph : PH} {H : Hp} {x : W} {vx : V}, RelH K φ ph H -> RelW K φ ph.length H x vx -> ty x ph = true -> tyV K T vx H
def chkT (b : PH -> Bool) : Po Unit := fun ph => if b ph = true then some ((), ph) else none
def eMeth (ty : W -> PH -> Bool) (f : W -> List W -> Po W) (o : EM) (a : AM) : EM := fun σ => bnd (o σ) fun x => bnd (lift (chkT (ty x))) fun _ => bnd (a σ) fun xs => lift (f x xs)
def isL (w : W) (ph : PH) : Bool := match w with
 | .ref i => match ph[i]? with
  | some (.lst _) => true
  | _ => false
 | .fl _ => true
 | _ => false
theorem isL_i {K : PySem.W.Frag} : TyI K "list" isL := by
 intro φ ph H x vx hH rx e
 unfold isL at e
 cases rx with
 | ref hi =>
  simp only at e
  split at e
  ·rename_i ws' hw
   obtain ⟨vs, hv, r⟩ := hH.hp _ _ hw
   exact .inl ⟨rfl, vs, SqL.of hv⟩
  ·cases e
 | fl h r => exact .inl ⟨rfl, _, h.sq⟩
 | _ => cases e
section
variable {X : Cx} {o e : Expr} {es : List Expr} {mo : EM} {t : AM} {name : Str} {apos cpos : Pos} {T id : String} {r : V -> List V -> Hp -> VK -> Prop} {ty : W -> PH -> Bool} {f : W -> List W -> Po W}
theorem meth_imp (ht : TyI X.K T ty) (hi : MtI X.K T r f) {σ : L2.St} {H : Hp} {Q : VK} (h : tM X (eMeth ty f mo t) σ H Q) : tBM X.K T r (tM X mo) (tA X t) σ H Q := by
 obtain ⟨φ, ph, ws, hH, hS, h⟩ := h
 refine tM.bind hH hS h fun x ph1 φ1 H1 v hH1 s1 r1 h => ?_
 rw [run_bnd] at h
 obtain ⟨_, ph2, e2, h⟩ := run_lift h
 unfold chkT at e2
 split at e2
 ·rename_i hy
  cases e2
  refine ⟨ht hH1 r1 hy, tA.bind hH1 (hS.mono s1) h fun xs ph2 φ2 H2 vs hH2 s2 r2 h => ?_⟩
  obtain ⟨w, ph', e, k⟩ := run_lift h
  exact hi hH2 (r1.mono s2) r2 e fun φ3 H3 v hH3 s3 r3 => k φ3 H3 v hH3 ((s1.trans s2).trans s3) r3
 ·cases e2
theorem ie_bm (pa : PlainAttrs T) (slot : Slot T name id) (hty : typeOf (.builtin id) = pure (.type "method_descriptor")) (hm : MtR X id r) (ht : TyI X.K T ty) (hi : MtI X.K T r f) (ho : IE X o mo) (ha : IA X (e :: es) t)
  (hbase : attributeBase o name X.env (eval o X.env) = eval o X.env := by rfl)
  (hfew : ((backTo cpos (starEach (e :: es) X.env)).all (fun x => !x.1) && (backToKw cpos (keywordEach [] X.env)).all (fun x => x.1.isSome)
   && decide ((e :: es).length + ([] : List Keyword).length + (if ([] : List Keyword).isEmpty then 0 else 1) < 30)) = true := by rfl)
  (hline : (apos.endLine == cpos.line) = true := by rfl) (hs : starEach (e :: es) X.env = (false, eval e X.env) :: starEach es X.env := by rfl) (hplain : (backTo cpos (starEach es X.env)).any (·.1) = false := by rfl) :
  IE X (.Call (.Attribute o name apos) (e :: es) [] cpos) (eMeth ty f mo t) :=
 PE.imp (pe_bm pa slot hty hm ho ha hbase hfew hline hs hplain) fun _ _ _ h => meth_imp ht hi h
end
theorem put_list {K : PySem.W.Frag} {φ : Nat -> Addr} {ph : PH} {H : Hp} {i : Nat} {ws ws0 : List W} {vs : List V} (hH : RelH K φ ph H) (hi : ph[i]? = some (.lst ws0)) (r : RelWs K φ ph.length H ws vs) :
  RelH K φ (ph.set i (.lst ws)) (upd H (φ i) (.lst vs)) /\ Step K φ ph.length H φ (ph.set i (.lst ws)).length (upd H (φ i) (.lst vs)) := by
 obtain ⟨y, ey, my⟩ := hH.mu hi rfl
 have s := step_set (K := K) (φ := φ) (n := ph.length) (y := HO.lst vs) ey my
 rw [List.length_set]
 exact ⟨hH.put hi rfl ⟨vs, upd_same, r.mono s⟩, s⟩
def appendW : W -> List W -> Po W := fun x xs ph => match x, xs with
 | .ref i, [y] => match ph[i]? with
  | some (.lst ws) => if ws.length < sizeLine then some (.non, ph.set i (.lst (ws ++ [y]))) else none
  | _ => none
 | _, _ => none
theorem appendW_i {K : PySem.W.Frag} : MtI K "list" rAppend appendW := by
 intro φ ph H x xs vx vs w ph' Q hH rx rs e k
 unfold appendW at e
 split at e
 ·rename_i i y
  split at e
  ·rename_i ws hw
   split at e
   ·rename_i hz
    cases e
    cases rx with
    | ref hi =>
     cases rs with
     | cons ry rr =>
      cases rr
      obtain ⟨us, hv, r⟩ := hH.hp _ _ hw
      obtain ⟨q1, q2⟩ := put_list hH hw (r.append (.cons ry .nil))
      exact ⟨_, us, _, rfl, rfl, hv, by rw [<- r.length]; exact hz, k φ _ _ q1 q2 .non⟩
   ·cases e
  ·cases e
 ·cases e
end IL
namespace IL
open PySem PySem.Spec PyProof.Rows L2
def negW : W -> Po W := fun x => match x with
 | .int i => ret (.int (-i))
 | _ => nono
theorem negW_i {K : PySem.W.Frag} : UnI K (rU fun i => .int (-i)) negW := by
 intro φ ph H x vx w ph' Q hH rx e k
 unfold negW at e
 split at e
 ·cases e; cases rx
  exact ⟨_, rfl, k φ H _ hH Step.refl (.int _)⟩
 ·cases e
def subW : W -> W -> Po W := iop fun i j => i - j
theorem subW_i {K : PySem.W.Frag} : OpI K (rI0 fun i j => .int (i - j)) subW := iop_i
def modW : W -> W -> Po W := iopC (fun _ j => decide (j ≠ 0)) fun i j => i.fmod j
theorem modW_i {K : PySem.W.Frag} : OpI K (rI (fun _ j => j ≠ 0) fun i j => .int (i.fmod j)) modW := iopC_i fun i j h => by simpa using h
def CDivB (i j : Int) : Prop := j ≠ 0 /\ j.natAbs < 2 ^ 64
theorem op_fdivB {X : Cx} : OpR X (binaryOp .FloorDiv) (rI CDivB fun i j => .int (i.fdiv j)) := opI fun i j _ _ _ _ _ hc q => floordiv_int hc.1 q (.inl (PyProof.noPylong_of_log2 (by
 have h0 : j.natAbs ≠ 0 := by have := hc.1; omega
 have := (Nat.log2_lt h0).mpr hc.2
 omega)))
def divW : W -> W -> Po W := iopC (fun _ j => decide (j ≠ 0) && decide (j.natAbs < 2 ^ 64)) fun i j => i.fdiv j
theorem divW_i {K : PySem.W.Frag} : OpI K (rI CDivB fun i j => .int (i.fdiv j)) divW := iopC_i fun i j h => by
 rw [Bool.and_eq_true] at h
 exact ⟨of_decide_eq_true h.1, of_decide_eq_true h.2⟩
def ltW : W -> W -> Po W := icmp fun i j => decide (i < j)
def leW : W -> W -> Po W := icmp fun i j => decide (i <= j)
def gtW : W -> W -> Po W := icmp fun i j => decide (j < i)
def geW : W -> W -> Po W := icmp fun i j => decide (j <= i)
def mulC (i j : Int) : Bool := (decide (-(2 ^ 64) < i) && decide (i < 2 ^ 64)) || (decide (-(2 ^ 64) < j) && decide (j < 2 ^ 64))
def mulW : W -> W -> Po W := fun x y => match x, y with
 | .int i, .int j => if mulC i j = true then ret (.int (i * j)) else nono
 | _, _ => nono
theorem mulW_i {K : PySem.W.Frag} : OpI K (rI CMul fun i j => .int (i * j)) mulW := by
 intro φ ph H x y vx vy w ph' Q hH rx ry e k
 unfold mulW at e
 split at e
 ·split at e
  ·rename_i hc
   cases e; cases rx; cases ry
   refine ⟨_, _, rfl, rfl, ?_, k φ H _ hH Step.refl (.int _)⟩
   unfold mulC at hc
   simp only [Bool.or_eq_true, Bool.and_eq_true, decide_eq_true_eq] at hc
   exact hc
  ·cases e
 ·cases e
def addW : W -> W -> Po W := fun x y ph => match x, y with
 | .int i, .int j => some (.int (i + j), ph)
 | .str i, .str j => if i.length + j.length <= sizeLine then some (.str (i ++ j), ph) else none
 | .ref a, .ref b => match ph[a]?, ph[b]? with
  | some (.lst xs), some (.lst ys) => if xs.length + ys.length <= sizeLine then some (.ref ph.length, ph ++ [.lst (xs ++ ys)]) else none
  | _, _ => none
 | .tup xs, .tup ys => if xs ≠ [] /\ xs.length + ys.length <= sizeLine then some (.tup (xs ++ ys), ph) else none
 | _, _ => none
abbrev rAddW (K : PySem.W.Frag) : R2 := fun x y H Q => ((rI0 fun i j => .int (i + j)) x y H Q \/ ∃ i j, x = .str i /\ y = .str j /\ i.length + j.length <= sizeLine /\ Q (.str (i ++ j)) H) \/ (rCat x y H Q \/ rCatT K x y H Q)
theorem op_addW {X : Cx} : OpR X (binaryOp .Add) (rAddW X.K) := OpR.or (OpR.or op_add op_add_str) (OpR.or op_cat op_catT)
theorem addW_i {K : PySem.W.Frag} : OpI K (rAddW K) addW := by
 intro φ ph H x y vx vy w ph' Q hH rx ry e k
 unfold addW at e
 split at e
 ·cases e; cases rx; cases ry
  exact .inl (.inl ⟨_, _, rfl, rfl, k φ H _ hH Step.refl (.int _)⟩)
 ·split at e
  ·rename_i hz
   cases e; cases rx; cases ry
   exact .inl (.inr ⟨_, _, rfl, rfl, hz, k φ H _ hH Step.refl (.str _)⟩)
  ·cases e
 ·split at e
  ·rename_i xs ys hx hy
   split at e
   ·rename_i hz
    cases e
    cases rx; cases ry
    obtain ⟨us, hu, ru⟩ := hH.hp _ _ hx
    obtain ⟨vs, hv, rv⟩ := hH.hp _ _ hy
    refine .inr (.inl ⟨_, _, us, vs, rfl, rfl, hu, hv, by rw [<- ru.length, <- rv.length]; exact hz, fun p hp => ?_⟩)
    obtain ⟨q1, q2, q3⟩ := new_list hH (ru.append rv) hp
    exact k _ _ _ q1 q2 q3
   ·cases e
  ·cases e
 ·split at e
  ·rename_i xs ys hz
   cases e
   cases rx with
   | tup hx rx =>
    cases ry with
    | tup hy ry =>
     rename_i a us b vs
     refine .inr (.inr ⟨a, b, us, vs, rfl, rfl, SqT.of hx, SqT.of hy, ?_, by rw [<- rx.length, <- ry.length]; exact hz.2, fun he => ?_, fun hn p hp => ?_⟩)
     ·rintro rfl
      cases rx
      exact hz.1 rfl
     ·subst he
      cases ry
      refine k φ H _ hH Step.refl ?_
      rw [List.append_nil]
      exact .tup hx rx
     ·exact k φ _ _ (hH.tup hp) (step_tup hp) (.tup upd_same ((rx.append ry).mono (step_tup hp)))
  ·cases e
 ·cases e
def isNW : W -> W -> Po W := fun x y => match y with
 | .non => ret (.bl (decide (x = .non)))
 | _ => nono
def notNW : W -> W -> Po W := fun x y => match y with
 | .non => ret (.bl (!decide (x = .non)))
 | _ => nono
def intW : List W -> Po W := fun xs => match xs with
 | [.int i] => ret (.int i)
 | [.bl b] => ret (.int (if b then 1 else 0))
 | _ => nono
theorem intW_i {K : PySem.W.Frag} : CallI K (fun xs H Q => (∃ i, xs = [.int i] /\ Q (.int i) H) \/ ∃ k, xs = [.bl k] /\ Q (.int (if k then 1 else 0)) H) intW := by
 intro φ ph H xs vs w ph' Q hH r e k
 unfold intW at e
 split at e
 ·cases e
  cases r with
  | cons r r' => cases r; cases r'; exact .inl ⟨_, rfl, k φ H _ hH Step.refl (.int _)⟩
 ·cases e
  cases r with
  | cons r r' => cases r; cases r'; exact .inr ⟨_, rfl, k φ H _ hH Step.refl (.int _)⟩
 ·cases e
def absW : List W -> Po W := fun xs => match xs with
 | [.int i] => ret (.int (if i < 0 then -i else i))
 | _ => nono
end IL
namespace IL
open PySem PySem.Spec PyProof.Rows L2
def kindW (w : W) (ph : PH) : Option String := match w with
 | .non => some "NoneType"
 | .bl _ => some "bool"
 | .int _ => some "int"
 | .str _ => some "str"
 | .tup _ => some "tuple"
 | .fl _ => some "list"
 | .ref i => match ph[i]? with
  | some (.lst _) => some "list"
  | some (.dct _) => some "dict"
  | _ => none
 | .exc .. => none
def subK (t c : String) : Bool := t == c || (t == "bool" && c == "int")
def isP (c : String) (w : W) : Po W := fun ph => match kindW w ph with
 | some t => some (.bl (subK t c), ph)
 | none => none
def eIs (c : String) (m : EM) : EM := fun σ => bnd (m σ) fun w => lift (isP c w)
end IL
namespace IL
open PySem PySem.Spec PyProof.Rows L2
def mapO {α β : Type} (f : α -> Option β) : List α -> Option (List β)
 | [] => some []
 | a :: as => match f a, mapO f as with
  | some b, some bs => some (b :: bs)
  | _, _ => none
def dat (ph : PH) : Nat -> W -> Option PyData
 | _, .non => some .none
 | _, .bl b => some (.bool b)
 | _, .int i => some (.int i)
 | _, .str x => if PyData.strOk x = true then some (.str x) else none
 | n + 1, .tup ws => (mapO (dat ph n) ws).map .tuple
 | n + 1, .fl ws => (mapO (dat ph n) ws).map .list
 | n + 1, .ref i => match ph[i]? with
  | some (.lst ws) => (mapO (dat ph n) ws).map .list
  | _ => none
 | _, _ => none
section
variable {X : Cx} {pins : List (Addr × Obj)} {σ : L2.St} {H : Hp} {s : Shared} {φ : Nat -> Addr} {ph : PH}
def RdD (s : Shared) (n : Nat) (u : Value) (d : PyData) : Prop := (∃ as, Reads s.heap u d as) /\ d.canLay0 = true /\ d.depth <= n
theorem dats_reads {n : Nat} (ih : ∀ {w : W} {v : V} {u : Value} {d : PyData}, RelW X.K φ ph.length H w v -> RelV v u -> dat ph n w = some d -> RdD s n u d) :
  ∀ {ws : List W} {vs : List V} {us : List Value} {ds : List PyData}, RelWs X.K φ ph.length H ws vs -> Vals vs us -> mapO (dat ph n) ws = some ds →
   (∃ as, ReadsAll s.heap us ds as) /\ PyData.canLayAll0 ds = true /\ PyData.depthAll ds <= n
 | _, _, _, _, .nil, .nil, e => by cases e; exact ⟨⟨_, .nil⟩, rfl, Nat.zero_le _⟩
 | w :: ws, _, _, ds, .cons h r, .cons hv rv, e => by
  unfold mapO at e
  split at e
  ·rename_i b bs e1 e2
   cases e
   obtain ⟨⟨as, r1⟩, c1, d1⟩ := ih h hv e1
   obtain ⟨⟨bs', r2⟩, c2, d2⟩ := dats_reads ih r rv e2
   refine ⟨⟨_, .cons r1 r2⟩, ?_, ?_⟩
   ·simp only [PyData.canLayAll0, c1, c2, Bool.and_self]
   ·simp only [PyData.depthAll]; omega
  ·cases e
theorem dat_reads (I : Inv X pins σ H s) (hH : RelH X.K φ ph H) : ∀ (n : Nat) {w : W} {v : V} {u : Value} {d : PyData}, RelW X.K φ ph.length H w v -> RelV v u -> dat ph n w = some d -> RdD s n u d := by
 have seqs : ∀ (n : Nat) (ih : ∀ {w : W} {v : V} {u : Value} {d : PyData}, RelW X.K φ ph.length H w v -> RelV v u -> dat ph n w = some d -> RdD s n u d) {ws : List W} {vs : List V} {d : PyData} {a : Addr},
   RelWs X.K φ ph.length H ws vs -> ((SqL X.K H a vs /\ (mapO (dat ph n) ws).map PyData.list = some d) \/ (SqT X.K H a vs /\ (mapO (dat ph n) ws).map PyData.tuple = some d)) -> RdD s (n + 1) (.ref a) d := by
  intro n ih ws vs d a r h
  rcases h with ⟨hq, e⟩ | ⟨hq, e⟩
  ·obtain ⟨its, rv, ⟨o, k, h1, h2, h3, h4⟩, _⟩ := I.list hq
   obtain ⟨ds, e1, e2⟩ := Option.map_eq_some_iff.mp e
   subst e2
   obtain ⟨⟨as, r1⟩, c1, d1⟩ := dats_reads ih r rv e1
   refine ⟨⟨_, .list h1 h2 h4 (by simpa using r1)⟩, by simpa only [PyData.canLay0] using c1, ?_⟩
   simp only [PyData.depth]; omega
  ·obtain ⟨its, rv, ⟨o, h1, h2, k, h4⟩, _⟩ := I.tuple hq
   obtain ⟨ds, e1, e2⟩ := Option.map_eq_some_iff.mp e
   subst e2
   obtain ⟨⟨as, r1⟩, c1, d1⟩ := dats_reads ih r rv e1
   refine ⟨⟨_, .tuple h1 h2 h4 (by simpa using r1)⟩, by simpa only [PyData.canLay0] using c1, ?_⟩
   simp only [PyData.depth]; omega
 intro n
 induction n with
 | zero =>
  intro w v u d r rv e
  cases r with
  | non => cases rv; cases e; exact ⟨⟨_, .none⟩, rfl, Nat.le_refl _⟩
  | bl b => cases rv; cases e; exact ⟨⟨_, .bool b⟩, rfl, Nat.le_refl _⟩
  | int i => obtain ⟨t, rfl⟩ := rv; cases e; exact ⟨⟨_, .int i t⟩, rfl, Nat.le_refl _⟩
  | str x =>
   obtain ⟨t, rfl⟩ := rv
   unfold dat at e
   split at e
   ·rename_i hx; cases e; exact ⟨⟨_, .str x t⟩, by simpa only [PyData.canLay0] using hx, Nat.le_refl _⟩
   ·cases e
  | _ => cases e
 | succ n ih =>
  intro w v u d r rv e
  cases r with
  | non => cases rv; cases e; exact ⟨⟨_, .none⟩, rfl, Nat.zero_le _⟩
  | bl b => cases rv; cases e; exact ⟨⟨_, .bool b⟩, rfl, Nat.zero_le _⟩
  | int i => obtain ⟨t, rfl⟩ := rv; cases e; exact ⟨⟨_, .int i t⟩, rfl, Nat.zero_le _⟩
  | str x =>
   obtain ⟨t, rfl⟩ := rv
   unfold dat at e
   split at e
   ·rename_i hx; cases e; exact ⟨⟨_, .str x t⟩, by simpa only [PyData.canLay0] using hx, Nat.zero_le _⟩
   ·cases e
  | tup h r => cases rv; exact seqs n ih r (.inr ⟨SqT.of h, e⟩)
  | exc => unfold dat at e; cases e
  | fl h r => cases rv; exact seqs n ih r (.inl ⟨h.sq, e⟩)
  | ref hi =>
   cases rv
   unfold dat at e
   split at e
   ·rename_i ws hw
    obtain ⟨vs, hv, r⟩ := hH.hp _ _ hw
    exact seqs n ih r (.inl ⟨SqL.of hv, e⟩)
   ·cases e
end
def eqD (ph : PH) (x y : W) : Option Bool := match dat ph 40 x, dat ph 40 y with
 | some a, some b => some (PyData.eqv a b)
 | _, _ => none
def eqW : W -> W -> Po W := fun x y ph => (eqD ph x y).map fun b => (.bl b, ph)
def neW : W -> W -> Po W := fun x y ph => (eqD ph x y).map fun b => (.bl (!b), ph)
def rD (K : PySem.W.Frag) (f : Bool -> Bool) : R2 := fun x y H Q => ∃ φ ph wx wy b, RelH K φ ph H /\ RelW K φ ph.length H wx x /\ RelW K φ ph.length H wy y /\ eqD ph wx wy = some b /\ Q (.bl (f b)) H
theorem eqD_some {ph : PH} {x y : W} {b : Bool} (h : eqD ph x y = some b) : ∃ dx dy, dat ph 40 x = some dx /\ dat ph 40 y = some dy /\ b = PyData.eqv dx dy := by
 unfold eqD at h
 split at h
 ·rename_i dx dy h1 h2
  cases h
  exact ⟨dx, dy, h1, h2, rfl⟩
 ·cases h
theorem op_eqW {X : Cx} (hu : X.A.units + 64 < cLine) : OpR X (compareOp .Eq) (rD X.K fun b => b) := by
 intro pins s σ H x y v u Q I rx ry h
 obtain ⟨φ, ph, wx, wy, b, hH, r1, r2, e, q⟩ := h
 obtain ⟨dx, dy, e1, e2, rfl⟩ := eqD_some e
 obtain ⟨⟨as, k1⟩, c1, l1⟩ := dat_reads I hH 40 r1 rx e1
 obtain ⟨⟨bs, k2⟩, c2, l2⟩ := dat_reads I hH 40 r2 ry e2
 exact SeqAt.compareEq_reads k1 k2 c1 c2 (by omega) ⟨.bl _, H, I, rfl, q⟩
theorem op_neW {X : Cx} (hu : X.A.units + 64 < cLine) : OpR X (compareOp .NotEq) (rD X.K fun b => !b) := by
 intro pins s σ H x y v u Q I rx ry h
 obtain ⟨φ, ph, wx, wy, b, hH, r1, r2, e, q⟩ := h
 obtain ⟨dx, dy, e1, e2, rfl⟩ := eqD_some e
 obtain ⟨⟨as, k1⟩, c1, l1⟩ := dat_reads I hH 40 r1 rx e1
 obtain ⟨⟨bs, k2⟩, c2, l2⟩ := dat_reads I hH 40 r2 ry e2
 exact SeqAt.compareNe_reads k1 k2 c1 c2 (by omega) ⟨.bl _, H, I, rfl, q⟩
theorem eqW_i {K : PySem.W.Frag} : OpI K (rD K fun b => b) eqW := by
 intro φ ph H x y vx vy w ph' Q hH rx ry e k
 obtain ⟨b, e1, e2⟩ := Option.map_eq_some_iff.mp e
 cases e2
 exact ⟨φ, ph, x, y, b, hH, rx, ry, e1, k φ H _ hH Step.refl (.bl _)⟩
theorem neW_i {K : PySem.W.Frag} : OpI K (rD K fun b => !b) neW := by
 intro φ ph H x y vx vy w ph' Q hH rx ry e k
 obtain ⟨b, e1, e2⟩ := Option.map_eq_some_iff.mp e
 cases e2
 exact ⟨φ, ph, x, y, b, hH, rx, ry, e1, k φ H _ hH Step.refl (.bl _)⟩
def inD (ph : PH) (x y : W) : Option Bool := match seqW y ph, dat ph 40 x with
 | some ws, some dx => (mapO (dat ph 40) ws).map fun ds => ds.any fun d => PyData.eqv d dx
 | _, _ => none
def inW : W -> W -> Po W := fun x y ph => (inD ph x y).map fun b => (.bl b, ph)
def ninW : W -> W -> Po W := fun x y ph => (inD ph x y).map fun b => (.bl (!b), ph)
def rInD (K : PySem.W.Frag) (f : Bool -> Bool) : R2 := fun x y H Q => ∃ φ ph wx wy b, RelH K φ ph H /\ RelW K φ ph.length H wx x /\ RelW K φ ph.length H wy y /\ inD ph wx wy = some b /\ Q (.bl (f b)) H
open Classical in
/-- the answer of one item, read off the heap -/
noncomputable def ansOf (s : Shared) (dx : PyData) (u : Value) : Bool := if h : ∃ d, RdD s 40 u d then PyData.eqv h.choose dx else false
theorem ansOf_eq {s : Shared} {dx d : PyData} {u : Value} (h : RdD s 40 u d) : ansOf s dx u = PyData.eqv d dx := by
 unfold ansOf
 have hx : ∃ d, RdD s 40 u d := ⟨d, h⟩
 rw [dif_pos hx]
 obtain ⟨⟨as, r⟩, c, _⟩ := h
 obtain ⟨⟨as', r'⟩, c', _⟩ := hx.choose_spec
 rw [SeqAt.Reads.unique _ _ _ _ _ c' r' r]
section
variable {X : Cx} {pins : List (Addr × Obj)} {σ : L2.St} {H : Hp} {s : Shared} {φ : Nat -> Addr} {ph : PH}
theorem ans_all (I : Inv X pins σ H s) (hH : RelH X.K φ ph H) {dx : PyData} : ∀ {ws : List W} {vs : List V} {us : List Value} {ds : List PyData}, RelWs X.K φ ph.length H ws vs -> Vals vs us -> mapO (dat ph 40) ws = some ds →
  (us.any (ansOf s dx) = ds.any fun d => PyData.eqv d dx) /\ ∀ u ∈ us, ∃ d, RdD s 40 u d
 | _, _, _, _, .nil, .nil, e => by cases e; exact ⟨rfl, fun _ h => nomatch h⟩
 | w :: ws, _, _, ds, .cons h r, .cons hv rv, e => by
  unfold mapO at e
  split at e
  ·rename_i b bs e1 e2
   cases e
   have q := dat_reads I hH 40 h hv e1
   obtain ⟨r1, r2⟩ := ans_all I hH (dx := dx) r rv e2
   refine ⟨by rw [List.any_cons, List.any_cons, r1, ansOf_eq q], fun u hu => ?_⟩
   rcases List.mem_cons.mp hu with rfl | hu
   ·exact ⟨_, q⟩
   ·exact r2 u hu
  ·cases e
theorem in_core (I : Inv X pins σ H s) (hH : RelH X.K φ ph H) {wx wy : W} {x y : V} {v u : Value} {b : Bool} (hu : X.A.units + 64 < cLine) (r1 : RelW X.K φ ph.length H wx x) (r2 : RelW X.K φ ph.length H wy y) (rx : RelV x v) (ry : RelV y u) (e : inD ph wx wy = some b) :
  ∃ (a : Addr) (its : List Value) (f : Value -> Bool), u = .ref a /\ (s.heap.IsList a its.toArray \/ s.heap.IsTuple a its.toArray) /\ (∀ z, z ∈ its.toArray -> SeqAt.EqAt X.A.in1 s z v (f z)) /\ its.toArray.any f = b := by
 unfold inD at e
 split at e
 ·rename_i ws dx hs hd
  obtain ⟨ds, e1, e2⟩ := Option.map_eq_some_iff.mp e
  obtain ⟨a, vs, rfl, hq, rs⟩ := seqW_rel hH r2 hs
  cases ry
  obtain ⟨⟨as, k1⟩, c1, l1⟩ := dat_reads I hH 40 r1 rx hd
  have fin : ∀ {its : List Value}, Vals vs its -> (∀ z, z ∈ its.toArray -> SeqAt.EqAt X.A.in1 s z v (ansOf s dx z)) /\ its.toArray.any (ansOf s dx) = b := fun {its} rv => by
   obtain ⟨q1, q2⟩ := ans_all I hH (dx := dx) rs rv e1
   refine ⟨fun z hz => ?_, by rw [show its.toArray.any (ansOf s dx) = its.any (ansOf s dx) by simp, q1, e2]⟩
   obtain ⟨d, hd⟩ := q2 z (by simpa using hz)
   rw [ansOf_eq hd]
   obtain ⟨⟨bs, k2⟩, c2, l2⟩ := hd
   intro prog w E Q hQ
   exact SeqAt.eqBoolOverData prog w _ E s z v d dx bs as Q k2 k1 c2 c1 (by show X.A.units + 1 + _ < _; omega) hQ
  rcases hq with hq | hq
  ·obtain ⟨its, rv, pl, _⟩ := I.list hq
   obtain ⟨f1, f2⟩ := fin rv
   exact ⟨a, its, _, rfl, .inl pl.isList, f1, f2⟩
  ·obtain ⟨its, rv, pl, _⟩ := I.tuple hq
   obtain ⟨f1, f2⟩ := fin rv
   exact ⟨a, its, _, rfl, .inr pl, f1, f2⟩
 ·cases e
end
theorem op_inW {X : Cx} (hu : X.A.units + 64 < cLine) : OpR X (compareOp .In) (rInD X.K fun b => b) := by
 intro pins s σ H x y v u Q I rx ry h
 obtain ⟨φ, ph, wx, wy, b, hH, r1, r2, e, q⟩ := h
 obtain ⟨a, its, f, rfl, hq, hf, hb⟩ := in_core I hH hu r1 r2 rx ry e
 subst hb
 rcases hq with hq | hq
 ·exact SeqAt.in_listAt f hq hf ⟨.bl _, H, I, rfl, q⟩
 ·exact SeqAt.in_tupleAt f hq hf ⟨.bl _, H, I, rfl, q⟩
theorem inW_i {K : PySem.W.Frag} : OpI K (rInD K fun b => b) inW := by
 intro φ ph H x y vx vy w ph' Q hH rx ry e k
 obtain ⟨b, e1, e2⟩ := Option.map_eq_some_iff.mp e
 cases e2
 exact ⟨φ, ph, x, y, b, hH, rx, ry, e1, k φ H _ hH Step.refl (.bl _)⟩
end IL
namespace IL
open PySem PySem.Spec PyProof.Rows L2
def closBody (env : Env) (x : Str × NameKind) (s : List (Str × Addr)) : Sem (ForInStep (List (Str × Addr))) :=
 if (x.2 == NameKind.free) = true then do
  let a <- cellOf env x.1
  pure (ForInStep.yield ((x.1, a) :: s))
 else pure (ForInStep.yield s)
theorem clos_aux (env : Env) : ∀ (names : List (Str × NameKind)) (acc : List (Str × Addr)), (∀ y ∈ names, y.2 = .free -> ∃ c, env.cells.lookup y.1 = some c) →
    ∃ cl, (forIn names acc (closBody env) : Sem (List (Str × Addr))) = pure cl /\ (∀ x c, cl.lookup x = some c -> acc.lookup x = some c \/ (env.cells.lookup x = some c /\ (x, NameKind.free) ∈ names)) /\
      (∀ x, ((∃ c, acc.lookup x = some c) \/ (x, NameKind.free) ∈ names) -> ∃ c, cl.lookup x = some c)
  | [], acc, _ => ⟨acc, rfl, fun x c h => .inl h, fun x h => h.elim id fun z => nomatch z⟩
  | (n, k) :: r, acc, h => by
    by_cases hk : k = .free
    · subst hk
      obtain ⟨c, hc⟩ := h (n, .free) List.mem_cons_self rfl
      obtain ⟨cl, e, h1, h2⟩ := clos_aux env r ((n, c) :: acc) fun y hy => h y (List.mem_cons_of_mem _ hy)
      refine ⟨cl, ?_, fun x c' hx => ?_, fun x hx => h2 x ?_⟩
      · rw [List.forIn_cons]
        have eb : closBody env (n, .free) acc = pure (ForInStep.yield ((n, c) :: acc)) := by
          unfold closBody
          rw [if_pos (by rfl)]
          unfold cellOf
          rw [hc]
          rfl
        rw [eb]
        exact e
      · rcases h1 x c' hx with z | z
        · rw [List.lookup_cons] at z
          cases q : x == n with
          | true =>
            rw [q] at z
            cases z
            have : x = n := eq_of_beq q
            subst this
            exact .inr ⟨hc, List.mem_cons_self⟩
          | false => rw [q] at z; exact .inl z
        · exact .inr ⟨z.1, List.mem_cons_of_mem _ z.2⟩
      · rcases hx with ⟨c', hx⟩ | hx
        · rw [List.lookup_cons]
          cases q : x == n with
          | true => exact .inl ⟨c, rfl⟩
          | false => exact .inl ⟨c', hx⟩
        · rcases List.mem_cons.mp hx with z | z
          · cases z
            exact .inl ⟨c, by rw [List.lookup_cons]; simp⟩
          · exact .inr z
    · obtain ⟨cl, e, h1, h2⟩ := clos_aux env r acc fun y hy => h y (List.mem_cons_of_mem _ hy)
      refine ⟨cl, ?_, fun x c' hx => ?_, fun x hx => h2 x ?_⟩
      · rw [List.forIn_cons]
        have eb : closBody env (n, k) acc = pure (ForInStep.yield acc) := by
          unfold closBody
          rw [if_neg (by simpa using hk)]
        rw [eb]
        exact e
      · rcases h1 x c' hx with z | z
        · exact .inl z
        · exact .inr ⟨z.1, List.mem_cons_of_mem _ z.2⟩
      · rcases hx with hx | hx
        · exact .inl hx
        · rcases List.mem_cons.mp hx with z | z
          · cases z; exact absurd rfl hk
          · exact .inr z
theorem clos_ok {scope : Scope} {env : Env} (h : ∀ y ∈ scope.names, y.2 = .free -> ∃ c, env.cells.lookup y.1 = some c) :
  ∃ cl, closureFor scope env = pure cl /\ (∀ x c, cl.lookup x = some c -> env.cells.lookup x = some c /\ (x, NameKind.free) ∈ scope.names) /\ (∀ x, (x, NameKind.free) ∈ scope.names -> ∃ c, cl.lookup x = some c) := by
 obtain ⟨cl, e, h1, h2⟩ := clos_aux env scope.names [] h
 refine ⟨cl, ?_, fun x c hx => ?_, fun x hx => h2 x (.inr hx)⟩
 ·unfold closureFor
  show (forIn scope.names [] (closBody env) >>= fun s => pure s) = pure cl
  rw [e]
  rfl
 ·rcases h1 x c hx with z | z
  ·cases z
  ·exact z
def blk (X : Cx) (N : List Str) (scope : Scope) (cl : List (Str × Addr)) (C : Addr) (s₀ : Shared) (H₀ : Hp) (ex : List Addr) : Cx :=
 { X with N := N, s₀ := s₀, H₀ := H₀, env := compEnvC scope cl C X.env, outer := X.stack, stack := X.stack, ex := ex, fn := fun _ => false, pn := [], xe := fun _ _ => False }
def capV (cap : List (Option Nat)) (σ : L2.St) : L2.St := cap.map fun o => o.bind fun i => (σ[i]?).join
def tComp (wi : TI) (cap : List (Option Nat)) (g : TG) (tc : TT) (te : TE) : TE := fun σ H Q => wi σ H fun J H1 => ∀ D, H1 D = none -> ∃ W : Nat -> Nat -> L2.St -> Hp -> Prop, (∃ m, W 0 m (capV cap σ) (upd H1 D (.lst []))) /\
 ∀ i m σ2 H2, W i m σ2 H2 -> (J.stop i H2 /\ Q (.ref D) H2) \/ (J.go i H2 /\ ∀ x H3, J.yld i H2 x H3 -> g x σ2 H3 fun σ4 H4 => tc σ4 H4 fun b H5 =>
  if b = true then te σ4 H5 fun v H6 => ∃ xs, H6 D = some (.lst xs) /\ xs.length < sizeLine /\ ∃ m', m' < m /\ W (i + 1) m' σ4 (upd H6 D (.lst (xs ++ [v]))) else ∃ m', m' < m /\ W (i + 1) m' σ4 H5)
def PF (X : Cx) (ifs : List Expr) (t : TT) : Prop :=
 ∀ (pins : List (Addr × Obj)) (s : Shared) (σ : L2.St) (H : Hp) (Q : Bool -> Hp -> Prop), Inv X pins σ H s -> t σ H Q →
  wpAny (model X.prog X.w) X.A (forIn ifs true fun c r => if r = true then do let ok <- isTrue c X.env (eval c X.env); pure (ForInStep.yield ok) else pure (ForInStep.yield r)) (TP X pins σ Q) X.xe s
theorem pf_nil {X : Cx} : PF X [] (fun _ H Q => Q true H) := fun pins s σ H Q I h => wpAny_tests_nil ⟨H, I, h⟩
theorem pf_one {X : Cx} {c : Expr} {t : TT} (h : PT X c t) : PF X [c] t := fun pins s σ H Q I q => wpAny_tests_one (h pins s σ H Q I q)
end IL
namespace IL
open PySem PySem.Spec PyProof.Rows L2
theorem lookup_relabel_free {env : Env} {x : Str} : ∀ {names : List (Str × NameKind)}, names.lookup x = some .free →
    (names.map fun (n, k) => if (k == NameKind.free && env.scope.kind == .function && env.kindOf n == some .cell) then (n, NameKind.cell) else (n, k)).lookup x = some .cell \/
    (names.map fun (n, k) => if (k == NameKind.free && env.scope.kind == .function && env.kindOf n == some .cell) then (n, NameKind.cell) else (n, k)).lookup x = some .free
  | [], h => by cases h
  | (n, k) :: r, h => by
    rw [List.map_cons]
    cases q : x == n with
    | true =>
      rw [List.lookup_cons, q] at h
      cases h
      by_cases hc : (NameKind.free == NameKind.free && env.scope.kind == .function && env.kindOf n == some .cell) = true
      · left
        show List.lookup x ((if (NameKind.free == NameKind.free && env.scope.kind == .function && env.kindOf n == some .cell) = true then (n, NameKind.cell) else (n, NameKind.free)) :: _) = _
        rw [if_pos hc, List.lookup_cons, q]
      · right
        show List.lookup x ((if (NameKind.free == NameKind.free && env.scope.kind == .function && env.kindOf n == some .cell) = true then (n, NameKind.cell) else (n, NameKind.free)) :: _) = _
        rw [if_neg hc, List.lookup_cons, q]
    | false =>
      rw [List.lookup_cons, q] at h
      have ih := lookup_relabel_free (env := env) h
      show List.lookup x ((if (k == NameKind.free && env.scope.kind == .function && env.kindOf n == some .cell) = true then (n, NameKind.cell) else (n, k)) :: _) = _ \/ List.lookup x ((if (k == NameKind.free && env.scope.kind == .function && env.kindOf n == some .cell) = true then (n, NameKind.cell) else (n, k)) :: _) = _
      by_cases hc : (k == NameKind.free && env.scope.kind == .function && env.kindOf n == some .cell) = true
      · rw [if_pos hc, List.lookup_cons, q]; exact ih
      · rw [if_neg hc, List.lookup_cons, q]; exact ih
theorem relabel_back {env : Env} {x : Str} {k' : NameKind} (hk' : k' = .cell \/ k' = .free) : ∀ {names : List (Str × NameKind)}, (∀ y ∈ names, y.2 ≠ .cell) →
    (names.map fun (n, k) => if (k == NameKind.free && env.scope.kind == .function && env.kindOf n == some .cell) then (n, NameKind.cell) else (n, k)).lookup x = some k' -> names.lookup x = some .free
  | [], _, h => by cases h
  | (n, k) :: r, hc, h => by
    have h' : List.lookup x ((if (k == NameKind.free && env.scope.kind == .function && env.kindOf n == some .cell) = true then (n, NameKind.cell) else (n, k)) :: r.map _) = some k' := h
    rw [List.lookup_cons]
    cases q : x == n with
    | true =>
      by_cases hb : (k == NameKind.free && env.scope.kind == .function && env.kindOf n == some .cell) = true
      · simp only [Bool.and_eq_true] at hb
        have : k = .free := by simpa using hb.1.1
        rw [this]
      · rw [if_neg hb, List.lookup_cons, q] at h'
        cases h'
        rcases hk' with z | z
        · exact absurd z (hc (n, k') List.mem_cons_self)
        · rw [z]
    | false =>
      refine relabel_back (env := env) hk' (names := r) (fun y hy => hc y (List.mem_cons_of_mem _ hy)) ?_
      by_cases hb : (k == NameKind.free && env.scope.kind == .function && env.kindOf n == some .cell) = true
      · rw [if_pos hb, List.lookup_cons, q] at h'; exact h'
      · rw [if_neg hb, List.lookup_cons, q] at h'; exact h'
theorem mem_lookup {x : Str} {k : NameKind} : ∀ {names : List (Str × NameKind)}, names.lookup x = some k -> (x, k) ∈ names
 | [], h => by cases h
 | (n, j) :: r, h => by
  rw [List.lookup_cons] at h
  cases q : x == n with
  | true => rw [q] at h; cases h; rw [eq_of_beq q]; exact List.mem_cons_self
  | false => rw [q] at h; exact List.mem_cons_of_mem _ (mem_lookup h)
structure Cap (X : Cx) (N : List Str) (cap : List (Option Nat)) (scope : Scope) : Prop where
 len : cap.length = N.length
 at_ : ∀ (i j : Nat) (x : Str), N[i]? = some x -> cap[i]? = some (some j) -> X.N[j]? = some x /\ scope.names.lookup x = some .free /\ (X.env.kindOf x = some .cell \/ X.env.kindOf x = some .free)
 free : ∀ y ∈ scope.names, y.2 = .free -> X.env.kindOf y.1 = some .cell \/ X.env.kindOf y.1 = some .free
 cell : ∀ y ∈ scope.names, y.2 ≠ .cell
 kind : scope.kind = .function
 loc : ∀ y ∈ scope.names, y.2 = .local -> scope.names.lookup y.1 = some .local
section
variable {X : Cx} {pins : List (Addr × Obj)} {σ : L2.St} {H : Hp} {s : Shared} {N : List Str} {cap : List (Option Nat)} {scope : Scope} {cl : List (Str × Addr)} {fp : List Addr}
theorem blk_inv (I : Inv X pins σ H s) (c : Cap X N cap scope) (hcl : ∀ x c, cl.lookup x = some c -> X.env.cells.lookup x = some c /\ (x, NameKind.free) ∈ scope.names) (hcl2 : ∀ x, (x, NameKind.free) ∈ scope.names -> ∃ c, cl.lookup x = some c)
    (hf : ∀ b ∈ fp, b < s.heap.objs.size /\ b ≠ X.env.locals /\ b ∉ X.fs /\ (b ∈ X.ex \/ X.s₀.heap.objs.size <= b) /\ (∀ x c, X.env.cells.lookup x = some c -> c ≠ b)) {h₁ : Heap} {m : Str -> Option Value} {tk : Nat}
    (hns : h₁.Ns s.heap.objs.size m) (hk : ∀ b o, s.heap.get? b = some o -> h₁.get? b = some o) : Inv (blk X N scope cl s.heap.objs.size s H fp) [] (capV cap σ) H { s with heap := h₁, toks := tk } := by
  have memF : ∀ {x : Str}, ((blk X N scope cl s.heap.objs.size s H fp).env.kindOf x = some .cell \/ (blk X N scope cl s.heap.objs.size s H fp).env.kindOf x = some .free) -> scope.names.lookup x = some .free := fun {x} hx => by
    rcases hx with hx | hx
    · exact relabel_back (env := X.env) (.inl rfl) c.cell hx
    · exact relabel_back (env := X.env) (.inr rfl) c.cell hx
  have ok : (blk X N scope cl s.heap.objs.size s H fp).Ok :=
    { mod := I.ok.mod
      kind := c.kind
      glob := I.ok.glob
      blt := I.ok.blt
      above := Nat.le_refl _
      inj := fun x y d h1 h2 => I.ok.inj x y d (hcl x d h1).1 (hcl y d h2).1
      has := fun x hx => hcl2 x (mem_lookup (memF hx))
      cab := fun x d hz => nomatch hz
      hd := I.ok.hd
      frames := I.ok.frames
      stk := .inl rfl
      exf := fun b hb => ⟨Nat.ne_of_lt (hf b hb).1, fun x d hd => (hf b hb).2.2.2.2 x d (hcl x d hd).1⟩
      bs := I.bs
      bsz := Nat.le_trans I.ok.bsz I.sz
      noex := fun b o e hb => by
        rcases (hf b hb).2.2.2.1 with z | z
        · exact I.ok.noex b o e z
        · exact absurd (Nat.lt_of_lt_of_le (Heap.lt_size (I.ok.bs b o e).1) z) (Nat.lt_irrefl _)
      exfs := fun b hb hz => by
        rcases List.mem_cons.mp (I.stkSub b hz) with e | e
        · exact (hf b hb).2.1 e
        · exact (hf b hb).2.2.1 e
      funs := I.stack
      frf := I.stkFree }
  refine ⟨ok, rfl, I.bare, Un.kept hk, ⟨m, hns, fun i x v e1 e2 _ => ?_⟩, fun x d e => ?_, I.hok.fresh (Nat.le_refl _), fun x d e => I.freeC x d (hcl x d e).1, (fun p hp => nomatch hp), I.hok.kept hk, ?_⟩
  · unfold capV at e2
    rw [List.getElem?_map] at e2
    cases q : cap[i]? with
    | none => rw [q] at e2; cases e2
    | some o =>
      rw [q] at e2
      cases o with
      | none => cases e2
      | some j =>
        have e3 : (σ[j]?).join = some v := Option.some.inj e2
        have e4 : σ[j]? = some (some v) := by
          cases z : σ[j]? with
          | none => rw [z] at e3; cases e3
          | some w => rw [z] at e3; exact congrArg some e3
        obtain ⟨h1, h2, h3⟩ := c.at_ i j x e1 q
        obtain ⟨m0, _, hl⟩ := I.loc
        obtain ⟨u, ru, lk⟩ := hl j x v h1 e4 (.inr h3)
        refine ⟨u, ru, ?_⟩
        rcases lk with ⟨z, _⟩ | ⟨_, d, hd, hcell⟩
        · rcases h3 with z' | z' <;> (rw [z] at z'; cases z')
        · obtain ⟨d', hd'⟩ := hcl2 x (mem_lookup h2)
          have e5 := (hcl x d' hd').1
          rw [hd] at e5
          cases e5
          obtain ⟨ob, ho, hdta⟩ := hcell
          exact .inr ⟨lookup_relabel_free (env := X.env) h2, d, hd', ob, hk _ _ ho, hdta⟩
  · obtain ⟨v, ob, ho, hdta⟩ := I.cell x d (hcl x d e).1
    exact ⟨v, ob, hk _ _ ho, hdta⟩
  · show (capV cap σ).length = N.length
    unfold capV
    rw [List.length_map]
    exact c.len
theorem Un.but {fs ex : List Addr} {H H' : Hp} {h h1 h2 : Heap} {C : Addr} (u : Un fs ex H H' h h1) (sb : ∀ b, b ≠ C -> h2.get? b = h1.get? b) (hC : h.get? C = none) : Un fs ex H H' h h2 := by
 have ne : ∀ b o, h.get? b = some o -> b ≠ C := fun b o e z => by rw [z, hC] at e; cases e
 exact ⟨fun b o e n h1 h2 => (sb b (ne b o e)).trans (u.keep b o e n h1 h2), fun b o e n h1 h2 => by
  obtain ⟨sl, q⟩ := u.slot b o e n h1 h2
  exact ⟨sl, (sb b (ne b o e)).trans q⟩, u.free, fun b o e h1 => by
  obtain ⟨o', q⟩ := u.there b o e h1
  exact ⟨o', (sb b (ne b o e)).trans q⟩, u.tups, u.frzs, u.tbls⟩
theorem blk_out {σ' : L2.St} {H' : Hp} {s' : Shared} {h' : Heap} (I : Inv X pins σ H s) (J : Inv (blk X N scope cl s.heap.objs.size s H fp) [] σ' H' s') (sb : Heap.SameBut s.heap.objs.size s'.heap h')
  (hf : ∀ b ∈ fp, FpOk X pins H b) : Inv X pins σ H' { s' with heap := h' } := by
 have hC : H' s.heap.objs.size = none := J.free
 refine I.call' (ch := fp) J.os (Un.but J.base sb.2 (Heap.get?_none_of_le (Nat.le_refl _))) (fun a o e => ?_) J.bare fun b hb => ⟨(hf b hb).2.2.2.1, (hf b hb).2.1, (hf b hb).2.2.2.2.1, (hf b hb).2.2.2.2.2⟩
 refine (J.hok a o e).stay (fun b u hb q => (sb.2 b ?_).trans q) (fun _ q => q) fun _ _ q => q
 rintro rfl
 rcases hb with z | z
 ·rw [<- z, hC] at e; cases e
 ·rw [hC] at z; cases z
end
end IL
namespace IL
open PySem PySem.Spec PyProof.Rows L2
section
variable {prog : Program} {w : World} {A : Around} {R : Result -> Shared -> Prop} {s : Shared}
theorem comp_loop {elt target iter : Expr} {ifs : List Expr} {scope : Scope} {pos : Pos} {it acc : Value} {env : Env} (J : Nat -> Shared -> Prop)
  (turn : ∀ k s, J k s -> wpAny (model prog w) A (pyNext it) (fun r s1 => match r with
   | none => R (.ok .next) s1
   | some v => wpAny (model prog w) A (letOwnedTupleGo target it v) (fun _ s2 => wpAny (model prog w) A (assign target env v) (fun _ s3 =>
     wpAny (model prog w) A (forIn ifs true fun c r => if r = true then do let ok <- isTrue c env (eval c env); pure (ForInStep.yield ok) else pure (ForInStep.yield r)) (fun ok s4 =>
      if ok = true then wpAny (model prog w) A (eval elt env) (fun x s5 => wpAny (model prog w) A (call (.builtin "list.append") [acc, x]) (fun _ s6 => ∃ j, j < k /\ J j s6) (fun _ _ => False) s5) (fun _ _ => False) s4
      else ∃ j, j < k /\ J j s4) (fun _ _ => False) s3) (fun _ _ => False) s2) (fun _ _ => False) s1) (fun _ _ => False) s)
  (k : Nat) (h : J k s) : codeAny (model prog w) A (.compLoop (.ListComp elt [⟨target, iter, ifs, 0⟩] scope pos) 0 it acc env) R s := by
 have no : ∀ {E : Value -> Shared -> Prop} (e : Value) (s : Shared), False -> E e s := fun _ _ z => z.elim
 refine codeAny_loop (c := .compLoop (.ListComp elt [⟨target, iter, ifs, 0⟩] scope pos) 0 it acc env) rfl J (fun k s hJ => ?_) k h
 show wpAny (model prog w) A ((compTurn (.ListComp elt [⟨target, iter, ifs, 0⟩] scope pos) 0 it acc env).onRaise fun x => do noteFrame x env; theTreesLotGoes x) _ _ s
 refine wpAny_noted ?_
 rw [compTurn_list]
 refine wpAny_bind (wpAny_standAt (wpAny_bind (wpAny_mono (turn k s hJ) (fun r s1 h1 => ?_) no)))
 cases r with
 | none => exact wpAny_pure h1
 | some v =>
  refine wpAny_bind (wpAny_mono h1 (fun _ s2 h2 => wpAny_bind (wpAny_mono h2 (fun _ s3 h3 => wpAny_bind (wpAny_mono h3 (fun ok s4 h4 => ?_) no)) no)) no)
  cases ok with
  | false => exact wpAny_pure ⟨rfl, h4⟩
  | true => exact wpAny_bind (wpAny_bind (wpAny_mono h4 (fun x s5 h5 => wpAny_bind (wpAny_mono h5 (fun _ s6 h6 => wpAny_pure (wpAny_pure ⟨rfl, h6⟩)) no)) no))
end
section
variable {X : Cx} {tg iter elt : Expr} {ifs : List Expr} {scope : Scope} {pos : Pos} {N : List Str} {cap : List (Option Nat)} {wi : TI} {g : TG} {tc : TT} {te : TE}
theorem comp_core {use : Option (Value -> Sem Unit)} {Q' : Value -> Shared -> Prop} {pins : List (Addr × Obj)} {s : Shared} {σ : L2.St} {H : Hp} {Q : VK} {p0 : Pos} (hc : X.calm = true) (c : Cap X N cap scope) (hi : PI X tg iter wi) (hg : ∀ cl C s₀ H₀ ex, PG (blk X N scope cl C s₀ H₀ ex) tg g) (ht : ∀ cl C s₀ H₀ ex, PF (blk X N scope cl C s₀ H₀ ex) ifs tc)
  (he : ∀ cl C s₀ H₀ ex, PE (blk X N scope cl C s₀ H₀ ex) elt te) (hs : ∀ x, foldedSetIterable iter X.env x = pure x) (I : Inv X pins σ H s) (h : tComp wi cap g tc te σ H Q)
  (fin : ∀ (s3 s6 : Shared) (H3 H6 : Hp) (fp : List Addr) (σ6 : L2.St) (cl : List (Str × Addr)) (D : Addr), Inv X pins σ H3 s3 -> (∀ b ∈ fp, FpOk X pins H3 b) -> Inv (blk X N scope cl s3.heap.objs.size s3 H3 fp) [] σ6 H6 s6 -> Q (.ref D) H6 →
   compPost (model X.prog X.w) X.A X.xe use Q' (.ref D) s3.heap.objs.size (.ok .next) s6) :
  wpAny (model X.prog X.w) X.A (comprehension (.ListComp elt [⟨tg, iter, ifs, 0⟩] scope pos) scope X.env p0 (newList []) false (eval iter X.env) use) Q' X.xe s := by
 obtain ⟨cl, hclos, hcl, hcl2⟩ := clos_ok (scope := scope) (env := X.env) fun y hy hf => I.ok.has y.1 (c.free y hy hf)
 refine wpAny_comprehension_free (use := use) rfl hs hclos c.kind c.loc (wpAny_mono (hi pins s σ H _ I h) (fun v s1 h1 => wpAny_mono h1 (fun itv s2 h2 => ?_) fun _ _ z => z) fun _ _ z => z)
 obtain ⟨it, fp, tn, J, H2, rfl, I2, T, st2, f2, h2⟩ := h2
 refine wpAny_newObj_type (wpAny_newFunctionEnv c.cell (by intro y hy; simp at hy) (fun h₁ hns hsb => ?_) c.kind)
 have hD : H2 s2.heap.objs.size = none := I2.fresh
 obtain ⟨W, ⟨m0, w0⟩, turn⟩ := h2 s2.heap.objs.size hD
 have I3 := I2.lnew (its := []) (ys := []) (t' := s2.toks) .nil (Nat.zero_le _)
 have fp3 : ∀ b ∈ fp, FpOk X pins (upd H2 s2.heap.objs.size (.lst [])) b := fun b hb => by
  obtain ⟨a1, a2⟩ := f2 b hb
  refine ⟨?_, a2⟩
  obtain ⟨o, ho, _⟩ := T.obj 0 _ st2 b hb
  rw [upd_ne (Nat.ne_of_lt (Heap.lt_size ho))]
  exact a1
 have lt3 : ∀ b ∈ fp, b < s2.heap.objs.size := fun b hb => by
  obtain ⟨o, ho, _⟩ := T.obj 0 _ st2 b hb
  exact Heap.lt_size ho
 revert hns hsb
 generalize hs3 : ({ s2 with heap := s2.heap.push { cls := .type "list", data := .seq ([] : List Value).toArray }, toks := s2.toks } : Shared) = s3 at I3
 intro hns hsb
 have e3h : s3.heap = s2.heap.push { cls := .type "list", data := .seq ([] : List Value).toArray } := by rw [<- hs3]
 have e3 : s3.heap.objs.size = s2.heap.objs.size + 1 := by rw [e3h, Heap.size_push]
 have k23 : ∀ b o, s2.heap.get? b = some o -> s3.heap.get? b = some o := fun b o e => by rw [e3h]; exact Heap.get?_push_of_some _ e
 have k34 : ∀ b o, s3.heap.get? b = some o -> h₁.get? b = some o := fun b o e => hsb.extBut b o (Nat.ne_of_lt (Heap.lt_size e)) (Heap.get?_push_of_some _ e)
 have hnsC : h₁.Ns s3.heap.objs.size (fun x => ([] : List (Str × Value)).reverse.lookup x) := hns
 have I4 := blk_inv (fp := fp) (tk := s3.toks + ([] : List (Str × Value)).length) I3 c hcl hcl2 (fun b hb => ⟨by rw [e3]; exact Nat.lt_succ_of_lt (lt3 b hb), (fp3 b hb).2.1, (fp3 b hb).2.2.1, (fp3 b hb).2.2.2.1, (fp3 b hb).2.2.2.2.1⟩) hnsC k34
 have loop : ∀ s4 : Shared, s4 = { s3 with heap := h₁, toks := s3.toks + ([] : List (Str × Value)).length } →
   codeAny (model X.prog X.w) X.A (.compLoop (.ListComp elt [⟨tg, iter, ifs, 0⟩] scope pos) 0 (.ref it) (.ref s2.heap.objs.size) (compEnvC scope cl s3.heap.objs.size X.env))
    (compPost (model X.prog X.w) X.A X.xe use Q' (.ref s2.heap.objs.size) s3.heap.objs.size) s4 := by
  rintro s4 rfl
  refine comp_loop (fun m s => ∃ i σ2 H2', Inv (blk X N scope cl s3.heap.objs.size s3 (upd H2 s2.heap.objs.size (.lst [])) fp) [] σ2 H2' s /\ tn i s.heap /\ (∀ b ∈ fp, H2' b = none) /\ W i m σ2 H2') ?_ m0
   ⟨0, capV cap σ, _, I4, T.keep _ _ _ st2 fun b hb o e => k34 b o (k23 b o e), fun b hb => (fp3 b hb).1, w0⟩
  rintro k s5 ⟨i, σ5, H5, I5, st5, fr5, w5⟩
  have fok : ∀ {H' : Hp} {ps : List (Addr × Obj)}, (∀ b ∈ fp, H' b = none) -> (∀ p ∈ ps, ∀ b ∈ fp, p.1 ≠ b) -> ∀ b ∈ fp, FpOk (blk X N scope cl s3.heap.objs.size s3 (upd H2 s2.heap.objs.size (.lst [])) fp) ps H' b := fun {H' ps} hn hp b hb =>
   ⟨hn b hb, (fun z => by have q := lt3 b hb; have z' : b = s3.heap.objs.size := z; rw [z', e3] at q; exact absurd q (Nat.not_lt.mpr (Nat.le_succ _))), I5.ok.exfs b hb, .inl hb, fun x d hd => (fp3 b hb).2.2.2.2.1 x d (hcl x d hd).1, fun p hp' => hp p (by simpa [blk] using hp') b hb⟩
  rcases turn i k σ5 H5 w5 with ⟨stop, qn⟩ | ⟨go, step⟩
  ·refine wpAny_mono (T.done (blk X N scope cl s3.heap.objs.size s3 (upd H2 s2.heap.objs.size (.lst [])) fp) rfl rfl rfl hc i [] s5 σ5 H5 _ I5 (fok fr5 (fun _ z => nomatch z)) st5 stop) (fun r s6 hr => ?_) fun _ _ z => z
   obtain ⟨rfl, I6⟩ := hr
   exact fin s3 s6 _ H5 fp σ5 cl _ I3 fp3 I6 qn
  ·refine wpAny_mono (T.item (blk X N scope cl s3.heap.objs.size s3 (upd H2 s2.heap.objs.size (.lst [])) fp) rfl rfl rfl hc i [] s5 σ5 H5 _ I5 (fok fr5 (fun _ z => nomatch z)) st5 go) (fun r s6 hr => ?_) fun _ _ z => z
   obtain ⟨u, rfl, h6⟩ := hr
   refine wpAny_mono h6 (fun _ s7 ⟨x, H7, I7, rx, y7, st7, fr7⟩ => ?_) fun _ _ z => z
   have I7' := I7.pinned (fok fr7 (fun _ z => nomatch z)) (T.obj _ _ st7)
   have back : ∀ {σ8 : L2.St} {H8 : Hp} {s8 : Shared}, Inv (blk X N scope cl s3.heap.objs.size s3 (upd H2 s2.heap.objs.size (.lst [])) fp) ([] ++ pinsAt fp s7.heap) σ8 H8 s8 →
     Inv (blk X N scope cl s3.heap.objs.size s3 (upd H2 s2.heap.objs.size (.lst [])) fp) [] σ8 H8 s8 /\ tn (i + 1) s8.heap /\ ∀ b ∈ fp, H8 b = none := fun {σ8 H8 s8} I8 => by
    refine ⟨I8.unpinned, T.keep _ _ _ st7 fun b hb o e => (I8.pin (b, o) (List.mem_append_right _ (List.mem_append_right _ (mem_pinsAt hb e)))).1, fun b hb => ?_⟩
    obtain ⟨o, e, d⟩ := T.obj _ _ st7 b hb
    exact (I8.pin (b, o) (List.mem_append_right _ (List.mem_append_right _ (mem_pinsAt hb e)))).2.1
   refine thn (hg cl _ _ _ fp _ s7 σ5 H7 x u _ I7' rx (step x H7 y7)) fun _ s8 ⟨σ8, H8, I8, q8⟩ => ?_
   refine thn (ht cl _ _ _ fp _ s8 σ8 H8 _ I8 q8) fun ok s9 ⟨H9, I9, q9⟩ => ?_
   cases ok with
   | false =>
    obtain ⟨m', hm, w9⟩ := q9
    obtain ⟨a1, a2, a3⟩ := back I9
    exact ⟨m', hm, i + 1, σ8, H9, a1, a2, a3, w9⟩
   | true =>
    refine thn (he cl _ _ _ fp _ s9 σ8 H9 _ I9 q9) fun y s10 ⟨v10, H10, I10, r10, xs, hx, hz, m', hm, w10⟩ => ?_
    refine thn (mt_append (X := blk X N scope cl s3.heap.objs.size s3 (upd H2 s2.heap.objs.size (.lst [])) fp) _ s10 σ8 H10 (.ref s2.heap.objs.size) [v10] (.ref s2.heap.objs.size) [y] (fun _ H' => W (i + 1) m' σ8 H') I10 rfl (.cons r10 .nil) ⟨_, xs, _, rfl, rfl, hx, hz, w10⟩) fun _ s11 ⟨_, H11, I11, _, w11⟩ => ?_
    obtain ⟨a1, a2, a3⟩ := back I11
    exact ⟨m', hm, i + 1, σ8, H11, a1, a2, a3, w11⟩
 exact codeAny_compStart_list (loop _ rfl) (T.self _ 0 _ _ _ (T.keep _ _ _ st2 fun b hb o e => k34 b o (k23 b o e)) (loop _ rfl))
theorem pe_comp (hc : X.calm = true) (c : Cap X N cap scope) (hi : PI X tg iter wi) (hg : ∀ cl C s₀ H₀ ex, PG (blk X N scope cl C s₀ H₀ ex) tg g) (ht : ∀ cl C s₀ H₀ ex, PF (blk X N scope cl C s₀ H₀ ex) ifs tc)
  (he : ∀ cl C s₀ H₀ ex, PE (blk X N scope cl C s₀ H₀ ex) elt te) (hs : ∀ x, foldedSetIterable iter X.env x = pure x := by intro _; rfl) : PE X (.ListComp elt [⟨tg, iter, ifs, 0⟩] scope pos) (tComp wi cap g tc te) := by
 intro pins s σ H Q I h
 rw [eval_ListComp]
 refine comp_core hc c hi hg ht he hs I h fun s3 s6 H3 H6 fp σ6 cl D I3 fp3 I6 q => ?_
 obtain ⟨m6, hn6, _⟩ := I6.loc
 exact ⟨m6, hn6, fun h' sb => ⟨.ref D, H6, blk_out I3 I6 sb fp3, rfl, q⟩⟩
theorem ps_comp {i : Nat} {x : Str} {pos' pos2 : Pos} (hN : X.N.Nodup) (hi' : X.N[i]? = some x) (hx : X.env.scope.names.lookup x = some .local) (hsw : swapsWith (.ListComp elt [⟨tg, iter, ifs, 0⟩] scope pos) (some (.Name x pos')) pos2.line X.env = pure true)
  (hc : X.calm = true) (c : Cap X N cap scope) (hi : PI X tg iter wi) (hg : ∀ cl C s₀ H₀ ex, PG (blk X N scope cl C s₀ H₀ ex) tg g) (ht : ∀ cl C s₀ H₀ ex, PF (blk X N scope cl C s₀ H₀ ex) ifs tc)
  (he : ∀ cl C s₀ H₀ ex, PE (blk X N scope cl C s₀ H₀ ex) elt te) (hs : ∀ x, foldedSetIterable iter X.env x = pure x := by intro _; rfl) :
  PS X (.Assign [.Name x pos'] (.ListComp elt [⟨tg, iter, ifs, 0⟩] scope pos) pos2) (tAsg (tComp wi cap g tc te) (gName i)) := by
 intro pins s σ H D I h
 rw [exec_Assign_Name_used x pos' _ pos2 hsw]
 refine wpAny_bind (wpAny_standAt (wpAny_bind ?_))
 show wpAny (model X.prog X.w) X.A (comprehension (.ListComp elt [⟨tg, iter, ifs, 0⟩] scope pos) scope X.env _ (newList []) false (eval iter X.env) (some (assign (.Name x pos') X.env)) >>= fun _ => pure ()) _ _ s
 refine wpAny_bind (comp_core hc c hi hg ht he hs I h fun s3 s6 H3 H6 fp σ6 cl Dl I3 fp3 I6 q => ?_)
 obtain ⟨m6, hn6, _⟩ := I6.loc
 have hn6' : s6.heap.Ns s3.heap.objs.size m6 := hn6
 have I7 : Inv X pins σ H6 s6 := blk_out (h' := s6.heap) I3 I6 ⟨rfl, fun _ _ => rfl⟩ fp3
 refine wpAny_assign_Name (store_ok2 I7 hN hi' (.inl hx) (v := .ref Dl) rfl (fun s8 I8 h8 => ?_) (.inr hx))
 obtain ⟨a, sb8, ha⟩ := h8
 have fresh : H6 s3.heap.objs.size = none := I6.free
 have neL : s3.heap.objs.size ≠ X.env.locals := Nat.ne_of_gt I3.lt
 have neC : ∀ y d, X.env.cells.lookup y = some d -> d ≠ s3.heap.objs.size := fun y d e => by
  obtain ⟨v, o, ho, _⟩ := I3.cell y d e
  exact Nat.ne_of_lt (Heap.lt_size ho)
 have neP : ∀ p ∈ X.pn ++ pins, p.1 ≠ s3.heap.objs.size := fun p hp => Nat.ne_of_lt (Heap.lt_size (I3.pin p hp).1)
 have neA : s3.heap.objs.size ≠ a := by
  rcases ha with z | z
  ·rw [z]; exact neL
  ·exact Ne.symm (neC x a z)
 refine ⟨m6, hn6'.sameBut sb8 neA, fun h' sb => wpAny_pure (wpAny_pure ⟨_, H6, ?_, q⟩)⟩
 exact I8.turned (t' := s8.toks) (fun b o hb e => (sb.2 b hb).trans e) fresh neL (.inr I3.sz) neC neP
end
end IL
namespace IL
open PySem PySem.Spec PyProof.Rows L2
def capP (cap : List (Option Nat)) (σ : PSt) : PSt := cap.map fun o => o.bind fun i => (σ[i]?).join
def noEx {α : Type} (m : Mo α) : Mo α := fun ph => match m ph with
 | .ok a ph' => .ok a ph'
 | _ => .no
theorem run_noEx {α : Type} {m : Mo α} {ph : PH} {N : α -> PH -> Prop} {E E' : XC -> PH -> Prop} (h : (noEx m ph).Run N E) : (m ph).Run N E' := by
 unfold noEx at h
 cases e : m ph with
 | ok a ph' => rw [e] at h; exact h
 | ex x ph' => rw [e] at h; exact h.elim
 | no => rw [e] at h; exact h
def compG (chk : PH -> Bool) (g : GM) (c : TM) (e : EM) (L : Nat) : List W -> PSt -> Mo Unit
 | [], _ => fun ph => if chk ph = true then .ok () ph else .no
 | x :: xs, σ => fun ph => if chk ph = true then bnd (noEx (g x σ)) (fun σ1 => bnd (noEx (c σ1)) fun t => if t = true then bnd (noEx (e σ1)) fun w => bnd (lift (appendW (.ref L) [w])) fun _ => compG chk g c e L xs σ1 else compG chk g c e L xs σ1) ph else .no
def eComp (im : IM) (cap : List (Option Nat)) (g : GM) (c : TM) (e : EM) : EM := fun σ => bnd (im σ) fun r ph => bnd (compG r.2 g c e ph.length r.1 (capP cap σ)) (fun _ => pur (.ref ph.length)) (ph ++ [.lst []])
section
variable {K : PySem.W.Frag} {φ : Nat -> Addr} {n : Nat} {H : Hp}
theorem RelS.cap {ws : PSt} {σ : L2.St} (h : RelS K φ n H ws σ) : ∀ (cap : List (Option Nat)), RelS K φ n H (capP cap ws) (capV cap σ)
 | [] => .nil
 | o :: r => by
  have ih := RelS.cap h r
  unfold capP capV at ih ⊢
  rw [List.map_cons, List.map_cons]
  cases o with
  | none => exact .nn ih
  | some i =>
   cases q : ws[i]? with
   | none => simp only [Option.bind_some, q, Option.join_none]; exact .nn ih
   | some o =>
    cases o with
    | none => simp only [Option.bind_some, q, Option.join_some]; exact .nn ih
    | some w =>
     obtain ⟨v, ev, rv⟩ := h.get q
     simp only [Option.bind_some, q, ev, Option.join_some]
     exact .sm rv ih
theorem append_some {L : Nat} {w u : W} {ph ph' : PH} (h : appendW (.ref L) [w] ph = some (u, ph')) : ∃ ws, ph[L]? = some (.lst ws) /\ ws.length < sizeLine /\ ph' = ph.set L (.lst (ws ++ [w])) := by
 unfold appendW at h
 simp only at h
 split at h
 ·rename_i ws hw
  split at h
  ·rename_i hz
   cases h
   exact ⟨ws, hw, hz, rfl⟩
  ·cases h
 ·cases h
end
def tM0 (K : PySem.W.Frag) (m : EM) : TE := fun σ H Q => ∃ φ ph ws, RelH K φ ph H /\ RelS K φ ph.length H ws σ /\ (m ws ph).Run (fun w ph' =>
 ∀ φ' H' v, RelH K φ' ph' H' -> Step K φ ph.length H φ' ph'.length H' -> RelW K φ' ph'.length H' w v -> Q v H') (fun _ _ => False)
def tT0 (K : PySem.W.Frag) (m : TM) : TT := fun σ H Q => ∃ φ ph ws, RelH K φ ph H /\ RelS K φ ph.length H ws σ /\ (m ws ph).Run (fun b ph' =>
 ∀ φ' H', RelH K φ' ph' H' -> Step K φ ph.length H φ' ph'.length H' -> Q b H') (fun _ _ => False)
def tG0 (K : PySem.W.Frag) (g : GM) : TG := fun v σ H Q => ∃ φ ph ws w, RelH K φ ph H /\ RelS K φ ph.length H ws σ /\ RelW K φ ph.length H w v /\ (g w ws ph).Run (fun ws' ph' =>
 ∀ φ' H' σ', RelH K φ' ph' H' -> Step K φ ph.length H φ' ph'.length H' -> RelS K φ' ph'.length H' ws' σ' -> Q σ' H') (fun _ _ => False)
section
variable {X : Cx} {e : Expr}
theorem e0 {m : EM} (h : IE X e m) : PE X e (tM0 X.K m) := PE.imp h fun _ _ _ ⟨φ, ph, ws, a, b, c⟩ => ⟨φ, ph, ws, a, b, c.mono (fun _ _ z => z) fun _ _ z => z.elim⟩
theorem t0 {m : TM} (h : IT X e m) : PT X e (tT0 X.K m) := PT.imp h fun _ _ _ ⟨φ, ph, ws, a, b, c⟩ => ⟨φ, ph, ws, a, b, c.mono (fun _ _ z => z) fun _ _ z => z.elim⟩
theorem g0 {g : GM} (h : IG X e g) : PG X e (tG0 X.K g) := PG.imp h fun _ _ _ _ ⟨φ, ph, ws, w, a, b, r, c⟩ => ⟨φ, ph, ws, w, a, b, r, c.mono (fun _ _ z => z) fun _ _ z => z.elim⟩
end
section
variable {X : Cx} {tg iter elt : Expr} {ifs : List Expr} {scope : Scope} {pos : Pos} {N : List Str} {cap : List (Option Nat)} {im : IM} {g : GM} {c : TM} {e : EM}
theorem comp_tail {σ : L2.St} {Q : VK} {φ1 : Nat -> Addr} {ph1 : PH} {H1 : Hp} {ws : PSt} {J : It} {items : List W} {chk : PH -> Bool} {D : Addr} (hH1 : RelH X.K φ1 ph1 H1) (hS : RelS X.K φ1 ph1.length H1 ws σ) (hJ : ItI X.K J items chk φ1 ph1.length H1) (hD : H1 D = none)
  (h : (compG chk g c e ph1.length items (capP cap ws) (ph1 ++ [.lst []])).Run (fun _ ph' => ∀ φ' H' v, RelH X.K φ' ph' H' -> Step X.K φ1 ph1.length H1 φ' ph'.length H' -> RelW X.K φ' ph'.length H' (.ref ph1.length) v -> Q v H') (fun _ _ => True)) :
  ∃ W : Nat -> Nat -> L2.St -> Hp -> Prop, (∃ m, W 0 m (capV cap σ) (upd H1 D (.lst []))) /\
   ∀ i m σ2 H2, W i m σ2 H2 -> (J.stop i H2 /\ Q (.ref D) H2) \/ (J.go i H2 /\ ∀ x H3, J.yld i H2 x H3 -> tG0 X.K g x σ2 H3 fun σ4 H4 => tT0 X.K c σ4 H4 fun b H5 =>
    if b = true then tM0 X.K e σ4 H5 fun v H6 => ∃ xs, H6 D = some (.lst xs) /\ xs.length < sizeLine /\ ∃ m', m' < m /\ W (i + 1) m' σ4 (upd H6 D (.lst (xs ++ [v]))) else ∃ m', m' < m /\ W (i + 1) m' σ4 H5) := by
 have nl := new_list (ws := []) (vs := []) hH1 .nil hD
 have hl : (ph1 ++ [PO.lst []]).length = ph1.length + 1 := by simp
 rw [hl] at nl
 obtain ⟨hH2, s2, _⟩ := nl
 refine ⟨fun i m σ2 H2 => ∃ φ2 ph2 ws2, m = (items.drop i).length /\ RelH X.K φ2 ph2 H2 /\ RelS X.K φ2 ph2.length H2 ws2 σ2 /\ Step X.K (ext φ1 ph1.length D) (ph1.length + 1) (upd H1 D (.lst [])) φ2 ph2.length H2 /\
   (compG chk g c e ph1.length (items.drop i) ws2 ph2).Run (fun _ ph' => ∀ φ' H' v, RelH X.K φ' ph' H' -> Step X.K φ2 ph2.length H2 φ' ph'.length H' -> RelW X.K φ' ph'.length H' (.ref ph1.length) v -> Q v H') (fun _ _ => True),
  ⟨_, ext φ1 ph1.length D, ph1 ++ [PO.lst []], capP cap ws, rfl, hH2, ?_, by rw [hl]; exact Step.refl, ?_⟩, ?_⟩
 ·rw [hl]
  exact (RelS.cap (hS.mono s2) cap)
 ·exact Out.Run.mono h (fun _ ph' k φ' H' v r' st' rv => k φ' H' v r' (s2.trans (by rw [hl] at st'; exact st')) rv) fun _ _ _ => trivial
 rintro i m σ2 H2 ⟨φ2, ph2, ws2, rfl, hr2, hS2, st2, h4⟩
 have hphi : φ2 ph1.length = D := by rw [st2.eq _ (Nat.lt_succ_self _), ext_eq]
 cases hd : items.drop i with
 | nil =>
  rw [hd] at h4
  unfold compG at h4
  split at h4
  ·rename_i hc
   have hn : items[i]? = none := by
    have : items.length <= i := by simpa using hd
    simpa using this
   refine .inl ⟨(hJ φ2 _ H2 hr2 (s2.trans st2) hc i).2 hn, h4 φ2 H2 _ hr2 Step.refl ?_⟩
   rw [<- hphi]
   exact .ref (Nat.lt_of_lt_of_le (Nat.lt_succ_self _) st2.le)
  ·exact h4.elim
 | cons x xs =>
  rw [hd] at h4
  unfold compG at h4
  split at h4
  ·rename_i hc
   have hx : items[i]? = some x := by
    have := congrArg (fun l => l[0]?) hd
    simpa using this
   have hxs : items.drop (i + 1) = xs := by
    have := congrArg (fun l => l.drop 1) hd
    simpa [List.drop_drop, Nat.add_comm] using this
   obtain ⟨hgo, hy⟩ := (hJ φ2 _ H2 hr2 (s2.trans st2) hc i).1 x hx
   refine .inr ⟨hgo, fun v H3 y => ?_⟩
   obtain ⟨hH3, s3, rv⟩ := hy v H3 y
   rw [run_bnd] at h4
   refine ⟨φ2, ph2, ws2, x, hH3, hS2.mono s3, rv, (run_noEx h4).mono (fun ws5 ph5 h5 φ5 H5 σ5 hH5 s5 hS5 => ?_) fun _ _ z => z⟩
   rw [run_bnd] at h5
   refine ⟨φ5, ph5, ws5, hH5, hS5, (run_noEx h5).mono (fun t ph6 h6 φ6 H6 hH6 s6 => ?_) fun _ _ z => z⟩
   have s26 := (s3.trans s5).trans s6
   have sall := st2.trans s26
   cases t with
   | false =>
    refine iteF ⟨xs.length, by simp, φ6, ph6, ws5, by rw [hxs], hH6, hS5.mono s6, sall, ?_⟩
    rw [hxs]
    exact Out.Run.mono h6 (fun _ ph' k φ' H' v r' st' q => k φ' H' v r' (s26.trans st') q) fun _ _ z => z
   | true =>
    have h6' : (bnd (noEx (e ws5)) (fun w => bnd (lift (appendW (.ref ph1.length) [w])) fun _ => compG chk g c e ph1.length xs ws5) ph6).Run _ _ := h6
    rw [run_bnd] at h6'
    refine iteT ⟨φ6, ph6, ws5, hH6, hS5.mono s6, (run_noEx h6').mono (fun w7 ph7 h7 φ7 H7 v7 hH7 s7 r7 => ?_) fun _ _ z => z⟩
    rw [run_bnd] at h7
    obtain ⟨u8, ph8, e8, h8⟩ := run_lift h7
    obtain ⟨wsL, hL, hz, rfl⟩ := append_some e8
    have s27 := s26.trans s7
    have sall2 := sall.trans s7
    have hphi7 : φ7 ph1.length = D := by rw [sall2.eq _ (Nat.lt_succ_self _), ext_eq]
    obtain ⟨vs, hv, rvs⟩ := hH7.hp _ _ hL
    have hlt : ph1.length < ph7.length := (List.getElem?_eq_some_iff.mp hL).1
    obtain ⟨q1, q2⟩ := put_list hH7 hL (rvs.append (.cons r7 .nil))
    rw [hphi7] at hv q1 q2
    refine ⟨vs, hv, by rw [<- rvs.length]; exact hz, xs.length, by simp, φ7, _, ws5, by rw [hxs], q1, ((hS5.mono s6).mono s7).mono q2, sall2.trans q2, ?_⟩
    rw [hxs]
    exact Out.Run.mono h8 (fun _ ph' k φ' H' v r' st' q => k φ' H' v r' ((s27.trans q2).trans st') q) fun _ _ z => z
  ·exact h4.elim
theorem comp_imp {σ : L2.St} {H : Hp} {Q : VK} (h : tM X (eComp im cap g c e) σ H Q) : tComp (tI X im) cap (tG0 X.K g) (tT0 X.K c) (tM0 X.K e) σ H Q := by
 obtain ⟨φ, ph, ws, hH, hS, h⟩ := h
 unfold eComp at h
 rw [run_bnd] at h
 refine ⟨φ, ph, ws, hH, hS, h.mono (fun r ph1 h φ1 H1 J hH1 s1 hJ D hD => ?_) fun _ _ z => z⟩
 rw [run_bnd] at h
 exact comp_tail hH1 (hS.mono s1) hJ hD (Out.Run.mono h (fun _ ph' k φ' H' v r' st' rv => k φ' H' v r' (s1.trans st') rv) fun _ _ _ => trivial)
theorem PF.imp {t t' : TT} (h : PF X ifs t) (k : ∀ σ H Q, t' σ H Q -> t σ H Q) : PF X ifs t' := fun pins s σ H Q I q => h pins s σ H Q I (k σ H Q q)
def cTrue : TM := fun _ => pur true
theorem if_nil : PF X [] (tT0 X.K cTrue) := PF.imp pf_nil fun σ H Q h => by
 obtain ⟨φ, ph, ws, hH, hS, h⟩ := h
 exact h φ H hH Step.refl
theorem if_one {cd : Expr} (h : IT X cd c) : PF X [cd] (tT0 X.K c) := pf_one (t0 h)
theorem ie_comp (hc : X.calm = true) (cp : Cap X N cap scope) (hi : II X tg iter im) (hg : ∀ cl C s₀ H₀ ex, IG (blk X N scope cl C s₀ H₀ ex) tg g) (ht : ∀ cl C s₀ H₀ ex, PF (blk X N scope cl C s₀ H₀ ex) ifs (tT0 X.K c))
  (he : ∀ cl C s₀ H₀ ex, IE (blk X N scope cl C s₀ H₀ ex) elt e) (hs : ∀ x, foldedSetIterable iter X.env x = pure x := by intro _; rfl) : IE X (.ListComp elt [⟨tg, iter, ifs, 0⟩] scope pos) (eComp im cap g c e) :=
 PE.imp (pe_comp hc cp hi (fun cl C s₀ H₀ ex => g0 (hg cl C s₀ H₀ ex)) ht (fun cl C s₀ H₀ ex => e0 (he cl C s₀ H₀ ex)) hs) fun _ _ _ h => comp_imp h
theorem is_comp {i : Nat} {x : Str} {pos' pos2 : Pos} (hN : X.N.Nodup) (hi' : X.N[i]? = some x) (hx : X.env.scope.names.lookup x = some .local)
  (hc : X.calm = true) (cp : Cap X N cap scope) (hi : II X tg iter im) (hg : ∀ cl C s₀ H₀ ex, IG (blk X N scope cl C s₀ H₀ ex) tg g) (ht : ∀ cl C s₀ H₀ ex, PF (blk X N scope cl C s₀ H₀ ex) ifs (tT0 X.K c))
  (he : ∀ cl C s₀ H₀ ex, IE (blk X N scope cl C s₀ H₀ ex) elt e) (hsw : swapsWith (.ListComp elt [⟨tg, iter, ifs, 0⟩] scope pos) (some (.Name x pos')) pos2.line X.env = pure true := by rfl) (hs : ∀ x, foldedSetIterable iter X.env x = pure x := by intro _; rfl) :
  IS X (.Assign [.Name x pos'] (.ListComp elt [⟨tg, iter, ifs, 0⟩] scope pos) pos2) (sAsg (eComp im cap g c e) (gN i)) :=
 PS.imp (ps_comp hN hi' hx hsw hc cp hi (fun cl C s₀ H₀ ex => g0 (hg cl C s₀ H₀ ex)) ht (fun cl C s₀ H₀ ex => e0 (he cl C s₀ H₀ ex)) hs) fun D σ H h => by
  obtain ⟨φ, ph, ws, hH, hS, h⟩ := h
  unfold sAsg at h
  rw [run_bnd] at h
  exact comp_imp ⟨φ, ph, ws, hH, hS, h.mono (fun w ph1 h φ1 H1 v hH1 s1 r1 => h φ1 H1 hH1 s1 _ ((hS.mono s1).set r1 i)) fun _ _ z => z⟩
end
end IL
namespace IL
open PySem PySem.Spec PyProof.Rows L2
def gAll : List GM -> List W -> PSt -> Mo PSt
 | [], [], σ => pur σ
 | g :: gs, w :: ws, σ => bnd (g w σ) fun σ' => gAll gs ws σ'
 | _, _, _ => nop
def gT (gs : List GM) : GM := fun w σ => match w with
 | .tup ws => gAll gs ws σ
 | _ => nop
def tGs (X : Cx) (gs : List GM) : TGs := fun vs σ H Q => ∃ φ ph ws xs, RelH X.K φ ph H /\ RelS X.K φ ph.length H ws σ /\ RelWs X.K φ ph.length H xs vs /\ (gAll gs xs ws ph).Run (fun ws' ph' =>
 ∀ φ' H' σ', RelH X.K φ' ph' H' -> Step X.K φ ph.length H φ' ph'.length H' -> RelS X.K φ' ph'.length H' ws' σ' -> Q σ' H') (XE X φ ph.length H)
def gLen (n : Nat) (gs : List GM) : GM := fun w σ => match w with
 | .tup ws => if ws.length = n then gAll gs ws σ else nop
 | _ => nop
section
variable {X : Cx} {tg : Expr} {es : List Expr} {g : GM} {gs : List GM} {pos : Pos}
theorem PGs.imp {t t' : TGs} (h : PGs X es t) (k : ∀ v σ H Q, t' v σ H Q -> t v σ H Q) : PGs X es t' := fun pins s σ H v u Q I r q => h pins s σ H v u Q I r (k v σ H Q q)
theorem igs_nil : PGs X [] (tGs X []) := PGs.imp pgs_nil fun vs σ H Q h => by
 obtain ⟨φ, ph, ws, xs, hH, hS, r, h⟩ := h
 cases r with
 | nil => exact ⟨rfl, h φ H σ hH Step.refl hS⟩
 | cons _ _ => exact h.elim
theorem igs_cons {e : Expr} (h1 : IG X e g) (h2 : PGs X es (tGs X gs)) (hs : (assignEach (e :: es) X.env).map (·.2) = assign e X.env :: (assignEach es X.env).map (·.2) := by rfl) : PGs X (e :: es) (tGs X (g :: gs)) :=
 PGs.imp (pgs_cons h1 h2 hs) fun vs σ H Q h => by
  obtain ⟨φ, ph, ws, xs, hH, hS, r, h⟩ := h
  cases r with
  | nil => exact h.elim
  | cons rw' rr =>
   refine ⟨_, _, rfl, tG.bind hH hS rw' h fun ws1 ph1 φ1 H1 σ1 hH1 s1 hS1 h1 => ?_⟩
   exact ⟨φ1, ph1, ws1, _, hH1, hS1, rr.mono s1, h1.mono (fun ws' ph' k φ' H' σ' r' s' q => k φ' H' σ' r' (s1.trans s') q) fun _ _ z => z⟩
theorem ig_tup {k n : Nat} (hc : X.calm = true) (h : PGs X es (tGs X gs)) (hn : (assignEach es X.env).length = n := by rfl) (hst : (assignEach es X.env).findIdx? (·.1) = none := by rfl) : IG X (.Tuple es k pos) (gLen n gs) :=
 PG.imp (pg_tup hc h hn hst) fun v σ H Q h => by
  obtain ⟨φ, ph, ws, w, hH, hS, r, h⟩ := h
  unfold gLen at h
  cases r with
  | tup hq r =>
   simp only at h
   split at h
   ·rename_i hl
    exact ⟨_, _, rfl, SqT.of hq, by rw [<- r.length]; exact hl, φ, ph, ws, _, hH, hS, r, h⟩
   ·exact h.elim
  | _ => exact h.elim
def setW (o i v : W) : Po Unit := fun ph => match o, i with
 | .ref r, .int k => match ph[r]? with
  | some (.lst ws) => match ixN ws.length k with
   | some j => some ((), ph.set r (.lst (ws.set j v)))
   | none => none
  | _ => none
 | _, _ => none
end
abbrev OM := PSt -> Mo (Option Int)
def tO (X : Cx) (m : OM) : TO := fun σ H Q => ∃ φ ph ws, RelH X.K φ ph H /\ RelS X.K φ ph.length H ws σ /\ (m ws ph).Run (fun o ph' =>
 ∀ φ' H', RelH X.K φ' ph' H' -> Step X.K φ ph.length H φ' ph'.length H' -> Q o H') (XE X φ ph.length H)
section
variable {X : Cx} {e : Expr} {lo hi : Option Expr} {m : EM} {ml mh : OM} {pos p2 : Pos}
theorem tO.bind {β : Type} {m : OM} {σ : L2.St} {H : Hp} {Q : Option Int -> Hp -> Prop} {φ : Nat -> Addr} {ph : PH} {ws : PSt} {f : Option Int -> Mo β} {N : β -> PH -> Prop} (hH : RelH X.K φ ph H) (hS : RelS X.K φ ph.length H ws σ) (h : (bnd (m ws) f ph).Run N (XE X φ ph.length H))
  (k : ∀ b ph1 φ1 H1, RelH X.K φ1 ph1 H1 -> Step X.K φ ph.length H φ1 ph1.length H1 -> (f b ph1).Run N (XE X φ1 ph1.length H1) -> Q b H1) : tO X m σ H Q := by
 rw [run_bnd] at h
 exact ⟨φ, ph, ws, hH, hS, h.mono (fun b ph1 h1 φ1 H1 hH1 s1 => k b ph1 φ1 H1 hH1 s1 (h1.mono (fun _ _ z => z) fun _ _ z => z.step s1)) fun _ _ z => z⟩
end
def listW : List W -> Po W := fun xs ph => match xs with
 | [w] => match seqW w ph with
  | some ws => some (.ref ph.length, ph ++ [.lst ws])
  | none => none
 | _ => none
theorem listW_i {K : PySem.W.Frag} : CallI K (fun xs H Q => ∃ p ys, xs = [.ref p] /\ (SqL K H p ys \/ SqT K H p ys) /\ ∀ l, H l = none -> Q (.ref l) (upd H l (.lst ys))) listW := by
 intro φ ph H xs vs w ph' Q hH r e k
 unfold listW at e
 split at e
 ·split at e
  ·rename_i w0 ws hw
   cases e
   cases r with
   | cons r r' =>
    cases r'
    obtain ⟨a, ys, rfl, hs, rs⟩ := seqW_rel hH r hw
    refine ⟨a, ys, rfl, hs, fun l hl => ?_⟩
    obtain ⟨q1, q2, q3⟩ := new_list hH rs hl
    exact k _ _ _ q1 q2 q3
  ·cases e
 ·cases e
def max2W : List W -> Po W := fun xs => match xs with
 | [.int i, .int j] => ret (.int (if j > i then j else i))
 | _ => nono
def min2W : List W -> Po W := fun xs => match xs with
 | [.int i, .int j] => ret (.int (if j < i then j else i))
 | _ => nono
theorem max2W_i {K : PySem.W.Frag} : CallI K (fun xs H Q => ∃ i j, xs = [.int i, .int j] /\ Q (.int (if j > i then j else i)) H) max2W := by
 intro φ ph H xs vs w ph' Q hH r e k
 unfold max2W at e
 split at e
 ·cases e
  cases r with
  | cons r r' =>
   cases r
   cases r' with
   | cons r r' => cases r; cases r'; exact ⟨_, _, rfl, k φ H _ hH Step.refl (.int _)⟩
 ·cases e
def eChain (f f' : W -> W -> Po W) (a b c : EM) : EM := fun σ => bnd (a σ) fun x => bnd (b σ) fun y => bnd (lift (f x y)) fun z => match z with
 | .bl k => if k = true then bnd (c σ) fun u => lift (f' y u) else pur (.bl false)
 | _ => nop
end IL
namespace IL
open PySem PySem.Spec PyProof.Rows L2
structure BdL (X : Cx) (N : List Str) (sc : Scope) : Prop where
 hN : X.N = N
 vis : ∀ x, Vis sc x -> Vis X.env.scope x
 loc : ∀ x, Loc sc x -> Loc X.env.scope x
 gl : ∀ x, sc.names.lookup x = some .globalImplicit -> Gl X x
 fn : ∀ x, Loc sc x -> X.fn x = true \/ X.env.scope.names.lookup x = some .local
 nd : N.Nodup
structure BdT (X : Cx) (N : List Str) (sc : Scope) (k : Nat) : Prop extends BdL X N sc where
 calm : X.calm = true
 room : Room k X.A
structure Bd (X : Cx) (N : List Str) (sc : Scope) (k : Nat) : Prop extends BdT X N sc k where
 pass : PassesOwn (model X.prog X.w) X.A X.env X.xe
section
variable {X : Cx} {N : List Str} {sc : Scope} {k : Nat} {pos : Pos}
theorem BdL.var (B : BdL X N sc) (i : Nat) {x : Str} (hN : N[i]? = some x) (hv : Vis sc x) (hd : (x == ("__debug__" : Str)) = false) (hcd : (x == ("__classdict__" : Str)) = false) : IE X (.Name x pos) (eVar i) :=
 ie_var i (hN := by rw [B.hN]; exact hN) (hv := B.vis x hv) (hd := hd) (hcd := hcd)
theorem BdL.name (B : BdL X N sc) (i : Nat) {x : Str} (hN : N[i]? = some x) (hl : Loc sc x) : IG X (.Name x pos) (gN i) :=
 ig_name (by rw [B.hN]; exact B.nd) (by rw [B.hN]; exact hN) (B.loc x hl) (B.fn x hl)
theorem BdL.set (B : BdL X N sc) (i : Nat) {x : Str} {e : Expr} {m : EM} {pos' : Pos} (hN : N[i]? = some x) (hl : Loc sc x) (he : IE X e m) (hs : swapsWith e (some (.Name x pos')) pos.line X.env = pure false := by rfl) : IS X (.Assign [.Name x pos'] e pos) (sAsg m (gN i)) :=
 is_set (by rw [B.hN]; exact B.nd) (by rw [B.hN]; exact hN) (B.loc x hl) he hs (B.fn x hl)
theorem Bd.for_ (B : Bd X N sc k) {iter tg : Expr} {im : IM} {g : GM} {b : SM} {body : List Stmt} (hi : II X tg iter im) (hg : IG X tg g) (hb : ISs X body b) (hs : ∀ x, foldedSetIterable iter X.env x = pure x := by intro _; rfl) : IS X (.For tg iter body [] pos) (sFor im g b) :=
 is_for B.pass B.calm hi hg hb hs
theorem Bd.while_ (B : Bd X N sc k) {c : Expr} {t : TM} {b : SM} {body : List Stmt} (hc : IT X c t) (hb : ISs X body b) : IS X (.While c body [] pos) (sWhile t b) := is_while B.pass hc hb
theorem lookup_relabel_glob {env : Env} {x : Str} : ∀ {names : List (Str × NameKind)}, names.lookup x = some .globalImplicit →
    (names.map fun (n, k) => if (k == NameKind.free && env.scope.kind == .function && env.kindOf n == some .cell) then (n, NameKind.cell) else (n, k)).lookup x = some .globalImplicit
  | [], h => by cases h
  | (n, k) :: r, h => by
    show List.lookup x ((if (k == NameKind.free && env.scope.kind == .function && env.kindOf n == some .cell) = true then (n, NameKind.cell) else (n, k)) :: _) = _
    rw [List.lookup_cons] at h
    cases q : x == n with
    | true =>
      rw [q] at h
      cases h
      have hno : ¬ ((NameKind.globalImplicit == NameKind.free && env.scope.kind == .function && env.kindOf n == some .cell) = true) := by
        rw [show (NameKind.globalImplicit == NameKind.free) = false from rfl, Bool.false_and, Bool.false_and]
        exact Bool.false_ne_true
      rw [if_neg hno, List.lookup_cons, q]
    | false =>
      rw [q] at h
      have ih := lookup_relabel_glob (env := env) h
      split
      · rw [List.lookup_cons, q]; exact ih
      · rw [List.lookup_cons, q]; exact ih
theorem Bd.blk (B : Bd X N sc k) {N' : List Str} {scope : Scope} {cl : List (Str × Addr)} {C : Addr} {s₀ : Shared} {H₀ : Hp} {ex : List Addr} (hc : ∀ y ∈ scope.names, y.2 ≠ .cell) (nd : N'.Nodup) : Bd (blk X N' scope cl C s₀ H₀ ex) N' scope k where
 hN := rfl
 vis := fun x h => by
  rcases h with h | h | h
  ·exact .inl (lookup_relabel_local (env := X.env) h)
  ·exact absurd rfl (hc _ (mem_lookup h))
  ·exact .inr (lookup_relabel_free (env := X.env) h)
 loc := fun x h => by
  rcases h with h | h
  ·exact .inl (lookup_relabel_local (env := X.env) h)
  ·exact absurd rfl (hc _ (mem_lookup h))
 gl := fun x h => lookup_relabel_glob (env := X.env) h
 calm := B.calm
 room := B.room
 fn := fun x h => by
  rcases h with h | h
  ·exact .inr (lookup_relabel_local (env := X.env) h)
  ·exact absurd rfl (hc _ (mem_lookup h))
 pass := PassesOwn.never
 nd := nd
def capOk (sc scope : Scope) (N N' : List Str) (cap : List (Option Nat)) : Bool :=
 cap.length == N'.length && (List.range N'.length).all (fun i => match cap[i]? with
  | some (some j) => (match N'[i]? with
   | some x => N[j]? == some x && scope.names.lookup x == some .free && (sc.names.lookup x == some .cell || sc.names.lookup x == some .free)
   | none => false)
  | _ => true) && scope.names.all (fun y => y.2 != .cell && (y.2 != .free || sc.names.lookup y.1 == some .cell || sc.names.lookup y.1 == some .free) && (y.2 != .local || scope.names.lookup y.1 == some .local)) && scope.kind == .function
theorem Bd.cap (hN : X.N = N) (hsc : X.env.scope = sc) {N' : List Str} {scope : Scope} {cap : List (Option Nat)} (h : capOk sc scope N N' cap = true) : Cap X N' cap scope := by
 unfold capOk at h
 simp only [Bool.and_eq_true, List.all_eq_true, beq_iff_eq, bne_iff_ne, Bool.or_eq_true, ne_eq] at h
 obtain ⟨⟨⟨h1, h2⟩, h3⟩, h4⟩ := h
 have hk : ∀ x, X.env.kindOf x = sc.names.lookup x := fun x => by unfold Env.kindOf; rw [hsc]
 refine ⟨h1, fun i j x e1 e2 => ?_, fun y hy hf => ?_, fun y hy => (h3 y hy).1.1, h4, fun y hy hl => ?_⟩
 ·have hi : i < N'.length := (List.getElem?_eq_some_iff.mp e1).1
  have := h2 i (List.mem_range.mpr hi)
  rw [e2, e1] at this
  simp only [Bool.and_eq_true, beq_iff_eq, Bool.or_eq_true] at this
  obtain ⟨⟨a1, a2⟩, a3⟩ := this
  rw [hN, hk]
  exact ⟨a1, a2, a3⟩
 ·rw [hk]
  rcases (h3 y hy).1.2 with (z | z) | z
  ·exact absurd hf z
  ·exact .inl z
  ·exact .inr z
 ·rcases (h3 y hy).2 with z | z
  ·exact absurd hl z
  ·exact z
end
end IL
namespace IL
open PySem PySem.Spec PyProof.Rows L2
def isStar : Expr -> Bool
 | .Starred .. => true
 | _ => false
theorem star_cons {e : Expr} {es : List Expr} {env : Env} (h : isStar e = false) : starEach (e :: es) env = (false, eval e env) :: starEach es env := by
 cases e <;> first | rfl | cases h
def noStars (es : List Expr) : Bool := es.all fun e => !isStar e
theorem any_none {env : Env} {pos : Pos} : ∀ {es : List Expr}, noStars es = true -> (backTo pos (starEach es env)).any (·.1) = false
 | [], _ => rfl
 | e :: es, h => by
  unfold noStars at h
  rw [List.all_cons, Bool.and_eq_true] at h
  have h1 : isStar e = false := by simpa using h.1
  rw [star_cons h1]
  show (false || (backTo pos (starEach es env)).any (·.1)) = false
  rw [any_none (es := es) h.2]
  rfl
theorem all_none {env : Env} {pos : Pos} : ∀ {es : List Expr}, noStars es = true -> (backTo pos (starEach es env)).all (fun x => !x.1) = true
 | [], _ => rfl
 | e :: es, h => by
  unfold noStars at h
  rw [List.all_cons, Bool.and_eq_true] at h
  have h1 : isStar e = false := by simpa using h.1
  rw [star_cons h1]
  show (!false && (backTo pos (starEach es env)).all (fun x => !x.1)) = true
  rw [all_none (es := es) h.2]
  rfl
section
variable {X : Cx} {e : Expr} {es : List Expr} {m : EM} {a : AM} {pos : Pos}
theorem ia_c (h : isStar e = false) (he : IE X e m) (hr : IA X es a) : IA X (e :: es) (aCons m a) := ia_cons he hr (star_cons h)
end
section
variable {X : Cx} {k : Nat} {f : Addr} {fd : FuncData} {ps : List Str} {fm : List W -> Mo W} {x : Str} {p pos : Pos} {e : Expr} {es : List Expr} {a : AM}
theorem ie_cal (hn : noStars (e :: es) = true) (hdb : (x == ("__debug__" : Str)) = false) (F : FnOk X.prog X.w X.K X.mg X.base (CXW X.prog X.w) k f fd ps (spM X.K X.mg ps.length fm)) (hl : ∀ {xs : List W} {ph : PH}, xs.length ≠ ps.length -> fm xs ph = .no) (hr : Room k X.A) (hg : Gl X x) (hm : X.mg x = some (.ref f))
  (hk : PySem.W.keepIn X.K (.ref f) = true) (hb : Binds X.K fd ps []) (ha : IA X (e :: es) a) : IE X (.Call (.Name x p) (e :: es) [] pos) (eCall fm a) := by
 unfold noStars at hn
 rw [List.all_cons, Bool.and_eq_true] at hn
 exact ie_call F hl hr hg hm hk hb ha hdb (star_cons (by simpa using hn.1)) (any_none hn.2)
variable {t : AM} {id T : String} {r : List V -> Hp -> VK -> Prop} {fp : List W -> Po W}
theorem ie_blt (hns : noStars (e :: es) = true) (hn : x ≠ "__name__") (hdb : (x == ("__debug__" : Str)) = false) (hc : CallR X (.builtin id) r) (hi : CallI X.K r fp) (hg : Gl X x) (hm : X.mg x = none) (hv : bootBuiltins x = some (.builtin id)) (ha : IA X (e :: es) t) : IE X (.Call (.Name x p) (e :: es) [] pos) (eCallB fp t) := by
 unfold noStars at hns
 rw [List.all_cons, Bool.and_eq_true] at hns
 exact ie_callB hc hi hg hm hv ha hn hdb (star_cons (by simpa using hns.1)) (any_none hns.2)
theorem ie_typ (hns : noStars (e :: es) = true) (hn : x ≠ "__name__") (hdb : (x == ("__debug__" : Str)) = false) (hc : CallR X (.type T) r) (hi : CallI X.K r fp) (hg : Gl X x) (hm : X.mg x = none) (hv : bootBuiltins x = some (.type T)) (ha : IA X (e :: es) t) : IE X (.Call (.Name x p) (e :: es) [] pos) (eCallB fp t) := by
 unfold noStars at hns
 rw [List.all_cons, Bool.and_eq_true] at hns
 exact ie_callTy hc hi hg hm hv ha hn hdb (star_cons (by simpa using hns.1)) (any_none hns.2)
end
section
variable {X : Cx} {o e : Expr} {es : List Expr} {mo : EM} {t : AM} {name : Str} {apos cpos : Pos} {T id : String} {r : V -> List V -> Hp -> VK -> Prop} {ty : W -> PH -> Bool} {f : W -> List W -> Po W}
theorem ie_mth (hns : noStars (e :: es) = true) (hlen : decide ((e :: es).length < 30) = true) (pa : PlainAttrs T) (slot : Slot T name id) (hty : typeOf (.builtin id) = pure (.type "method_descriptor")) (hm : MtR X id r) (ht : TyI X.K T ty) (hi : MtI X.K T r f) (ho : IE X o mo) (ha : IA X (e :: es) t)
  (hbase : attributeBase o name X.env (eval o X.env) = eval o X.env := by rfl) (hline : (apos.endLine == cpos.line) = true := by rfl) : IE X (.Call (.Attribute o name apos) (e :: es) [] cpos) (eMeth ty f mo t) := by
 have hall := all_none (env := X.env) (pos := cpos) hns
 unfold noStars at hns
 rw [List.all_cons, Bool.and_eq_true] at hns
 refine ie_bm pa slot hty hm ht hi ho ha hbase ?_ hline (star_cons (by simpa using hns.1)) (any_none hns.2)
 rw [hall, show (backToKw cpos (keywordEach [] X.env)).all (fun x => x.1.isSome) = true from rfl]
 simpa using hlen
end
end IL
namespace IL
open PySem PySem.Spec PyProof.Rows L2
structure JE (X : Cx) (e : Expr) (m : EM) : Prop where
 h : IE X e m
structure JT (X : Cx) (e : Expr) (m : TM) : Prop where
 h : IT X e m
structure JW (X : Cx) (e : Expr) (m : TM) : Prop where
 h : PW X e (tT X m)
structure JA (X : Cx) (es : List Expr) (m : AM) : Prop where
 h : IA X es m
structure JS (X : Cx) (st : Stmt) (m : SM) : Prop where
 h : IS X st m
structure JB (X : Cx) (st : List Stmt) (m : SM) : Prop where
 h : ISs X st m
structure JG (X : Cx) (e : Expr) (g : GM) : Prop where
 h : IG X e g
structure JGs (X : Cx) (es : List Expr) (gs : List GM) : Prop where
 h : PGs X es (tGs X gs)
structure JI (X : Cx) (tg iter : Expr) (im : IM) : Prop where
 h : II X tg iter im
structure JF (X : Cx) (ifs : List Expr) (c : TM) : Prop where
 h : PF X ifs (tT0 X.K c)
section
variable {X : Cx} {N : List Str} {sc : Scope} {k : Nat} {a b c e o : Expr} {es rest : List Expr} {ma mb mc m mo : EM} {ta tb t : TM} {am : AM} {sa sb : SM} {st : Stmt} {as bs body : List Stmt} {p p2 pos pos' : Pos} {g : GM} {gs : List GM} {im : IM} {tg iter : Expr}
theorem BdL.jvar (B : BdL X N sc) (i : Nat) {x : Str} (hN : N[i]? = some x) (hv : Vis sc x) (hd : (x == ("__debug__" : Str)) = false) (hcd : (x == ("__classdict__" : Str)) = false) : JE X (.Name x pos) (eVar i) := ⟨B.var i hN hv hd hcd⟩
theorem je_int {i : Int} {j : Nat} : JE X (.Constant (.int i) j pos) (eC (.int i)) := ⟨ie_int⟩
theorem je_str {x : Str} {j : Nat} : JE X (.Constant (.str x) j pos) (eC (.str x)) := ⟨ie_str⟩
theorem je_bl {x : Bool} {j : Nat} : JE X (.Constant (.bool x) j pos) (eC (.bl x)) := ⟨ie_bl⟩
theorem je_neg (ha : JE X a ma) : JE X (.UnaryOp .USub a pos) (eUn negW ma) := ⟨ie_un un_neg negW_i ha.h⟩
theorem je_add (ha : JE X a ma) (hb : JE X b mb) : JE X (.BinOp a .Add b pos) (eOp addW ma mb) := ⟨ie_op op_addW addW_i ha.h hb.h⟩
theorem je_sub (ha : JE X a ma) (hb : JE X b mb) : JE X (.BinOp a .Sub b pos) (eOp subW ma mb) := ⟨ie_op op_sub subW_i ha.h hb.h⟩
theorem je_mod (ha : JE X a ma) (hb : JE X b mb) : JE X (.BinOp a .Mod b pos) (eOp modW ma mb) := ⟨ie_op op_modN modW_i ha.h hb.h⟩
theorem je_div (ha : JE X a ma) (hb : JE X b mb) : JE X (.BinOp a .FloorDiv b pos) (eOp divW ma mb) := ⟨ie_op op_fdivB divW_i ha.h hb.h⟩
structure Cp (X : Cx) (op : CmpOp) (b : Expr) (f : W -> W -> Po W) : Prop where
 ex : ∃ r, OpR X (compareOp op) r /\ OpI X.K r f
 bm : behindInMarks op b = false
theorem cp_lt : Cp X .Lt b ltW := ⟨⟨_, op_lt, icmp_i⟩, nomark _⟩
theorem cp_gt : Cp X .Gt b gtW := ⟨⟨_, op_gt, icmp_i⟩, nomark _⟩
theorem BdT.eq (B : BdT X N sc k) : Cp X .Eq b eqW := ⟨⟨_, op_eqW B.room.units, eqW_i⟩, nomark _⟩
theorem BdT.ne (B : BdT X N sc k) : Cp X .NotEq b neW := ⟨⟨_, op_neW B.room.units, neW_i⟩, nomark _⟩
theorem je_cmp {op : CmpOp} {f : W -> W -> Po W} (hc : Cp X op b f) (ha : JE X a ma) (hb : JE X b mb) : JE X (.Compare a [op] [b] pos) (eOp f ma mb) := let ⟨_, h1, h2⟩ := hc.ex; ⟨ie_cmp h1 h2 ha.h hb.h hc.bm⟩
theorem jt_cmp {op : CmpOp} {f : W -> W -> Po W} (hc : Cp X op b f) (ha : JE X a ma) (hb : JE X b mb) : JT X (.Compare a [op] [b] pos) (eT (eOp f ma mb)) := let ⟨_, h1, h2⟩ := hc.ex; ⟨it_cmp h1 h2 ha.h hb.h hc.bm⟩
theorem je_one {op : BoolOp} (ha : JE X a ma) : JE X (.BoolOp op [a] pos) ma := ⟨ie_one ha.h⟩
theorem je_and (ha : JE X a ma) (hb : JE X (.BoolOp .And (b :: rest) pos) mb) : JE X (.BoolOp .And (a :: b :: rest) pos) (eAnd ma mb) := ⟨ie_and ha.h hb.h⟩
theorem je_or (ha : JE X a ma) (hb : JE X (.BoolOp .Or (b :: rest) pos) mb) : JE X (.BoolOp .Or (a :: b :: rest) pos) (eOr ma mb) := ⟨ie_or ha.h hb.h⟩
theorem jw_one {op : BoolOp} (ha : JT X a ta) : JW X (.BoolOp op [a] pos) ta := ⟨iw_one ha.h⟩
theorem jw_and (ha : JT X a ta) (hb : JW X (.BoolOp .And (b :: rest) pos) tb) : JW X (.BoolOp .And (a :: b :: rest) pos) (tAndM ta tb) := ⟨iw_and ha.h hb.h⟩
theorem jw_or (ha : JT X a ta) (hb : JW X (.BoolOp .Or (b :: rest) pos) tb) : JW X (.BoolOp .Or (a :: b :: rest) pos) (tOrM ta tb) := ⟨iw_or ha.h hb.h⟩
theorem jt_w (h : JW X a ta) : JT X a ta := ⟨h.h.pt⟩
theorem jt_not (ha : JT X a ta) : JT X (.UnaryOp .Not a pos) (tNotM ta) := ⟨it_not ha.h⟩
def plainT : Expr -> Bool
 | .Name .. => true | .Call .. => true | .Subscript .. => true | .Constant .. => true | .BinOp .. => true
 | _ => false
theorem jt_tru (hp : plainT a = true) (ha : JE X a ma) : JT X a (eTru ma) := ⟨by
 cases a <;> first | cases hp; done | exact it_tru ha.h⟩
theorem ja_nil : JA X [] aNil := ⟨ia_nil⟩
theorem ja_c (h : isStar e = false) (he : JE X e m) (hr : JA X es am) : JA X (e :: es) (aCons m am) := ⟨ia_c h he.h hr.h⟩
theorem je_tup {x1 : Nat} (h : JA X es am) : JE X (.Tuple es x1 pos) (eTup am) := ⟨ie_tup h.h⟩
theorem je_lst (h : JA X es am) : JE X (.List es pos) (eLst am) := ⟨ie_lst h.h⟩
theorem jb_nil : JB X [] sNext := ⟨iss_nil⟩
theorem jb_cons {rs : List Stmt} (h1 : JS X st sa) (h2 : JB X rs sb) : JB X (st :: rs) (sSeq sa sb) := ⟨iss_cons h1.h h2.h⟩
theorem jb_one (h1 : JS X st sa) : JB X [st] sa := ⟨iss_one h1.h⟩
theorem js_ret (he : JE X e m) : JS X (.Return (some e) pos) (sRet m) := ⟨is_ret he.h⟩
def noComp : Expr -> Bool
 | .ListComp .. => false | .SetComp .. => false | .DictComp .. => false
 | _ => true
theorem swaps_no {x : Option Expr} {n : Nat} {env : Env} (h : noComp e = true) : swapsWith e x n env = pure false := by
 cases e <;> first | rfl | cases h
theorem js_expr (hn : noComp e = true) (he : JE X e m) : JS X (.Expr e pos) (sExpr m) := ⟨is_expr he.h (swaps_no hn)⟩
theorem js_if (hc : JT X c t) (ha : JB X as sa) (hb : JB X bs sb) : JS X (.If c as bs pos) (sIf t sa sb) := ⟨is_if hc.h ha.h hb.h⟩
theorem BdL.jset (B : BdL X N sc) (i : Nat) {x : Str} (hN : N[i]? = some x) (hl : Loc sc x) (hn : noComp e = true) (he : JE X e m) : JS X (.Assign [.Name x pos'] e pos) (sAsg m (gN i)) := ⟨B.set i hN hl he.h (swaps_no hn)⟩
theorem js_asg (he : JE X e m) (hg : JG X tg g) (hs : swapsWithSole [tg] e pos.line X.env = pure false := by rfl) (hw : swappedStores [tg] e X.env = pure none := by rfl)
  (h1 : (assignEach [tg] X.env).map (·.2) = [assign tg X.env] := by rfl) : JS X (.Assign [tg] e pos) (sAsg m g) := ⟨is_asg he.h hg.h hs hw h1⟩
theorem BdL.jname (B : BdL X N sc) (i : Nat) {x : Str} (hN : N[i]? = some x) (hl : Loc sc x) : JG X (.Name x pos) (gN i) := ⟨B.name i hN hl⟩
theorem jgs_nil : JGs X [] [] := ⟨igs_nil⟩
theorem jgs_cons (h1 : JG X e g) (h2 : JGs X es gs) (hs : (assignEach (e :: es) X.env).map (·.2) = assign e X.env :: (assignEach es X.env).map (·.2) := by rfl) : JGs X (e :: es) (g :: gs) := ⟨igs_cons h1.h h2.h hs⟩
theorem jg_tup {j n : Nat} (hc : X.calm = true) (h : JGs X es gs) (hn : (assignEach es X.env).length = n := by rfl) (hst : (assignEach es X.env).findIdx? (·.1) = none := by rfl) : JG X (.Tuple es j pos) (gLen n gs) := ⟨ig_tup hc h.h hn hst⟩
theorem Bd.jfor (B : Bd X N sc k) (hi : JI X tg iter im) (hg : JG X tg g) (hb : JB X body sb) (hs : ∀ x, foldedSetIterable iter X.env x = pure x := by intro _; rfl) : JS X (.For tg iter body [] pos) (sFor im g sb) := ⟨B.for_ hi.h hg.h hb.h hs⟩
theorem Bd.jwhile (B : Bd X N sc k) (hc : JT X c t) (hb : JB X body sb) : JS X (.While c body [] pos) (sWhile t sb) := ⟨B.while_ hc.h hb.h⟩
theorem ji_range1 (hg : Gl X "range") (hm : X.mg "range" = none) (hn : isStar a = false) (ha : JA X [a] am) : JI X tg (.Call (.Name "range" p) [a] [] pos) (iR1 am) := ⟨ii_range1 hg hm ha.h (star_cons hn)⟩
theorem je_cal {k : Nat} {f : Addr} {fd : FuncData} {ps : List Str} {fm : List W -> Mo W} {x : Str} (hn : noStars (e :: es) = true) (hdb : (x == ("__debug__" : Str)) = false) (F : FnOk X.prog X.w X.K X.mg X.base (CXW X.prog X.w) k f fd ps (spM X.K X.mg ps.length fm)) (hl : ∀ {xs : List W} {ph : PH}, xs.length ≠ ps.length -> fm xs ph = .no) (hr : Room k X.A) (hg : Gl X x) (hm : X.mg x = some (.ref f))
  (hk : PySem.W.keepIn X.K (.ref f) = true) (hb : Binds X.K fd ps []) (ha : JA X (e :: es) am) : JE X (.Call (.Name x p) (e :: es) [] pos) (eCall fm am) := ⟨ie_cal hn hdb F hl hr hg hm hk hb ha.h⟩
theorem je_blt {x : Str} {id : String} {r : List V -> Hp -> VK -> Prop} {fp : List W -> Po W} (hns : noStars (e :: es) = true) (hn : x ≠ "__name__") (hdb : (x == ("__debug__" : Str)) = false) (hc : CallR X (.builtin id) r) (hi : CallI X.K r fp) (hg : Gl X x) (hm : X.mg x = none) (hv : bootBuiltins x = some (.builtin id)) (ha : JA X (e :: es) am) : JE X (.Call (.Name x p) (e :: es) [] pos) (eCallB fp am) := ⟨ie_blt hns hn hdb hc hi hg hm hv ha.h⟩
theorem je_typ {x : Str} {T : String} {r : List V -> Hp -> VK -> Prop} {fp : List W -> Po W} (hns : noStars (e :: es) = true) (hn : x ≠ "__name__") (hdb : (x == ("__debug__" : Str)) = false) (hc : CallR X (.type T) r) (hi : CallI X.K r fp) (hg : Gl X x) (hm : X.mg x = none) (hv : bootBuiltins x = some (.type T)) (ha : JA X (e :: es) am) : JE X (.Call (.Name x p) (e :: es) [] pos) (eCallB fp am) := ⟨ie_typ hns hn hdb hc hi hg hm hv ha.h⟩
theorem je_mth {name : Str} {T id : String} {r : V -> List V -> Hp -> VK -> Prop} {ty : W -> PH -> Bool} {f : W -> List W -> Po W} (hns : noStars (e :: es) = true) (hlen : decide ((e :: es).length < 30) = true) (pa : PlainAttrs T) (slot : Slot T name id) (hty : typeOf (.builtin id) = pure (.type "method_descriptor")) (hm : MtR X id r) (ht : TyI X.K T ty) (hi : MtI X.K T r f) (ho : JE X o mo) (ha : JA X (e :: es) am)
  (hbase : attributeBase o name X.env (eval o X.env) = eval o X.env := by rfl) (hline : (p.endLine == pos.line) = true := by rfl) : JE X (.Call (.Attribute o name p) (e :: es) [] pos) (eMeth ty f mo am) := ⟨ie_mth hns hlen pa slot hty hm ht hi ho.h ha.h hbase hline⟩
theorem jf_nil : JF X [] cTrue := ⟨if_nil⟩
theorem jf_one (h : JT X c t) : JF X [c] t := ⟨if_one h.h⟩
theorem je_comp {scope : Scope} {ifs : List Expr} {N' : List Str} {cap : List (Option Nat)} (hc : X.calm = true) (cp : Cap X N' cap scope) (hi : JI X tg iter im) (hg : ∀ cl C s₀ H₀ ex, JG (blk X N' scope cl C s₀ H₀ ex) tg g) (ht : ∀ cl C s₀ H₀ ex, JF (blk X N' scope cl C s₀ H₀ ex) ifs t)
  (he : ∀ cl C s₀ H₀ ex, JE (blk X N' scope cl C s₀ H₀ ex) e m) (hs : ∀ x, foldedSetIterable iter X.env x = pure x := by intro _; rfl) : JE X (.ListComp e [⟨tg, iter, ifs, 0⟩] scope pos) (eComp im cap g t m) :=
 ⟨ie_comp hc cp hi.h (fun cl C s₀ H₀ ex => (hg cl C s₀ H₀ ex).h) (fun cl C s₀ H₀ ex => (ht cl C s₀ H₀ ex).h) (fun cl C s₀ H₀ ex => (he cl C s₀ H₀ ex).h) hs⟩
theorem js_comp {scope : Scope} {ifs : List Expr} {N' : List Str} {cap : List (Option Nat)} {i : Nat} {x : Str} (hN : X.N.Nodup) (hi' : X.N[i]? = some x) (hx : X.env.scope.names.lookup x = some .local)
  (hc : X.calm = true) (cp : Cap X N' cap scope) (hi : JI X tg iter im) (hg : ∀ cl C s₀ H₀ ex, JG (blk X N' scope cl C s₀ H₀ ex) tg g) (ht : ∀ cl C s₀ H₀ ex, JF (blk X N' scope cl C s₀ H₀ ex) ifs t)
  (he : ∀ cl C s₀ H₀ ex, JE (blk X N' scope cl C s₀ H₀ ex) e m) (hsw : swapsWith (.ListComp e [⟨tg, iter, ifs, 0⟩] scope p) (some (.Name x pos')) pos.line X.env = pure true) (hs : ∀ x, foldedSetIterable iter X.env x = pure x := by intro _; rfl) :
  JS X (.Assign [.Name x pos'] (.ListComp e [⟨tg, iter, ifs, 0⟩] scope p) pos) (sAsg (eComp im cap g t m) (gN i)) :=
 ⟨is_comp hN hi' hx hc cp hi.h (fun cl C s₀ H₀ ex => (hg cl C s₀ H₀ ex).h) (fun cl C s₀ H₀ ex => (ht cl C s₀ H₀ ex).h) (fun cl C s₀ H₀ ex => (he cl C s₀ H₀ ex).h) hsw hs⟩
end
end IL
namespace IL
open PySem PySem.Spec PyProof.Rows L2 PySem.W Builtin.ObjectAttr Builtin.Getset_descriptor
section
variable {prog : Program} {w : World} {A : Around} {E : Value -> Shared -> Prop} {s : Shared} {K : PySem.W.Frag} {x C D : Addr}
structure ExcK (K : PySem.W.Frag) (D : Addr) : Prop where
 ga : findIn K (.ref D) "__getattribute__" = some (some (.builtin "BaseException.__getattribute__"))
 gh : findIn K (.ref D) "__getattr__" = some none
 cl : findIn K (.ref D) "__class__" = some (some (.builtin "object.__class__"))
 cg : specialIn K (.builtin "object.__class__") "__get__" = some (some (.builtin "getset_descriptor.__get__"))
 ct : takesIn K (.builtin "object.__class__") = some true
 mo : mroIn K D (.type "object") = some true
 mb : mroIn K D (.type "BaseException") = some true
 cd : (clsIn K D).isSome = true
end
end IL
namespace IL
open PySem PySem.Spec PyProof.Rows L2
def XTab (K : PySem.W.Frag) (cv : Value) (tb : List (Str × Bool)) : Prop :=
 ∀ c b, tb.lookup c = some b -> ∃ C, PySem.W.nsIn K mainGlobals c = some (some (.ref C)) /\ ExcK K C /\ PySem.W.kitOne K (.ref C) cv = some b
theorem XTab.nil {K : PySem.W.Frag} {cv : Value} : XTab K cv [] := fun c b e => by cases e
theorem XTab.cons {K : PySem.W.Frag} {cv : Value} {tb : List (Str × Bool)} {c : Str} {b : Bool} {C : Addr} (h1 : PySem.W.nsIn K mainGlobals c = some (some (.ref C))) (h2 : ExcK K C) (h3 : PySem.W.kitOne K (.ref C) cv = some b) (h : XTab K cv tb) :
  XTab K cv ((c, b) :: tb) := fun c' b' e => by
 rw [List.lookup_cons] at e
 split at e
 ·rename_i q
  cases e
  rw [beq_iff_eq] at q
  subst q
  exact ⟨C, h1, h2, h3⟩
 ·exact h c' b' e
def exx {α : Type} (x : XC) : Mo α := fun ph => .ex x ph
end IL
namespace IL
open PySem PySem.Spec PyProof.Rows L2 PySem.W
structure TopF (X : Cx) : Prop where
 st : X.stack = X.env :: X.outer
 fr : X.env.frame = some X.env.locals
 ex : X.ex = []
end IL
namespace IL
open PySem PySem.Spec PyProof.Rows L2
def nox {α : Type} (m : Mo α) : Mo α := fun ph => match m ph with
 | .ok a ph' => .ok a ph'
 | _ => .no
theorem RelS.len {K : PySem.W.Frag} {φ : Nat -> Addr} {n : Nat} {H : Hp} : ∀ {ws : PSt} {vs : L2.St}, RelS K φ n H ws vs -> ws.length = vs.length
 | _, _, .nil => rfl
 | _, _, .sm _ r => by rw [List.length_cons, List.length_cons, RelS.len r]
 | _, _, .nn r => by rw [List.length_cons, List.length_cons, RelS.len r]
theorem RelS.none {K : PySem.W.Frag} {φ : Nat -> Addr} {n : Nat} {H : Hp} : ∀ (vs : L2.St), RelS K φ n H (List.replicate vs.length Option.none) vs
 | [] => .nil
 | _ :: vs => .nn (RelS.none vs)
theorem step_exc {K : PySem.W.Frag} {φ : Nat -> Addr} {n : Nat} {H : Hp} {a : Addr} {o : HO} (ha : H a = none) : Step K φ n H φ n (upd H a o) := by
 refine ⟨Nat.le_refl _, fun _ _ => rfl, fun c xs h => ?_, fun c ob u h => by rw [upd_ne (fun z => by rw [z, ha] at h; cases h)]; exact h⟩
 rw [upd_ne (fun z => by rw [z, ha] at h; cases h)]; exact h
end IL
namespace IL
open PySem PySem.Spec PyProof.Rows L2
def HTab (K : PySem.W.Frag) (D : Addr) (tb : List (Str × Bool)) : Prop :=
 ∀ c b, tb.lookup c = some b -> ∃ C, PySem.W.nsIn K mainGlobals c = some (some (.ref C)) /\ PySem.W.subIn K (.ref C) (.ref D) = some b
theorem HTab.nil {K : PySem.W.Frag} {D : Addr} : HTab K D [] := fun c b e => by cases e
theorem HTab.cons {K : PySem.W.Frag} {D : Addr} {tb : List (Str × Bool)} {c : Str} {b : Bool} {C : Addr} (h1 : PySem.W.nsIn K mainGlobals c = some (some (.ref C))) (h3 : PySem.W.subIn K (.ref C) (.ref D) = some b) (h : HTab K D tb) :
  HTab K D ((c, b) :: tb) := fun c' b' e => by
 rw [List.lookup_cons] at e
 split at e
 ·rename_i q
  cases e
  rw [beq_iff_eq] at q
  subst q
  exact ⟨C, h1, h3⟩
 ·exact h c' b' e
theorem relH_exc {K : PySem.W.Frag} {φ : Nat -> Addr} {ph : PH} {H : Hp} {a : Addr} {o : HO} (h : RelH K φ ph H) (ha : H a = none) : RelH K φ ph (upd H a o) :=
 ⟨fun i p e => by
  obtain ⟨x, hx, _⟩ := h.at (List.getElem?_eq_some_iff.mp e).1
  exact (h.hp i p e).mono (step_exc ha) (upd_ne fun z => by rw [z, ha] at hx; cases hx), h.inj⟩
end IL
namespace IL
open PySem PySem.Spec PyProof.Rows L2
def ixD (ph : PH) (x y : W) : Option Nat := match (if isL x ph = true then seqW x ph else none), dat ph 40 y with
 | some ws, some dy => (mapO (dat ph 40) ws).bind fun ds => ds.findIdx? fun d => PyData.eqv d dy
 | _, _ => none
def indexW (x : W) (ys : List W) : Po W := fun ph => match ys with
 | [y] => (ixD ph x y).map fun (j : Nat) => (W.int ((j : Nat) : Int), ph)
 | _ => none
def rIndex (K : PySem.W.Frag) : V -> List V -> Hp -> VK -> Prop := fun x ys H Q => ∃ (φ : Nat -> Addr) (ph : PH) (wx wy : W) (y : V) (j : Nat), ys = [y] /\ RelH K φ ph H /\ RelW K φ ph.length H wx x /\ RelW K φ ph.length H wy y /\ ixD ph wx wy = some j /\ Q (.int (j : Int)) H
theorem ans_ix {X : Cx} {pins : List (Addr × Obj)} {σ : L2.St} {H : Hp} {s : Shared} {φ : Nat -> Addr} {ph : PH} (I : Inv X pins σ H s) (hH : RelH X.K φ ph H) {dx : PyData} : ∀ {ws : List W} {vs : List V} {us : List Value} {ds : List PyData}, RelWs X.K φ ph.length H ws vs -> Vals vs us -> mapO (dat ph 40) ws = some ds →
  us.findIdx? (ansOf s dx) = ds.findIdx? fun d => PyData.eqv d dx
 | _, _, _, _, .nil, .nil, e => by cases e; rfl
 | w :: ws, _, _, ds, .cons h r, .cons hv rv, e => by
  unfold mapO at e
  split at e
  ·rename_i b bs e1 e2
   cases e
   have q := dat_reads I hH 40 h hv e1
   rw [List.findIdx?_cons, List.findIdx?_cons, ans_ix I hH r rv e2, ansOf_eq q]
  ·cases e
theorem isL_lst {K : PySem.W.Frag} {φ : Nat -> Addr} {ph : PH} {H : Hp} {x : W} {v : V} {ws : List W} (hH : RelH K φ ph H) (r : RelW K φ ph.length H x v) (h : isL x ph = true) (e : seqW x ph = some ws) : ∃ a vs, v = .ref a /\ SqL K H a vs /\ RelWs K φ ph.length H ws vs := by
 unfold isL at h
 unfold seqW at e
 cases r with
 | fl hq r => cases e; exact ⟨_, _, rfl, hq.sq, r⟩
 | ref hi =>
  simp only at e
  split at e
  ·rename_i ws' hw
   cases e
   obtain ⟨vs, hv, r⟩ := hH.hp _ _ hw
   exact ⟨_, vs, rfl, SqL.of hv, r⟩
  ·cases e
 | _ => cases h
theorem mt_index {X : Cx} (hu : X.A.units + 64 < cLine) : MtR X "list.index" (rIndex X.K) := by
 intro pins s σ H x xs v us Q I rx rv h
 obtain ⟨φ, ph, wx, wy, y, j, rfl, hH, r1, r2, e, q⟩ := h
 obtain ⟨u, rfl, ru⟩ := rv.one
 unfold ixD at e
 split at e
 ·rename_i ws dy hs hd
  have hL : isL wx ph = true := by
   cases z : isL wx ph with
   | true => rfl
   | false => rw [z, if_neg Bool.false_ne_true] at hs; cases hs
  rw [if_pos hL] at hs
  obtain ⟨ds, e1, e2⟩ := Option.bind_eq_some_iff.mp e
  obtain ⟨a, vs, rfl, hq, rs⟩ := isL_lst hH r1 hL hs
  cases rx
  obtain ⟨its, rvs, ⟨o, n, ho, hc, hdn, hdt⟩, hz⟩ := I.list hq
  obtain ⟨oc, od, odt, osl⟩ := o
  cases (show oc = _ from hc)
  cases (show odt = _ from hdt)
  obtain ⟨⟨as, k1⟩, c1, l1⟩ := dat_reads I hH 40 r2 ru hd
  have q2 := (ans_all I hH (dx := dy) rs rvs e1).2
  rw [<- ans_ix I hH rs rvs e1, List.findIdx?_eq_some_iff_getElem] at e2
  obtain ⟨hj, hit, hno⟩ := e2
  have hlen : its.length <= sizeLine := by rw [<- rvs.length]; exact hz
  refine call_meets F.slot_list_index ⟨_, ho, rfl⟩ F.entry_list_index (F.args_list_index_2 _ _) (SeqAt.list_indexAt a its.toArray n od osl u (ansOf s dy) j (by simpa using hj) ?_ (by simpa using hit) fun m hm hmj => ?_) ⟨ho, fun z hz' => ?_, .int _, H, I.tok _, ⟨_, rfl⟩, q⟩
  ·have : (j : Int) < its.length := by exact_mod_cast hj
   have h2 : ((its.length : Nat) : Int) <= (sizeLine : Nat) := by exact_mod_cast hlen
   have h3 : ((sizeLine : Nat) : Int) <= 2 ^ 62 := by rw [sizeLine_eq]; decide
   omega
  ·have := hno m hmj
   simpa using this
  ·obtain ⟨d, hd'⟩ := q2 z (by simpa using hz')
   rw [ansOf_eq hd']
   obtain ⟨⟨bs, k2⟩, c2, l2⟩ := hd'
   intro prog w E Q hQ
   exact SeqAt.eqBoolOverData prog w _ E s z u d dy bs as Q k2 k1 c2 c1 (by show X.A.units + 1 + _ < _; omega) hQ
 ·cases e
theorem indexW_i {K : PySem.W.Frag} : MtI K "list" (rIndex K) indexW := by
 intro φ ph H x xs vx vs w ph' Q hH rx rs e k
 unfold indexW at e
 split at e
 ·obtain ⟨j, e1, e2⟩ := Option.map_eq_some_iff.mp e
  cases e2
  cases rs with
  | cons r0 r1 =>
   cases r1
   exact ⟨φ, ph, x, _, _, j, rfl, hH, rx, r0, e1, k φ H _ hH Step.refl (.int _)⟩
 ·cases e
theorem fun_ilT {P : Program} {w : World} {K : PySem.W.Frag} {mg : Str -> Option Value} {base : Heap} {x qual : Str} {st : Stmt} {f : Addr} {fd : FuncData} {N ps : List Str} {k n np : Nat} {body : SM} (hn : N.length = n) (hp : ps.length = np) (F : Fun K x qual st f fd) (S : FnScope N ps (defScope st))
  (hbody : ∀ {X : Cx}, X.prog = P -> X.w = w -> X.K = K -> X.mg = mg -> X.base = base -> Bd X N (defScope st) k -> TopF X -> X.env.scope = defScope st -> JB X (defBody st) body) : FnOk P w K mg base (CXW P w) (k + 1) f fd ps (spM K mg np (fM body n np)) := by
 subst hn hp
 exact fun_il F S fun cdv A outer s H E hr => (hbody (X := cxOf (CXW P w) P w K mg base N qual (defScope st) f cdv A outer s H E) rfl rfl rfl rfl rfl ⟨⟨⟨rfl, fun _ z => z, fun _ z => z, fun _ z => z, fun _ _ => .inl rfl, S.nd⟩, rfl, hr⟩, PassesOwn.leaving⟩ ⟨rfl, rfl, rfl⟩ rfl).h
end IL
namespace IL
open PySem PySem.Spec PyProof.Rows L2
def spT (K : PySem.W.Frag) : Sp := fun vs H Q _ => ∃ (a : Addr) (ns : List Int), vs = [.ref a] /\ ns.length <= 63 /\ Only H /\ SqL K H a (ns.map V.int) /\ ∀ H', Q (.bl true) H'
theorem spT_imp {K : PySem.W.Frag} {mg : Str -> Option Value} {fm : List W -> Mo W} (good : ∀ ns : List Int, ns.length <= 63 -> ∃ ph', fm [.fl (ns.map W.int)] [] = .ok (.bl true) ph') {vs : List V} {H : Hp} {Q : VK} {E : XK} (h : spT K vs H Q E) : spM K mg 1 fm vs H Q E := by
 obtain ⟨a, ns, rfl, hl, hO, hS, q⟩ := h
 obtain ⟨h1, φ, ph, args, h2, h3, h4⟩ := law_sp (mg := mg) hO hS (good ns hl)
 refine ⟨h1, φ, ph, args, h2, h3, ?_⟩
 cases e : fm args ph with
 | ok w ph' =>
  rw [e] at h4
  intro φ' H' v r1 r2 r3
  have := h4 φ' H' v r1 r2 r3
  subst this
  exact q H'
 | ex x ph' =>
  rw [e] at h4
  exact fun φ' H' C r1 r2 r3 r4 => (h4 φ' H' C r1 r2 r3 r4).elim
 | no => rw [e] at h4; exact h4
theorem walk_il {l : PySem.W.OpenLaw} {q : Program} {loose : List Str} {XP : (Str -> Option Value) -> Heap -> Prop} {YP : World -> Heap -> Prop} {d : DefRec} {K : Params -> PySem.W.Frag} {x : Str} {fm : List W -> Mo W} (k : Nat)
  (good : ∀ ns : List Int, ns.length <= 63 -> ∃ ph', fm [.fl (ns.map W.int)] [] = .ok (.bl true) ph') (hn : l.most = some 63) (hdf : d.params.defaults = []) (hr : Room k callerA) (hY : ∀ (w : World) (h : Heap), YP w h -> (K w.params).In h)
  (F : ∀ (w : World) (mg : Str -> Option Value) (fa : Addr) (h : Heap), (K w.params).In h -> h.Ns mainGlobals mg -> mg d.name = some (.ref fa) →
   ∃ fd : FuncData, (∀ (s : Shared) (u : Value), BindsTo s fd ⟨[u], []⟩ [(x, u)]) /\ ∀ base : Heap, (K w.params).In base -> base.Ns mainGlobals mg -> FnOk l.prog w (K w.params) mg base (CXW l.prog w) k fa fd [x] (spM (K w.params) mg 1 fm)) :
  PySem.W.WalkO q loose XP YP l.row.toRowW d [] (fun f vs => PySem.call f vs) :=
 L2.walk_of (n := 63) (k := k) (x := x) (CX := fun w => CXW l.prog w) (sp := fun w => spT (K w.params)) hn (by decide) hdf hr hY
  (fun w mg fa h KX G hm => let ⟨fd, b, f⟩ := F w mg fa h KX G hm; ⟨fd, b, fun base i g => FnOk.imp (f base i g) fun _ _ _ _ z => spT_imp good z⟩)
  (fun w H a ns hl hO hS => ⟨a, ns, rfl, hl, hO, hS, fun _ => rfl⟩) fun w H s e s' ⟨_, _, _, z⟩ => z
end IL
namespace IL
open PySem PySem.Spec PyProof.Rows L2
def blW : W -> Option Bool
 | .bl b => some b
 | _ => none
def blsW (w : W) (ph : PH) : Option (List Bool) := if isL w ph = true then (seqW w ph).bind (mapO blW) else none
def anyW : List W -> Po W := fun xs ph => match xs with
 | [w] => (blsW w ph).map fun bs => (.bl (bs.any id), ph)
 | _ => none
section
variable {X : Cx}
theorem rng_any (bs : List Bool) : ((List.range bs.length).any fun i => (bs[i]?).getD false) = bs.any id := by
 rw [Bool.eq_iff_iff, List.any_eq_true, List.any_eq_true]
 constructor
 ·rintro ⟨i, hi, e⟩
  have hi := List.mem_range.mp hi
  simp only [List.getElem?_eq_getElem hi, Option.getD_some] at e
  exact ⟨_, List.getElem_mem hi, e⟩
 ·rintro ⟨b, hb, e⟩
  obtain ⟨i, hi, q⟩ := List.getElem_of_mem hb
  exact ⟨i, List.mem_range.mpr hi, by simp only [List.getElem?_eq_getElem hi, Option.getD_some, q]; exact e⟩
theorem rng_all (bs : List Bool) : ((List.range bs.length).all fun i => (bs[i]?).getD true) = bs.all id := by
 rw [Bool.eq_iff_iff, List.all_eq_true, List.all_eq_true]
 constructor
 ·intro h b hb
  obtain ⟨i, hi, q⟩ := List.getElem_of_mem hb
  have := h i (List.mem_range.mpr hi)
  simp only [List.getElem?_eq_getElem hi, Option.getD_some, q] at this
  exact this
 ·intro h i hi
  have hi := List.mem_range.mp hi
  simp only [List.getElem?_eq_getElem hi, Option.getD_some]
  exact h _ (List.getElem_mem hi)
theorem kept_new {h h' : Heap} {o : Obj} (hk : ∀ b x, b ∉ [h.objs.size] -> (h.push o).get? b = some x -> h'.get? b = some x) : ∀ b x, h.get? b = some x -> h'.get? b = some x :=
 fun b x e => hk b x (fun hm => by rw [List.mem_singleton.mp hm] at e; exact Nat.lt_irrefl _ (Heap.lt_size e)) (Heap.get?_push_of_some _ e)
theorem call_any_l (hc : X.calm = true) : CallR X (.builtin "any") (fun xs H Q => ∃ p, ∃ bs : List Bool, xs = [.ref p] /\ SqL X.K H p (bs.map V.bl) /\ Q (.bl (bs.any id)) H) := by
 intro pins s σ H xs us Q I r h
 obtain ⟨p, bs, rfl, hq, q⟩ := h
 obtain ⟨u, rfl, rx⟩ := vals1 r
 cases rx
 obtain ⟨its, r', pl, hz⟩ := I.list hq
 have hlen := r'.length
 rw [List.length_map] at hlen
 have hlt : p < s.heap.objs.size := by obtain ⟨_, e, _⟩ := pl.isList; exact Heap.lt_size e
 refine call_any_walk (wpAny_pyIter_list pl.isList ?_)
 refine ⟨s.heap.objs.size, [s.heap.objs.size, p], [s.heap.objs.size], its.toArray.size, _, _, fun i => (bs[i]?).getD false, rfl, Walks.list (A := X.A.in1) (I.ok.hd hc) _ p (Nat.ne_of_lt hlt) its.toArray,
  ⟨⟨_, Heap.get?_push_size _ rfl, rfl, rfl⟩, pl.isList.push _⟩, fun i v s' Q' E' hP hQ => ?_, fun h' tk hk => ?_⟩
 ·have hP : its[i]? = some v := by simpa using hP
  have hi : i < bs.length := by rw [hlen]; exact (List.getElem?_eq_some_iff.mp hP).1
  obtain ⟨u, hu, ru⟩ := r'.get (i := i) (x := .bl bs[i]) (by simp [hi])
  rw [hP] at hu; cases hu
  have ru : v = .bool bs[i] := ru
  subst ru
  simp only [List.getElem?_eq_getElem hi, Option.getD_some] at hQ
  exact wpAny_truthy_bool hQ
 ·rw [List.size_toArray, <- hlen, rng_any]
  exact ⟨.bl _, H, I.kept (kept_new hk), rfl, q⟩
theorem bls_rel {K : PySem.W.Frag} {φ : Nat -> Addr} {n : Nat} {H : Hp} : ∀ {ws : List W} {vs : List V} {bs : List Bool}, RelWs K φ n H ws vs -> mapO blW ws = some bs -> vs = bs.map V.bl
 | _, _, _, .nil, e => by cases e; rfl
 | w :: ws, _, bs, .cons h r, e => by
  unfold mapO at e
  split at e
  ·rename_i b bs' e1 e2
   cases e
   have q := bls_rel r e2
   unfold blW at e1
   cases h <;> cases e1
   rw [q]; rfl
  ·cases e
theorem blsW_rel {K : PySem.W.Frag} {φ : Nat -> Addr} {ph : PH} {H : Hp} {w : W} {v : V} {bs : List Bool} (hH : RelH K φ ph H) (r : RelW K φ ph.length H w v) (e : blsW w ph = some bs) : ∃ p, v = .ref p /\ SqL K H p (bs.map V.bl) := by
 unfold blsW at e
 split at e
 ·rename_i hL
  cases r with
  | ref hi =>
   unfold isL at hL
   simp only at hL
   split at hL
   ·rename_i ws hw
    obtain ⟨vs, hv, rs⟩ := hH.hp _ _ hw
    simp only [seqW, hw, Option.bind_some] at e
    rw [bls_rel rs e] at hv
    exact ⟨_, rfl, SqL.of hv⟩
   ·cases hL
  | fl h rs =>
   simp only [seqW, Option.bind_some] at e
   have q := bls_rel rs e
   subst q
   exact ⟨_, rfl, h.sq⟩
  | _ => cases hL
 ·cases e
theorem anyW_i {K : PySem.W.Frag} : CallI K (fun xs H Q => ∃ p, ∃ bs : List Bool, xs = [.ref p] /\ SqL K H p (bs.map V.bl) /\ Q (.bl (bs.any id)) H) anyW := by
 intro φ ph H xs vs w ph' Q hH r e k
 unfold anyW at e
 split at e
 ·rename_i x
  cases q : blsW x ph with
  | none => rw [q] at e; cases e
  | some bs =>
   rw [q] at e
   cases e
   cases r with
   | cons r r' =>
    cases r'
    obtain ⟨p, rfl, hs⟩ := blsW_rel hH r q
    exact ⟨p, bs, rfl, hs, k φ H _ hH Step.refl (.bl _)⟩
 ·cases e
end
def extendW : W -> List W -> Po W := fun x xs ph => match x, xs with
 | .ref i, [.ref j] => match ph[i]?, ph[j]? with
  | some (.lst ws), some (.lst us) => if ws.length + us.length <= sizeLine then some (.non, ph.set i (.lst (ws ++ us))) else none
  | _, _ => none
 | _, _ => none
theorem extendW_i {K : PySem.W.Frag} : MtI K "list" rExtend extendW := by
 intro φ ph H x xs vx vs w ph' Q hH rx rs e k
 unfold extendW at e
 split at e
 ·rename_i i j
  split at e
  ·rename_i ws us hw hu
   split at e
   ·rename_i hz
    cases e
    cases rx with
    | ref hi =>
     cases rs with
     | cons ry rr =>
      cases rr
      cases ry with
      | ref hj =>
       obtain ⟨xs, hv, r⟩ := hH.hp _ _ hw
       obtain ⟨ys, hv', r'⟩ := hH.hp _ _ hu
       obtain ⟨q1, q2⟩ := put_list hH hw (r.append r')
       exact ⟨_, _, xs, ys, rfl, rfl, hv, hv', by rw [<- r.length, <- r'.length]; exact hz, k φ _ _ q1 q2 .non⟩
   ·cases e
  ·cases e
 ·cases e
def bothI (w : W) : Po (List W × (PH -> Bool)) := fun ph => match w with
 | .tup ws => some ((ws, fun _ => true), ph)
 | w => seqI w ph
def iBoth (m : EM) : IM := fun σ => bnd (m σ) fun w => lift (bothI w)
theorem tI_or {X : Cx} {m : EM} {σ : L2.St} {H : Hp} {R : It -> Hp -> Prop} (h : tI X (iBoth m) σ H R) : tI X (iSeq m) σ H R \/ tI X (iTupM m) σ H R := by
 obtain ⟨φ, ph, ws, hH, hS, h⟩ := h
 unfold iBoth at h
 rw [run_bnd] at h
 cases q : m ws ph with
 | no => rw [q] at h; exact h.elim
 | ex x ph' =>
  refine .inl ⟨φ, ph, ws, hH, hS, ?_⟩
  unfold iSeq
  rw [run_bnd, q]
  rw [q] at h
  exact h
 | ok w ph' =>
  rw [q] at h
  have h : (lift (bothI w) ph').Run _ _ := h
  by_cases hw : ∃ us, w = .tup us
  ·obtain ⟨us, rfl⟩ := hw
   refine .inr ⟨φ, ph, ws, hH, hS, ?_⟩
   unfold iTupM
   rw [run_bnd, q]
   exact h
  ·refine .inl ⟨φ, ph, ws, hH, hS, ?_⟩
   unfold iSeq
   rw [run_bnd, q]
   have e : bothI w = seqI w := by
    funext p
    cases w <;> first | rfl | exact absurd ⟨_, rfl⟩ hw
   rw [e] at h
   exact h
theorem ji_both {X : Cx} {tg e : Expr} {m : EM} (hl : JE X e m) : JI X tg e (iBoth m) := ⟨by
 intro pins s σ H R I h
 rcases tI_or h with h | h
 ·exact ii_list hl.h pins s σ H R I h
 ·exact ii_tup hl.h pins s σ H R I h⟩
section
variable {X : Cx} {pins : List (Addr × Obj)} {σ : L2.St} {H : Hp} {s : Shared} {h' : Heap}
theorem turnedT {t' : Nat} {fp : List Addr} {T : Addr} {o : HO} (I : Inv X pins σ H s) (k : ∀ b u, b ∉ fp -> s.heap.get? b = some u -> h'.get? b = some u) (hf : ∀ b ∈ fp, FpOk X pins H b) (hp : s.heap.objs.size <= T)
  (new : ObjOk X.prog X.w (upd H T o) h' T o) : Inv X pins σ (upd H T o) { s with heap := h', toks := t' } := by
 have hn := I.hok.fresh hp
 have neT : ∀ b u, s.heap.get? b = some u -> b ≠ T := fun b u e => Nat.ne_of_lt (Nat.lt_of_lt_of_le (Heap.lt_size e) hp)
 have nit : ∀ b u, H b = some u -> b ∉ fp := fun b u e z => by rw [(hf b z).1] at e; cases e
 refine I.step (g' := s.gens) (d' := s.drawn) (ch := fp) (fun b hb => ?_) (fun b u _ _ hc e _ => k b u hc e) (fun b u _ _ hc e _ => ⟨u.slots, k b u hc e⟩) (fun b u _ e n => by rw [upd_ne (neT b u e)]; exact n)
  (fun b u hc e => ⟨u, k b u hc e⟩) (fun b xs e => by rw [upd_ne (ne_of_none e hn)]; exact e) (fun b u v e => by rw [upd_ne (ne_of_none e hn)]; exact e) (fun b ps e => ⟨#[], by rw [upd_ne (ne_of_none e hn), e]; simp⟩) (fun m hm => ?_) (fun b u e => ?_) I.bare
 ·obtain ⟨_, f1, _, f3, f4, f5⟩ := hf b hb
  exact ⟨f3, f1, f4, f5⟩
 ·obtain ⟨u, es, ep, ho, r⟩ := hm
  exact ⟨u, es, ep, k _ u (fun z => (hf _ z).2.1 rfl) ho, r⟩
 ·by_cases hb : b = T
  ·subst hb; rw [upd_same] at e; cases e; exact new
  ·rw [upd_ne hb] at e
   refine (I.hok b u e).stay (fun c v hc q => k c v ?_ q) (fun c q => by rw [upd_ne (ne_of_none q hn)]; exact q) fun c xs q => by rw [upd_ne (ne_of_none q hn)]; exact q
   rcases hc with z | z
   ·rw [z]; exact nit b u e
   ·exact nit c _ z
theorem turnedN {t' : Nat} {fp : List Addr} (I : Inv X pins σ H s) (k : ∀ b u, b ∉ fp -> s.heap.get? b = some u -> h'.get? b = some u) (hf : ∀ b ∈ fp, FpOk X pins H b) : Inv X pins σ H { s with heap := h', toks := t' } := by
 have nit : ∀ b u, H b = some u -> b ∉ fp := fun b u e z => by rw [(hf b z).1] at e; cases e
 refine I.step (g' := s.gens) (d' := s.drawn) (ch := fp) (fun b hb => ?_) (fun b u _ _ hc e _ => k b u hc e) (fun b u _ _ hc e _ => ⟨u.slots, k b u hc e⟩) (fun b u _ e n => n)
  (fun b u hc e => ⟨u, k b u hc e⟩) (fun b xs e => e) (fun b u v e => e) (fun b ps e => ⟨#[], by rw [e]; simp⟩) (fun m hm => ?_) (fun b u e => ?_) I.bare
 ·obtain ⟨_, f1, _, f3, f4, f5⟩ := hf b hb
  exact ⟨f3, f1, f4, f5⟩
 ·obtain ⟨u, es, ep, ho, r⟩ := hm
  exact ⟨u, es, ep, k _ u (fun z => (hf _ z).2.1 rfl) ho, r⟩
 ·refine (I.hok b u e).stay (fun c v hc q => k c v ?_ q) (fun _ q => q) fun _ _ q => q
  rcases hc with z | z
  ·rw [z]; exact nit b u e
  ·exact nit c _ z
end
theorem swaps_yes {env : Env} {e : Expr} {gens : List Comprehension} {scope : Scope} {p pos' : Pos} {x : Str} {line : Nat} (hk : env.scope.kind = .function) (hx : env.scope.names.lookup x = some .local) (hl : (pos'.line == p.line) = true)
  (hn : (scope.names.any fun y => y.1 == x && (y.2 == .local || y.2 == .cell)) = false) : swapsWith (.ListComp e gens scope p) (some (.Name x pos')) line env = pure true := by
 have e1 : (env.kindOf x == some .local) = true := by unfold Env.kindOf; rw [hx]; rfl
 have e2 : (env.blockKind == .function) = true := by unfold Env.blockKind; rw [hk]; rfl
 show pure (env.blockKind == .function && env.kindOf x == some .local && pos'.line == p.line && !(scope.names.any fun y => y.1 == x && (y.2 == .local || y.2 == .cell))) = _
 rw [e1, e2, hl, hn]
 rfl
end IL
namespace IL
open PySem PySem.Spec PyProof.Rows L2
def newD : Po W := fun ph => some (.ref ph.length, ph ++ [.dct []])
def eDct : EM := fun _ => lift newD
theorem new_dict {K : PySem.W.Frag} {φ : Nat -> Addr} {ph : PH} {H : Hp} {p : Addr} (hH : RelH K φ ph H) (hp : H p = none) :
  RelH K (ext φ ph.length p) (ph ++ [.dct []]) (upd H p (.dK [])) /\ Step K φ ph.length H (ext φ ph.length p) (ph ++ [PO.dct []]).length (upd H p (.dK [])) /\ RelW K (ext φ ph.length p) (ph ++ [PO.dct []]).length (upd H p (.dK [])) (.ref ph.length) (.ref p) := by
 have hl : (ph ++ [PO.dct []]).length = ph.length + 1 := by simp
 rw [hl]
 have s := step_new (K := K) (φ := φ) (n := ph.length) (o := HO.dK []) hp
 refine ⟨hH.new hp (.inl ⟨[], upd_same, .nil⟩), s, ?_⟩
 have q : RelW K (ext φ ph.length p) (ph.length + 1) (upd H p (.dK [])) (.ref ph.length) (.ref (ext φ ph.length p ph.length)) := .ref (Nat.lt_succ_self _)
 rw [ext_eq] at q
 exact q
theorem je_dct {X : Cx} {pos : Pos} : JE X (.Dict [] [] pos) eDct := ⟨PE.imp pe_dnewK fun σ H Q h p hp => by
 obtain ⟨φ, ph, ws, hH, hS, h⟩ := h
 obtain ⟨w, ph', e, k⟩ := run_lift h
 cases e
 obtain ⟨q1, q2, q3⟩ := new_dict hH hp
 exact k _ _ _ q1 q2 q3⟩
theorem keyW_inj {a b : Key} (h : keyW a = keyW b) : a = b := by
 cases a <;> cases b <;> simp_all [keyW]
theorem keyWs_inj : ∀ {a b : List Key}, a.map keyW = b.map keyW -> a = b
 | [], [], _ => rfl
 | [], _ :: _, e => by simp at e
 | _ :: _, [], e => by simp at e
 | x :: xs, y :: ys, e => by
  rw [List.map_cons, List.map_cons] at e
  injection e with e1 e2
  rw [keyW_inj e1, keyWs_inj e2]
def keyK : W -> Option Key
 | .int i => some (.inl i)
 | .str x => some (.inr x)
 | _ => none
def keyT : W -> Option (List Key)
 | .tup ws => mapO keyK ws
 | _ => none
theorem keyK_eq {w : W} {k : Key} (h : keyK w = some k) : w = keyW k := by
 cases w <;> simp only [keyK] at h <;> first | (cases h; done) | (cases h; rfl)
theorem keyKs_eq : ∀ {ws : List W} {ks : List Key}, mapO keyK ws = some ks -> ws = ks.map keyW
 | [], ks, h => by cases h; rfl
 | w :: ws, ks, h => by
  unfold mapO at h
  split at h
  ·rename_i b bs e1 e2
   cases h
   rw [keyK_eq e1, keyKs_eq e2]; rfl
  ·cases h
theorem keyT_eq {w : W} {ks : List Key} (h : keyT w = some ks) : w = .tup (ks.map keyW) := by
 cases w <;> simp only [keyT] at h <;> first | (cases h; done) | rw [keyKs_eq h]
theorem key_v {K : PySem.W.Frag} {φ : Nat -> Addr} {n : Nat} {H : Hp} {k : Key} {v : V} (r : RelW K φ n H (keyW k) v) : v = kV k := by
 cases k with
 | inl i => cases r; rfl
 | inr x => cases r; rfl
theorem keys_v {K : PySem.W.Frag} {φ : Nat -> Addr} {n : Nat} {H : Hp} : ∀ {ks : List Key} {vs : List V}, RelWs K φ n H (ks.map keyW) vs -> vs = ks.map kV
 | [], _, r => by cases r; rfl
 | k :: ks, _, r => by
  cases r with
  | cons h r => rw [key_v h, keys_v r]; rfl
theorem keyt_v {K : PySem.W.Frag} {φ : Nat -> Addr} {n : Nat} {H : Hp} {ks : List Key} {v : V} (r : RelW K φ n H (.tup (ks.map keyW)) v) : ∃ b, v = .ref b /\ H b = some (.tup (ks.map kV)) := by
 cases r with
 | tup h r => rw [keys_v r] at h; exact ⟨_, rfl, h⟩
def dgetW (kws : List (W × W)) (k : W) : Option W := (kws.find? fun p => decide (p.1 = k)).map (·.2)
def dputW (kws : List (W × W)) (k w : W) : List (W × W) := if (kws.any fun p => decide (p.1 = k)) = true then kws.map (fun p => if p.1 = k then (p.1, w) else p) else kws ++ [(k, w)]
def ROpt (K : PySem.W.Frag) (φ : Nat -> Addr) (n : Nat) (H : Hp) : Option W -> Option V -> Prop
 | none, none => True
 | some w, some v => RelW K φ n H w v
 | _, _ => False
section
variable {K : PySem.W.Frag} {φ : Nat -> Addr} {n : Nat} {H : Hp}
theorem dec_eq {a b : Key} : decide (keyW a = keyW b) = decide (a = b) := by
 rw [decide_eq_decide]; exact ⟨keyW_inj, fun e => by rw [e]⟩
theorem decT_eq {a b : List Key} : decide (W.tup (a.map keyW) = W.tup (b.map keyW)) = decide (a = b) := by
 rw [decide_eq_decide]; exact ⟨fun e => keyWs_inj (W.tup.inj e), fun e => by rw [e]⟩
theorem RelD.val (k : Key) : ∀ {kws : List (W × W)} {kvs : List (Key × V)}, RelD K φ n H kws kvs -> ROpt K φ n H (dgetW kws (keyW k)) (valV kvs k)
 | _, _, .nil => trivial
 | _, _, .cons (k := j) (w := w) (v := v) h r => by
  unfold dgetW
  rw [List.find?_cons]
  by_cases e : j = k
  ·rw [decide_eq_true (congrArg keyW e), valV_pos (p := (j, v)) e]; exact h
  ·rw [decide_eq_false (fun z => e (keyW_inj z)), valV_neg (p := (j, v)) e]
   exact RelD.val k r
theorem RelT.val (k : List Key) : ∀ {kws : List (W × W)} {kvs : List (List Key × V)}, RelT K φ n H kws kvs -> ROpt K φ n H (dgetW kws (.tup (k.map keyW))) (valV kvs k)
 | _, _, .nil => trivial
 | _, _, .cons (k := j) (w := w) (v := v) h r => by
  unfold dgetW
  rw [List.find?_cons]
  by_cases e : j = k
  ·rw [decide_eq_true (by rw [e]), valV_pos (p := (j, v)) e]; exact h
  ·rw [decide_eq_false (fun z => e (keyWs_inj (W.tup.inj z))), valV_neg (p := (j, v)) e]
   exact RelT.val k r
theorem RelD.len : ∀ {kws : List (W × W)} {kvs : List (Key × V)}, RelD K φ n H kws kvs -> kws.length = kvs.length
 | _, _, .nil => rfl
 | _, _, .cons _ r => by rw [List.length_cons, List.length_cons, RelD.len r]
theorem RelT.len : ∀ {kws : List (W × W)} {kvs : List (List Key × V)}, RelT K φ n H kws kvs -> kws.length = kvs.length
 | _, _, .nil => rfl
 | _, _, .cons _ r => by rw [List.length_cons, List.length_cons, RelT.len r]
theorem RelD.any (k : Key) : ∀ {kws : List (W × W)} {kvs : List (Key × V)}, RelD K φ n H kws kvs -> (kws.any fun p => decide (p.1 = keyW k)) = kvs.any fun p => decide (p.1 = k)
 | _, _, .nil => rfl
 | _, _, .cons (k := j) _ r => by
  rw [List.any_cons, List.any_cons, RelD.any k r]
  show (decide (keyW j = keyW k) || _) = (decide (j = k) || _)
  rw [dec_eq]
theorem RelT.any (k : List Key) : ∀ {kws : List (W × W)} {kvs : List (List Key × V)}, RelT K φ n H kws kvs -> (kws.any fun p => decide (p.1 = .tup (k.map keyW))) = kvs.any fun p => decide (p.1 = k)
 | _, _, .nil => rfl
 | _, _, .cons (k := j) _ r => by
  rw [List.any_cons, List.any_cons, RelT.any k r]
  show (decide (W.tup (j.map keyW) = W.tup (k.map keyW)) || _) = (decide (j = k) || _)
  rw [decT_eq]
theorem RelD.repl (k : Key) {w : W} {v : V} (q : RelW K φ n H w v) : ∀ {kws : List (W × W)} {kvs : List (Key × V)}, RelD K φ n H kws kvs -> RelD K φ n H (kws.map fun p => if p.1 = keyW k then (p.1, w) else p) (kvs.map fun p => if p.1 = k then (p.1, v) else p)
 | _, _, .nil => .nil
 | _, _, .cons (k := j) h r => by
  rw [List.map_cons, List.map_cons]
  by_cases e : j = k
  ·rw [if_pos (show keyW j = keyW k by rw [e]), if_pos (show j = k from e)]; exact .cons q (RelD.repl k q r)
  ·rw [if_neg (show ¬ keyW j = keyW k from fun z => e (keyW_inj z)), if_neg (show ¬ j = k from e)]; exact .cons h (RelD.repl k q r)
theorem RelT.repl (k : List Key) {w : W} {v : V} (q : RelW K φ n H w v) : ∀ {kws : List (W × W)} {kvs : List (List Key × V)}, RelT K φ n H kws kvs -> RelT K φ n H (kws.map fun p => if p.1 = .tup (k.map keyW) then (p.1, w) else p) (kvs.map fun p => if p.1 = k then (p.1, v) else p)
 | _, _, .nil => .nil
 | _, _, .cons (k := j) h r => by
  rw [List.map_cons, List.map_cons]
  by_cases e : j = k
  ·rw [if_pos (show W.tup (j.map keyW) = W.tup (k.map keyW) by rw [e]), if_pos (show j = k from e)]; exact .cons q (RelT.repl k q r)
  ·rw [if_neg (show ¬ W.tup (j.map keyW) = W.tup (k.map keyW) from fun z => e (keyWs_inj (W.tup.inj z))), if_neg (show ¬ j = k from e)]; exact .cons h (RelT.repl k q r)
theorem RelD.snoc (k : Key) {w : W} {v : V} (q : RelW K φ n H w v) : ∀ {kws : List (W × W)} {kvs : List (Key × V)}, RelD K φ n H kws kvs -> RelD K φ n H (kws ++ [(keyW k, w)]) (kvs ++ [(k, v)])
 | _, _, .nil => .cons q .nil
 | _, _, .cons h r => .cons h (RelD.snoc k q r)
theorem RelT.snoc (k : List Key) {w : W} {v : V} (q : RelW K φ n H w v) : ∀ {kws : List (W × W)} {kvs : List (List Key × V)}, RelT K φ n H kws kvs -> RelT K φ n H (kws ++ [(.tup (k.map keyW), w)]) (kvs ++ [(k, v)])
 | _, _, .nil => .cons q .nil
 | _, _, .cons h r => .cons h (RelT.snoc k q r)
theorem RelD.put (k : Key) {w : W} {v : V} (q : RelW K φ n H w v) {kws : List (W × W)} {kvs : List (Key × V)} (r : RelD K φ n H kws kvs) : RelD K φ n H (dputW kws (keyW k) w) (putK kvs k v) := by
 unfold dputW putK
 rw [r.any k]
 by_cases e : (kvs.any fun kv => decide (kv.1 = k)) = true
 ·rw [if_pos e, if_pos e]; exact r.repl k q
 ·rw [if_neg e, if_neg e]; exact r.snoc k q
theorem RelT.put (k : List Key) {w : W} {v : V} (q : RelW K φ n H w v) {kws : List (W × W)} {kvs : List (List Key × V)} (r : RelT K φ n H kws kvs) : RelT K φ n H (dputW kws (.tup (k.map keyW)) w) (putK kvs k v) := by
 unfold dputW putK
 rw [r.any k]
 by_cases e : (kvs.any fun kv => decide (kv.1 = k)) = true
 ·rw [if_pos e, if_pos e]; exact r.repl k q
 ·rw [if_neg e, if_neg e]; exact r.snoc k q
end
section
variable {X : Cx} {pins : List (Addr × Obj)} {σ : L2.St} {H : Hp} {s : Shared} {a : Addr}
theorem inv_kt (I : Inv X pins σ H s) (e : H a = some (.dK [])) : Inv X pins σ (upd H a (.dT [])) s := by
 obtain ⟨z, hd, vs, rel, o, es, ep, h1, h2, h3, h4, h5, h6⟩ := dk_of I.hok e
 cases rel
 have he : es.toList = [] := by
  generalize es.toList = l at h5
  cases h5; rfl
 exact I.write (x := a) (e := a) (h' := s.heap) (t' := s.toks) (o := .dT []) (by rw [e]; trivial) (.inl rfl) (fun _ _ _ q => q) ⟨o, h1⟩ ⟨Nat.zero_le _, hd, [], .nil, o, es, ep, h1, h2, h3, by rw [he]; rfl, List.nodup_nil⟩
theorem inv_tk (I : Inv X pins σ H s) (e : H a = some (.dT [])) : Inv X pins σ (upd H a (.dK [])) s := by
 obtain ⟨z, hd, xs, rel, o, es, ep, h1, h2, h3, h4, h5, h6⟩ := dt_of I.hok e
 cases rel
 have he : es = #[] := by
  have : es.toList = [] := h4
  simpa using this
 subst he
 exact I.write (x := a) (e := a) (h' := s.heap) (t' := s.toks) (o := .dK []) (by rw [e]; trivial) (.inl rfl) (fun _ _ _ q => q) ⟨o, h1⟩ ⟨Nat.zero_le _, hd, [], .nil, o, #[], ep, h1, h2, h3, fun x hx => by simp at hx, .nil, List.nodup_nil⟩
theorem upd_back {o u : HO} (e : H a = some o) : upd (upd H a u) a o = H := by
 rw [upd_upd]
 funext b
 unfold upd
 split
 ·rename_i q; rw [q, e]
 ·rfl
end
def DGetE (H : Hp) (a : Addr) (y : V) (o : Option V) : Prop := DGet H a y o \/ (o = none /\ ((H a = some (.dK []) /\ ∃ (k : List Key) (b : Addr), y = .ref b /\ H b = some (.tup (k.map kV))) \/ (H a = some (.dT []) /\ ∃ k : Key, y = kV k)))
def DPutE (H : Hp) (a : Addr) (y v : V) (H' : Hp) : Prop := DPut H a y v H' \/ (H a = some (.dK []) /\ ∃ (k : List Key) (b : Addr), y = .ref b /\ H b = some (.tup (k.map kV)) /\ H' = upd H a (.dT [(k, v)])) \/ (H a = some (.dT []) /\ ∃ k : Key, y = kV k /\ H' = upd H a (.dK [(k, v)]))
section
variable {X : Cx}
theorem op_din (hu : X.A.units + 1 < cLine) : OpR X (compareOp .In) (fun y x H Q => ∃ a o, x = .ref a /\ DGetE H a y o /\ Q (.bl o.isSome) H) := by
 intro pins s σ H y x u v Q I ry rx h
 obtain ⟨a, o, rfl, g, q⟩ := h
 cases rx
 rcases g with g | ⟨rfl, ⟨e, k, b, ey, eb⟩ | ⟨e, k, ey⟩⟩
 ·exact d_in hu I g ry fun s3 I3 => ⟨.bl o.isSome, H, I3, rfl, q⟩
 ·subst ey
  have g : DGet (upd H a (.dT [])) a (.ref b) none := .inr ⟨[], k, b, .inl upd_same, rfl, by rw [upd_ne (ne_of eb e (fun z => nomatch z))]; exact eb, rfl⟩
  exact d_in hu (inv_kt I e) g ry fun s3 I3 => ⟨.bl false, H, by have := inv_tk I3 upd_same; rwa [upd_back e] at this, rfl, q⟩
 ·subst ey
  have g : DGet (upd H a (.dK [])) a (kV k) none := .inl ⟨[], k, .inl upd_same, rfl, rfl⟩
  exact d_in hu (inv_tk I e) g ry fun s3 I3 => ⟨.bl false, H, by have := inv_kt I3 upd_same; rwa [upd_back e] at this, rfl, q⟩
theorem set_dict (hu : X.A.units + 1 < cLine) : PSet X (fun o i v H Q => ∃ a H', o = .ref a /\ DPutE H a i v H' /\ Q H') := by
 intro pins s σ H o i v ov iv u Q I ro ri rv h
 obtain ⟨a, H', rfl, g, q⟩ := h
 cases ro
 rcases g with g | ⟨e, k, b, ey, eb, eH⟩ | ⟨e, k, ey, eH⟩
 ·exact d_setItem hu I g ri rv fun s3 I3 => ⟨H', I3, q⟩
 ·subst ey eH
  have g : DPut (upd H a (.dT [])) a (.ref b) v (upd (upd H a (.dT [])) a (.dT (putK [] k v))) := .inr ⟨[], k, b, upd_same, rfl, by rw [upd_ne (ne_of eb e (fun z => nomatch z))]; exact eb, by decide, rfl⟩
  refine d_setItem hu (inv_kt I e) g ri rv fun s3 I3 => ⟨_, ?_, q⟩
  rw [upd_upd] at I3
  exact I3
 ·subst ey eH
  have g : DPut (upd H a (.dK [])) a (kV k) v (upd (upd H a (.dK [])) a (.dK (putK [] k v))) := .inl ⟨[], k, upd_same, rfl, by decide, rfl⟩
  refine d_setItem hu (inv_tk I e) g ri rv fun s3 I3 => ⟨_, ?_, q⟩
  rw [upd_upd] at I3
  exact I3
theorem ix_dict (hu : X.A.units + 1 < cLine) : IxR X (fun x y H Q => ∃ a v, x = .ref a /\ DGet H a y (some v) /\ Q v H) := by
 intro value slice pins s σ H x y v u Q I rx ry h hs
 obtain ⟨a, w, rfl, g, q⟩ := h
 cases rx
 have hT := dict_typeIs I g
 unfold subscriptTail
 refine wpAny_bind ?_
 rw [getitemInPython_of_ne hT.not_modules]
 refine wpAny_bind (wpAny_specialOf hT PySem.F.slot_dict_getitem.lookup ?_)
 have fin : wpAny (model X.prog X.w) X.A (subscripted slice false (.ref a) u) (fun r s₃ => wpAny (model X.prog X.w) X.A (letTemporaryGo value (.ref a) r >>= fun _ => pure r) (EP X pins σ Q) X.xe s₃) X.xe s := by
  rw [hs]
  exact wpAny_operating (d_getItem hu I g ry fun w' s3 I3 rw' => wpAny_bind (wpAny_letTemporaryGo (wpAny_pure ⟨w, H, I3, rw', q⟩)))
 first
  | exact wpAny_pure (wpAny_bind fin)
  | exact wpAny_bind (wpAny_pure (wpAny_bind fin))
  | exact wpAny_bind fin
end
def isT : W -> Bool
 | .tup _ => true
 | _ => false
def okKey (kws : List (W × W)) (x : W) : Bool := ((keyK x).isSome && kws.all fun p => !isT p.1) || ((keyT x).isSome && kws.all fun p => isT p.1)
def dctAt (y : W) (ph : PH) : Option (Nat × List (W × W)) := match y with
 | .ref i => match ph[i]? with
  | some (.dct kws) => some (i, kws)
  | _ => none
 | _ => none
section
variable {K : PySem.W.Frag} {φ : Nat -> Addr} {ph : PH} {H : Hp}
theorem RelD.noT {kws : List (W × W)} {kvs : List (Key × V)} {n : Nat} (r : RelD K φ n H kws kvs) (h : kws.all (fun p => isT p.1) = true) : kws = [] /\ kvs = [] := by
 cases r with
 | nil => exact ⟨rfl, rfl⟩
 | cons h' r =>
  rename_i k w v kws kvs
  rw [List.all_cons] at h
  have : isT (keyW k) = true := by simp only [Bool.and_eq_true] at h; exact h.1
  cases k <;> cases this
theorem RelT.allT {kws : List (W × W)} {kvs : List (List Key × V)} {n : Nat} (r : RelT K φ n H kws kvs) (h : kws.all (fun p => !isT p.1) = true) : kws = [] /\ kvs = [] := by
 cases r with
 | nil => exact ⟨rfl, rfl⟩
 | cons h' r =>
  rw [List.all_cons] at h
  have h := (Bool.and_eq_true _ _ ▸ h).1
  cases h
theorem dctAt_rel {y : W} {v : V} {i : Nat} {kws : List (W × W)} (hH : RelH K φ ph H) (r : RelW K φ ph.length H y v) (e : dctAt y ph = some (i, kws)) : y = .ref i /\ i < ph.length /\ ph[i]? = some (.dct kws) /\ v = .ref (φ i) := by
 unfold dctAt at e
 cases r with
 | ref hi =>
  simp only at e
  split at e
  ·rename_i kws' hw
   cases e
   exact ⟨rfl, hi, hw, rfl⟩
  ·cases e
 | _ => cases e
theorem dget_rel {i : Nat} {kws : List (W × W)} {x : W} {v : V} (hH : RelH K φ ph H) (hd : ph[i]? = some (.dct kws)) (r : RelW K φ ph.length H x v) (hk : okKey kws x = true) : ∃ o, DGetE H (φ i) v o /\ ROpt K φ ph.length H (dgetW kws x) o := by
 unfold okKey at hk
 rw [Bool.or_eq_true, Bool.and_eq_true, Bool.and_eq_true] at hk
 rcases hk with ⟨h1, h2⟩ | ⟨h1, h2⟩
 ·obtain ⟨k, hk⟩ := Option.isSome_iff_exists.mp h1
  have := keyK_eq hk
  subst this
  have := key_v r
  subst this
  rcases hH.hp _ _ hd with ⟨kvs, q, rd⟩ | ⟨kvs, q, rd⟩
  ·exact ⟨_, .inl (.inl ⟨kvs, k, .inl q, rfl, rfl⟩), rd.val k⟩
  ·obtain ⟨rfl, rfl⟩ := rd.allT h2
   exact ⟨none, .inr ⟨rfl, .inr ⟨q, k, rfl⟩⟩, trivial⟩
 ·obtain ⟨ks, hk⟩ := Option.isSome_iff_exists.mp h1
  have := keyT_eq hk
  subst this
  obtain ⟨b, rfl, hb⟩ := keyt_v r
  rcases hH.hp _ _ hd with ⟨kvs, q, rd⟩ | ⟨kvs, q, rd⟩
  ·obtain ⟨rfl, rfl⟩ := rd.noT h2
   exact ⟨none, .inr ⟨rfl, .inl ⟨q, ks, b, rfl, hb⟩⟩, trivial⟩
  ·exact ⟨_, .inl (.inr ⟨kvs, ks, b, .inl q, rfl, hb, rfl⟩), rd.val ks⟩
theorem dput_rel {i : Nat} {kws : List (W × W)} {x w : W} {v u : V} (hH : RelH K φ ph H) (hi : i < ph.length) (hd : ph[i]? = some (.dct kws)) (r : RelW K φ ph.length H x v) (rw : RelW K φ ph.length H w u) (hk : okKey kws x = true) (hz : kws.length < sizeLine) :
  ∃ H', DPutE H (φ i) v u H' /\ RelH K φ (ph.set i (.dct (dputW kws x w))) H' /\ Step K φ ph.length H φ (ph.set i (.dct (dputW kws x w))).length H' := by
 obtain ⟨y, ey, my⟩ := hH.mu hd rfl
 rw [List.length_set]
 unfold okKey at hk
 rw [Bool.or_eq_true, Bool.and_eq_true, Bool.and_eq_true] at hk
 rcases hk with ⟨h1, h2⟩ | ⟨h1, h2⟩
 ·obtain ⟨k, hk⟩ := Option.isSome_iff_exists.mp h1
  have := keyK_eq hk
  subst this
  have := key_v r
  subst this
  rcases hH.hp _ _ hd with ⟨kvs, q, rd⟩ | ⟨kvs, q, rd⟩
  ·have s := step_set (K := K) (φ := φ) (n := ph.length) (y := HO.dK (putK kvs k u)) ey my
   exact ⟨_, .inl (.inl ⟨kvs, k, q, rfl, by rw [<- rd.len]; exact hz, rfl⟩), hH.put hd rfl (.inl ⟨_, upd_same, (rd.put k rw).mono s⟩), s⟩
  ·obtain ⟨rfl, rfl⟩ := rd.allT h2
   have s := step_set (K := K) (φ := φ) (n := ph.length) (y := HO.dK [(k, u)]) ey my
   exact ⟨_, .inr (.inr ⟨q, k, rfl, rfl⟩), hH.put hd rfl (.inl ⟨_, upd_same, ((RelD.nil).put k rw).mono s⟩), s⟩
 ·obtain ⟨ks, hk⟩ := Option.isSome_iff_exists.mp h1
  have := keyT_eq hk
  subst this
  obtain ⟨b, rfl, hb⟩ := keyt_v r
  rcases hH.hp _ _ hd with ⟨kvs, q, rd⟩ | ⟨kvs, q, rd⟩
  ·obtain ⟨rfl, rfl⟩ := rd.noT h2
   have s := step_set (K := K) (φ := φ) (n := ph.length) (y := HO.dT [(ks, u)]) ey my
   exact ⟨_, .inr (.inl ⟨q, ks, b, rfl, hb, rfl⟩), hH.put hd rfl (.inr ⟨_, upd_same, ((RelT.nil).put ks rw).mono s⟩), s⟩
  ·have s := step_set (K := K) (φ := φ) (n := ph.length) (y := HO.dT (putK kvs ks u)) ey my
   exact ⟨_, .inl (.inr ⟨kvs, ks, b, q, rfl, hb, by rw [<- rd.len]; exact hz, rfl⟩), hH.put hd rfl (.inr ⟨_, upd_same, (rd.put ks rw).mono s⟩), s⟩
end
def inV : W -> W -> Po W := fun x y ph => match dctAt y ph with
 | some p => if okKey p.2 x = true then some (.bl (dgetW p.2 x).isSome, ph) else none
 | none => inW x y ph
def ninV : W -> W -> Po W := fun x y ph => match dctAt y ph with
 | some p => if okKey p.2 x = true then some (.bl (!(dgetW p.2 x).isSome), ph) else none
 | none => ninW x y ph
def ixV : W -> W -> Po W := fun x y ph => match dctAt x ph with
 | some p => if okKey p.2 y = true then (dgetW p.2 y).map fun w => (w, ph) else none
 | none => ixW x y ph
def setV (o i v : W) : Po Unit := fun ph => match dctAt o ph with
 | some p => if okKey p.2 i = true /\ p.2.length < sizeLine then some ((), ph.set p.1 (.dct (dputW p.2 i v))) else none
 | none => setW o i v ph
theorem ROpt.isSome {K : PySem.W.Frag} {φ : Nat -> Addr} {n : Nat} {H : Hp} {a : Option W} {b : Option V} (h : ROpt K φ n H a b) : a.isSome = b.isSome := by
 cases a <;> cases b <;> first | rfl | exact h.elim
theorem inV_i {K : PySem.W.Frag} : OpI K (fun x y H Q => rInD K (fun b => b) x y H Q \/ ∃ a o, y = .ref a /\ DGetE H a x o /\ Q (.bl o.isSome) H) inV := by
 intro φ ph H x y vx vy w ph' Q hH rx ry e k
 unfold inV at e
 split at e
 ·rename_i p hp
  obtain ⟨i, kws⟩ := p
  obtain ⟨rfl, hi, hd, rfl⟩ := dctAt_rel hH ry hp
  split at e
  ·rename_i hk
   cases e
   obtain ⟨o, g, ro⟩ := dget_rel hH hd rx hk
   exact .inr ⟨_, o, rfl, g, by rw [<- ro.isSome]; exact k φ H _ hH Step.refl (.bl _)⟩
  ·cases e
 ·exact .inl (inW_i hH rx ry e k)
theorem ixV_i {K : PySem.W.Frag} : OpI K (fun x y H Q => rIx K x y H Q \/ ∃ a v, x = .ref a /\ DGet H a y (some v) /\ Q v H) ixV := by
 intro φ ph H x y vx vy w ph' Q hH rx ry e k
 unfold ixV at e
 split at e
 ·rename_i p hp
  obtain ⟨i, kws⟩ := p
  obtain ⟨rfl, hi, hd, rfl⟩ := dctAt_rel hH rx hp
  split at e
  ·rename_i hk
   cases q : dgetW kws y with
   | none => rw [q] at e; cases e
   | some u =>
    rw [q] at e
    cases e
    obtain ⟨o, g, ro⟩ := dget_rel hH hd ry hk
    rw [q] at ro
    cases o with
    | none => exact ro.elim
    | some v =>
     rcases g with g | ⟨z, _⟩
     ·exact .inr ⟨_, v, rfl, g, k φ H _ hH Step.refl ro⟩
     ·cases z
  ·cases e
 ·exact .inl (ixW_i hH rx ry e k)
section
variable {X : Cx} {a b o i : Expr} {ma mb mo mi : EM} {pos : Pos} {N : List Str} {sc : Scope} {k : Nat}
theorem BdT.je_ixV (B : BdT X N sc k) (hp : PlainIx b) (ha : JE X a ma) (hb : JE X b mb) : JE X (.Subscript a b pos) (eOp ixV ma mb) :=
 ⟨PE.imp (pe_ix (IxR.or ix_seq (ix_dict (hu_of B.room))) ha.h hb.h hp) fun _ _ _ h => bin_imp ixV_i h⟩
theorem BdT.inV_ (B : BdT X N sc k) (h : behindInMarks .In b = false) : Cp X .In b inV := ⟨⟨_, OpR.or (op_inW B.room.units) (op_din (hu_of B.room)), inV_i⟩, h⟩
theorem PSet.or {t t' : TSet} (h : PSet X t) (h' : PSet X t') : PSet X (fun o i v H Q => t o i v H Q \/ t' o i v H Q) := by
 intro pins s σ H o i v ov iv u Q I ro ri rv q
 rcases q with q | q
 ·exact h pins s σ H o i v ov iv u Q I ro ri rv q
 ·exact h' pins s σ H o i v ov iv u Q I ro ri rv q
def gSubV (o i : EM) : GM := fun v σ => bnd (o σ) fun ow => bnd (i σ) fun iw => bnd (lift (setV ow iw v)) fun _ => pur σ
theorem BdT.jg_subV (B : BdT X N sc k) (ho : JE X o mo) (hi : JE X i mi) (ha : ∀ v, assign (.Subscript o i pos) X.env v = (do
   let ov <- holding [v] (eval o X.env)
   let iv <- holding [v, ov] (eval i X.env)
   standAt pos
   holding [v, ov, iv] (setItem ov iv v)
   release [v, ov, iv] []) := by intro _; rfl) : JG X (.Subscript o i pos) (gSubV mo mi) :=
 ⟨PG.imp (pg_sub ho.h hi.h (PSet.or set_list (set_dict (hu_of B.room))) ha) fun v σ H Q h => by
  obtain ⟨φ, ph, ws, w, hH, hS, rv, h⟩ := h
  refine tM.bind hH hS h fun ow ph1 φ1 H1 vo hH1 s1 ro h => tM.bind hH1 (hS.mono s1) h fun iw ph2 φ2 H2 vi hH2 s2 ri h => ?_
  rw [run_bnd] at h
  obtain ⟨_, ph3, e, k⟩ := run_lift h
  have ro' := ro.mono s2
  have rv' := (rv.mono s1).mono s2
  unfold setV at e
  split at e
  ·rename_i p hp
   obtain ⟨r, kws⟩ := p
   obtain ⟨rfl, hr, hd, rfl⟩ := dctAt_rel hH2 ro' hp
   split at e
   ·rename_i hk
    cases e
    obtain ⟨H', g, q1, q2⟩ := dput_rel hH2 hr hd ri rv' hk.1 hk.2
    exact .inr ⟨_, H', rfl, g, k φ2 _ σ q1 ((s1.trans s2).trans q2) (((hS.mono s1).mono s2).mono q2)⟩
   ·cases e
  ·unfold setW at e
   split at e
   ·rename_i r k'
    split at e
    ·rename_i ws' hw
     split at e
     ·rename_i j hj
      cases e
      cases ro' with
      | ref hlt =>
       cases ri
       obtain ⟨us, hu, ru⟩ := hH2.hp _ _ hw
       obtain ⟨q1, q2⟩ := put_list hH2 hw (ru.set rv' j)
       exact .inl ⟨_, us, _, j, rfl, rfl, hu, by rw [<- ru.length]; exact hj, k φ2 _ σ q1 ((s1.trans s2).trans q2) (((hS.mono s1).mono s2).mono q2)⟩
     ·cases e
    ·cases e
   ·cases e⟩
end
end IL
namespace IL
open PySem PySem.Spec PyProof.Rows L2
def inW1 : W -> Option Int
 | .int i => some i
 | _ => none
def intsW (w : W) (ph : PH) : Option (List Int) := if isL w ph = true then (seqW w ph).bind (mapO inW1) else none
def minUp (f : Nat -> Int) : Nat -> Int
 | 0 => f 0
 | k + 1 => if f (k + 1) < minUp f k then f (k + 1) else minUp f k
def maxUp (f : Nat -> Int) : Nat -> Int
 | 0 => f 0
 | k + 1 => if maxUp f k < f (k + 1) then f (k + 1) else maxUp f k
def minL (ns : List Int) : Int := minUp (fun i => ns.getD i 0) (ns.length - 1)
def maxL (ns : List Int) : Int := maxUp (fun i => ns.getD i 0) (ns.length - 1)
def min1W : List W -> Po W := fun xs ph => match xs with
 | [w] => match intsW w ph with
  | some ns => if ns = [] then none else some (.int (minL ns), ph)
  | none => none
 | _ => none
def max1W : List W -> Po W := fun xs ph => match xs with
 | [w] => match intsW w ph with
  | some ns => if ns = [] then none else some (.int (maxL ns), ph)
  | none => none
 | _ => none
section
variable {X : Cx}
theorem best_min (f : Nat -> Int) : ∀ k, f (argBest (fun i j => decide (f i < f j)) k) = minUp f k
 | 0 => rfl
 | k + 1 => by
  have ih := best_min f k
  unfold argBest minUp
  rw [ih]
  by_cases h : f (k + 1) < minUp f k
  ·simp [h]
  ·simp [h, ih]
theorem best_max (f : Nat -> Int) : ∀ k, f (argBest (fun i j => decide (f i > f j)) k) = maxUp f k
 | 0 => rfl
 | k + 1 => by
  have ih := best_max f k
  unfold argBest maxUp
  rw [ih]
  by_cases h : maxUp f k < f (k + 1)
  ·simp [h]
  ·simp [h, ih]
theorem call_max_l (hc : X.calm = true) : CallR X (.builtin "max") (fun xs H Q => ∃ p, ∃ ns : List Int, xs = [.ref p] /\ SqL X.K H p (ns.map V.int) /\ ns ≠ [] /\ Q (.int (maxL ns)) H) := by
 intro pins s σ H xs us Q I r h
 obtain ⟨p, ns, rfl, hq, hne, q⟩ := h
 obtain ⟨u, rfl, rx⟩ := vals1 r
 cases rx
 obtain ⟨its, r', pl, hz⟩ := I.list hq
 have hlen := r'.length
 rw [List.length_map] at hlen
 have hpos : 0 < ns.length := List.length_pos_iff.mpr hne
 have hlt : p < s.heap.objs.size := by obtain ⟨_, e, _⟩ := pl.isList; exact Heap.lt_size e
 have val : ∀ (i : Nat) v, its.toArray[i]? = some v -> ∃ t, v = .int (ns.getD i 0) t := fun i v hP => by
  have hP : its[i]? = some v := by simpa using hP
  have hi : i < ns.length := by rw [hlen]; exact (List.getElem?_eq_some_iff.mp hP).1
  obtain ⟨u, hu, ru⟩ := r'.get (i := i) (x := .int ns[i]) (by simp [hi])
  rw [hP] at hu; cases hu
  obtain ⟨t, e⟩ := (show ∃ t, v = Value.int ns[i] t from ru)
  exact ⟨t, by rw [e]; simp [hi]⟩
 refine call_max_walk (wpAny_pyIter_list pl.isList ?_)
 refine ⟨s.heap.objs.size, [s.heap.objs.size, p], [s.heap.objs.size], its.toArray.size, _, _, _, rfl, Walks.list (A := X.A.in1) (I.ok.hd hc) _ p (Nat.ne_of_lt hlt) its.toArray,
  ⟨⟨_, Heap.get?_push_size _ rfl, rfl, rfl⟩, pl.isList.push _⟩, fun b hb => ?_, by rw [List.size_toArray, <- hlen]; exact hpos, CmpOf.ints_gt (fun i => ns.getD i 0) val, fun v h' tk hP hk => ?_⟩
 ·show b < (s.heap.push _).objs.size
  rw [Heap.size_push]
  rcases List.mem_cons.mp hb with rfl | hb
  ·exact Nat.lt_succ_self _
  ·have : b = p := by simpa using hb
   rw [this]
   exact Nat.lt_succ_of_lt hlt
 ·obtain ⟨t, rfl⟩ := val _ v hP
  refine ⟨.int (maxL ns), H, I.kept (kept_new hk), ⟨t, ?_⟩, q⟩
  have := best_max (fun i => ns.getD i 0) (its.toArray.size - 1)
  rw [this, List.size_toArray, <- hlen]; rfl
theorem ints_rel {K : PySem.W.Frag} {φ : Nat -> Addr} {n : Nat} {H : Hp} : ∀ {ws : List W} {vs : List V} {ns : List Int}, RelWs K φ n H ws vs -> mapO inW1 ws = some ns -> vs = ns.map V.int
 | _, _, _, .nil, e => by cases e; rfl
 | w :: ws, _, bs, .cons h r, e => by
  unfold mapO at e
  split at e
  ·rename_i b bs' e1 e2
   cases e
   have q := ints_rel r e2
   unfold inW1 at e1
   cases h <;> cases e1
   rw [q]; rfl
  ·cases e
theorem intsW_rel {K : PySem.W.Frag} {φ : Nat -> Addr} {ph : PH} {H : Hp} {w : W} {v : V} {ns : List Int} (hH : RelH K φ ph H) (r : RelW K φ ph.length H w v) (e : intsW w ph = some ns) : ∃ p, v = .ref p /\ SqL K H p (ns.map V.int) := by
 unfold intsW at e
 split at e
 ·rename_i hL
  cases r with
  | ref hi =>
   unfold isL at hL
   simp only at hL
   split at hL
   ·rename_i ws hw
    obtain ⟨vs, hv, rs⟩ := hH.hp _ _ hw
    simp only [seqW, hw, Option.bind_some] at e
    rw [ints_rel rs e] at hv
    exact ⟨_, rfl, SqL.of hv⟩
   ·cases hL
  | fl h rs =>
   simp only [seqW, Option.bind_some] at e
   have q := ints_rel rs e
   subst q
   exact ⟨_, rfl, h.sq⟩
  | _ => cases hL
 ·cases e
theorem max1W_i {K : PySem.W.Frag} : CallI K (fun xs H Q => ∃ p, ∃ ns : List Int, xs = [.ref p] /\ SqL K H p (ns.map V.int) /\ ns ≠ [] /\ Q (.int (maxL ns)) H) max1W := by
 intro φ ph H xs vs w ph' Q hH r e k
 unfold max1W at e
 split at e
 ·rename_i x
  split at e
  ·rename_i ns q
   split at e
   ·cases e
   ·rename_i hne
    cases e
    cases r with
    | cons r r' =>
     cases r'
     obtain ⟨p, rfl, hs⟩ := intsW_rel hH r q
     exact ⟨p, ns, rfl, hs, hne, k φ H _ hH Step.refl (.int _)⟩
  ·cases e
 ·cases e
end
def mulV : W -> W -> Po W := fun x y ph => match x, y with
 | .ref i, .int k => match ph[i]? with
  | some (.lst ws) => if -(2 ^ 63) <= k /\ k < 2 ^ 63 /\ ws.length * k.toNat <= sizeLine then some (.ref ph.length, ph ++ [.lst (List.replicate k.toNat ws).flatten]) else none
  | _ => none
 | x, y => mulW x y ph
theorem RelWs.rep {K : PySem.W.Frag} {φ : Nat -> Addr} {n : Nat} {H : Hp} {ws : List W} {vs : List V} (r : RelWs K φ n H ws vs) : ∀ k : Nat, RelWs K φ n H (List.replicate k ws).flatten (List.replicate k vs).flatten
 | 0 => .nil
 | k + 1 => by
  rw [List.replicate_succ, List.replicate_succ, List.flatten_cons, List.flatten_cons]
  exact r.append (RelWs.rep r k)
theorem mulV_i {K : PySem.W.Frag} : OpI K (fun x y H Q => (rI CMul fun i j => .int (i * j)) x y H Q \/ rRep x y H Q) mulV := by
 intro φ ph H x y vx vy w ph' Q hH rx ry e k
 unfold mulV at e
 split at e
 ·rename_i i j
  split at e
  ·rename_i ws hw
   split at e
   ·rename_i hz
    cases e
    cases rx with
    | ref hi =>
     cases ry
     obtain ⟨us, hu, ru⟩ := hH.hp _ _ hw
     refine .inr ⟨_, _, us, rfl, rfl, hu, hz.1, hz.2.1, by rw [<- ru.length]; exact hz.2.2, fun p hp => ?_⟩
     obtain ⟨q1, q2, q3⟩ := new_list hH (ru.rep j.toNat) hp
     exact k _ _ _ q1 q2 q3
   ·cases e
  ·cases e
 ·exact .inl (mulW_i hH rx ry e k)
theorem je_mulV {X : Cx} {a b : Expr} {ma mb : EM} {pos : Pos} (ha : JE X a ma) (hb : JE X b mb) : JE X (.BinOp a .Mult b pos) (eOp mulV ma mb) := ⟨ie_op (OpR.or op_mul op_rep) mulV_i ha.h hb.h⟩
end IL
namespace IL
open PySem PySem.Spec PyProof.Rows L2
section
variable {prog : Program} {w : World} {A : Around} {E : Value -> Shared -> Prop} {s : Shared} {a : Addr}
theorem list_no_keys : typeLookup (.type "list") "keys" = pure none := am_miss_of_fast (by decide +kernel)
theorem no_keys {o : Obj} {xs : Array Value} {k : Nat} {Q : Option Value -> Shared -> Prop} (hx : s.heap.get? a = some o) (hc : o.cls = .type "list") (hdat : o.data = .seq xs k) (hd : o.dict = none) (hA : A.handled = none)
  (h : ∀ h' tk, (∀ b ob, s.heap.get? b = some ob -> h'.get? b = some ob) -> Q none { s with heap := h', toks := tk }) : wpAny (model prog w) A (getAttr? (.ref a) "keys") Q E s := by
 obtain ⟨c, dct, dat, sl⟩ := o
 simp only at hc hdat hd
 subst hc hdat hd
 obtain ⟨hp, g, d, tk, os⟩ := s
 have hT : ∀ tk', (⟨hp, g, d, tk', os⟩ : Shared).TypeIs (.ref a) "list" := fun _ => ⟨_, hx, rfl⟩
 have f1 := sub_AttributeError
 have f3 := F.slot_list_getattribute.lookup
 have f4 := F.slot_list_getattribute.bind (.ref a)
 have f5 := am_list_getattr_none
 unfold getAttr? getAttrBy? getAttrBy
 repeat (any_goals (first | assumption | exact hT _ | ((with_reducible show wpAny _ _ (call (Value.builtin "list.__getattribute__") _ _) _ _ _); refine call_meets F.slot_list_getattribute (hT _) am_entry_list_getattribute (F.args_list_getattribute_2 _ _) (meets_getattribute_miss_list a xs k sl "keys" _ list_no_keys (by decide)) ⟨hx, hA, fun h' tk' e hx' => ?_⟩) | wp_step))
 obtain ⟨t', u', he⟩ := hx'.there
 show wpAny _ _ (getattributeRaised _ _ _ _ _ _ _) _ _ _
 unfold getattributeRaised
 repeat (any_goals (first | assumption | wp_step))
 exact h _ _ hx'.keeps
end
def DFill (d : Addr) : Hp -> List (V × V) -> Hp -> Prop
 | H, [], H' => H' = H
 | H, p :: r, H' => ∃ H1, DPutE H d p.1 p.2 H1 /\ DFill d H1 r H'
abbrev PairsV (H : Hp) : List V -> List (V × V) -> Prop := Paired fun v p => ∃ T, v = .ref T /\ H T = some (.tup [p.1, p.2])
theorem DPutE.other {H H' : Hp} {a b : Addr} {y v : V} (h : DPutE H a y v H') (hb : b ≠ a) : H' b = H b := by
 rcases h with (⟨_, _, _, _, _, e⟩ | ⟨_, _, _, _, _, _, _, e⟩) | ⟨_, _, _, _, _, e⟩ | ⟨_, _, _, e⟩ <;> rw [e, upd_ne hb]
theorem DPutE.dict {H H' : Hp} {a : Addr} {y v : V} (h : DPutE H a y v H') : (∃ kvs, H a = some (.dK kvs)) \/ ∃ kvs, H a = some (.dT kvs) := by
 rcases h with (⟨_, _, e, _⟩ | ⟨_, _, _, e, _⟩) | ⟨e, _⟩ | ⟨e, _⟩
 ·exact .inl ⟨_, e⟩
 ·exact .inr ⟨_, e⟩
 ·exact .inl ⟨_, e⟩
 ·exact .inr ⟨_, e⟩
theorem DPutE.ne {H H' : Hp} {a b : Addr} {y v : V} {o : HO} (h : DPutE H a y v H') (hb : H b = some o) (h1 : ∀ kvs, o ≠ .dK kvs) (h2 : ∀ kvs, o ≠ .dT kvs) : b ≠ a := by
 rcases h.dict with ⟨kvs, e⟩ | ⟨kvs, e⟩
 ·exact ne_of hb e (h1 _)
 ·exact ne_of hb e (h2 _)
section
variable {X : Cx} {pins : List (Addr × Obj)} {σ : L2.St} {H : Hp} {s : Shared} {a : Addr} {y v : V} {u r : Value} {A : Around} {E : Value -> Shared -> Prop}
theorem d_set {H' : Hp} {Q : Unit -> Shared -> Prop} (hu : A.units < cLine) (I : Inv X pins σ H s) (g : DPut H a y v H') (ry : RelV y u) (rv : RelV v r)
  (h : ∀ h' t, Inv X pins σ H' { s with heap := h', toks := t } -> Heap.SameBut a s.heap h' -> Q () { s with heap := h', toks := t }) : wpAny (model X.prog X.w) A (dictSet a u r) Q E s := by
 rcases g with ⟨kvs, k, e, ey, l, eH⟩ | ⟨kvs, k, b, e, ey, eb, l, eH⟩
 ·subst ey eH
  obtain ⟨z, hd, vs, rel, dd⟩ := dk_of I.hok e
  have hz : vs.length <= sizeLine := by rw [<- rel.length]; exact z
  have hl : (putK kvs k v).length <= sizeLine := by have := length_putK kvs k v; omega
  refine wpAny_dictSet_pairs (hsz := hz) (kV_is ry) dd fun h' dd' hs => h _ _ ?_ hs
  have he : ∃ q, h'.get? a = some q := let ⟨q, _, _, hq, _⟩ := dd'; ⟨q, hq⟩
  exact d_write I (by rw [e]; exact True.intro) hs he (dk_new hl hd (rel.put k rv) dd')
 ·subst ey eH
  cases (show u = Value.ref b from ry)
  obtain ⟨z, hd, xs, rel, dd⟩ := dt_of I.hok e
  have hz : xs.length <= sizeLine := by rw [<- Paired.length rel]; exact z
  have hl : (putK kvs k v).length <= sizeLine := by have := length_putK kvs k v; omega
  refine wpAny_dictSet_heap (hsz := hz) hu (key_of I.hok eb) dd fun h' dd' hs => h _ _ ?_ hs
  obtain ⟨q, es, ep, hq, h2, h3, h4, _, h5⟩ := dd'
  refine d_write I (by rw [e]; exact True.intro) hs ⟨q, hq⟩ ⟨hl, hd, _, (rel.put k eb rv).keeps fun c ys ec => ?_, q, es, ep, hq, h2, h3, h4, h5⟩
  rw [upd_ne (ne_of ec e (fun z => nomatch z))]
  exact ec
theorem d_setE {H' : Hp} {Q : Unit -> Shared -> Prop} (hu : A.units < cLine) (I : Inv X pins σ H s) (g : DPutE H a y v H') (ry : RelV y u) (rv : RelV v r)
  (h : ∀ h' t, Inv X pins σ H' { s with heap := h', toks := t } -> Heap.SameBut a s.heap h' -> Q () { s with heap := h', toks := t }) : wpAny (model X.prog X.w) A (dictSet a u r) Q E s := by
 rcases g with g | ⟨e, k, b, ey, eb, eH⟩ | ⟨e, k, ey, eH⟩
 ·exact d_set hu I g ry rv h
 ·subst ey eH
  have g : DPut (upd H a (.dT [])) a (.ref b) v (upd (upd H a (.dT [])) a (.dT (putK [] k v))) := .inr ⟨[], k, b, upd_same, rfl, by rw [upd_ne (ne_of eb e (fun z => nomatch z))]; exact eb, by decide, rfl⟩
  refine d_set hu (inv_kt I e) g ry rv fun h' t I3 hs => h h' t ?_ hs
  rw [upd_upd] at I3
  exact I3
 ·subst ey eH
  have g : DPut (upd H a (.dK [])) a (kV k) v (upd (upd H a (.dK [])) a (.dK (putK [] k v))) := .inl ⟨[], k, upd_same, rfl, by decide, rfl⟩
  refine d_set hu (inv_tk I e) g ry rv fun h' t I3 hs => h h' t ?_ hs
  rw [upd_upd] at I3
  exact I3
end
end IL
namespace IL
open PySem PySem.Spec PyProof.Rows L2
theorem entry_upd_loop : entryFor table "dict.update.loop" = some Builtin.«dict.update.loop» := entryFor_of_tree (by kernel_rfl)
theorem plain_upd_loop : plainId "dict.update.loop" = true := by decide +kernel
end IL
namespace IL
open PySem PySem.Spec PyProof.Rows L2
section
variable {X : Cx} {pins : List (Addr × Obj)} {σ : L2.St} {A : Around} {R : Result -> Shared -> Prop}
theorem turned1 {H : Hp} {s : Shared} {h' : Heap} {it : Addr} (I : Inv X pins σ H s) (k : ∀ b u, b ≠ it -> s.heap.get? b = some u -> h'.get? b = some u) (hf : FpOk X pins H it) : Inv X pins σ H { s with heap := h' } :=
 turnedN (s := s) (h' := h') (t' := s.toks) (fp := [it]) I (fun b o hb q => k b o (fun z => hb (by simp [z])) q) (fun b hb => by
  have : b = it := by simpa using hb
  subst this
  exact hf)
theorem pair_items {T : Addr} {ot : Obj} {uk uv : Value} {nt : Nat} {s : Shared} {E : Value -> Shared -> Prop} {Q : List Value -> Shared -> Prop} (hot : s.heap.get? T = some ot) (hct : ot.cls = .type "tuple") (hdt : ot.data = .seq #[uk, uv] nt) (h : Q [uk, uv] s) :
  wpAny (model X.prog X.w) A (Builtin.Dict.pairItems (.ref T)) Q E s := by
 unfold Builtin.Dict.pairItems
 refine wpAny_bind (wpAny_typeOf (T := "tuple") ⟨_, hot, hct⟩ ?_)
 rw [if_pos (by decide)]
 exact wpAny_bind (wpAny_seqItems hot hdt (wpAny_pure h))
theorem fill_loop (hA : A.handled = none) (hu : A.units + 1 < cLine) {d it l : Addr} {xs : List V} : ∀ (ps : List (V × V)) (i : Nat) (t : Tok) (s : Shared) (H H' : Hp), Inv X pins σ H s -> H l = some (.lst xs) -> FpOk X pins H it -> it ≠ d -> s.heap.IsListIter it l i →
  PairsV H (xs.drop i) ps -> DFill d H ps H' -> (∀ s', Inv X pins σ H' s' -> R (.ok (.ret .none)) s') -> codeAny (model X.prog X.w) A (.builtin "dict.update.loop" ⟨[.ref d, .ref it, .int (i : Int) t, .none], []⟩) R s
 | [], i, t, s, H, H', I, hl, hf, hne, hit, hp, hF, k => by
  obtain rfl : H' = H := hF
  obtain ⟨its, rv, pl, hz⟩ := I.list (SqL.of hl)
  have hd : xs.drop i = [] := by
   generalize xs.drop i = z at hp
   cases hp; rfl
  have hge : xs.length <= i := by simpa using hd
  refine codeAny_builtin entry_upd_loop ?_
  rw [Around.under_plainId plain_upd_loop _]
  show wpAny _ A.in1 (pyNext (.ref it) >>= _) _ _ s
  refine wpAny_bind (wpAny_pyNext_list_end (A := A.in1) hA hit pl.isList (by have := rv.length; simp; omega) fun h' eb => ?_)
  show wpAny _ A.in1 (Builtin.Dict.addKeywords d [] >>= fun _ => PySem.ret Value.none) _ _ _
  refine wpAny_bind (wpAny_pure ?_)
  refine wpAny_pure (k _ ?_)
  exact turned1 I (fun b o hb q => eb b o hb q) hf
 | p :: ps, i, t, s, H, H', I, hl, hf, hne, hit, hp, hF, k => by
  obtain ⟨H1, hput, hF⟩ := hF
  obtain ⟨its, rv, pl, hz⟩ := I.list (SqL.of hl)
  cases hd : xs.drop i with
  | nil => rw [hd] at hp; cases hp
  | cons x ys =>
   rw [hd] at hp
   cases hp with
   | cons hx hp =>
    obtain ⟨T, rfl, hT⟩ := hx
    have hxi : xs[i]? = some (.ref T) := by
     have := congrArg (fun l => l[0]?) hd
     simpa using this
    have hys : xs.drop (i + 1) = ys := by
     have := congrArg (fun l => l.drop 1) hd
     simpa [List.drop_drop, Nat.add_comm] using this
    obtain ⟨u, hu', ru⟩ := rv.get hxi
    obtain rfl : u = Value.ref T := ru
    refine codeAny_builtin entry_upd_loop ?_
    rw [Around.under_plainId plain_upd_loop _]
    show wpAny _ A.in1 (pyNext (.ref it) >>= _) _ _ s
    refine wpAny_bind (wpAny_pyNext_list_item hit pl.isList (x := .ref T) (by simpa using hu') fun h1 hit1 hs1 => ?_)
    have I1 : Inv X pins σ H { s with heap := h1 } := turned1 I (fun b o hb q => hs1.extBut b o hb q) hf
    obtain ⟨its2, rv2, pt, _⟩ := I1.tuple (SqT.of hT)
    obtain ⟨uk, uv, e2, rk, rw2⟩ := Vals.two rv2
    subst e2
    obtain ⟨ot, hot, hct, nt, hdt⟩ := pt
    have hne2 : it ≠ d := hne
    simp only []
    refine wpAny_bind (wpAny_holding (wpAny_bind (wpAny_tryCatch (pair_items hot hct hdt ?_))))
    simp only []
    refine wpAny_holding (d_setE hu I1 hput rk rw2 fun h2 t2 I2 hs2 => ?_)
    refine wpAny_pure ⟨plainId_quiet plain_upd_loop _, ?_⟩
    have hnl : l ≠ d := hput.ne hl (fun _ z => nomatch z) (fun _ z => nomatch z)
    refine fill_loop hA hu ps (i + 1) 0 _ H1 H' I2 (by rw [hput.other hnl]; exact hl) ⟨by rw [hput.other hne2]; exact hf.1, hf.2⟩ hne2 (hit1.at fun o q => (hs2.2 it hne2).trans q) ?_ hF k
    rw [hys]
    exact Paired.mapP hp fun _ _ ⟨T', e1, e2⟩ => ⟨T', e1, by rw [hput.other (hput.ne e2 (fun _ z => nomatch z) (fun _ z => nomatch z))]; exact e2⟩
end
def rDict : List V -> Hp -> VK -> Prop := fun xs H Q => ∃ l vs ps, xs = [.ref l] /\ H l = some (.lst vs) /\ PairsV H vs ps /\ ∀ d, H d = none -> ∃ H', DFill d (upd H d (.dK [])) ps H' /\ Q (.ref d) H'
section
variable {X : Cx}
theorem call_dict (hc : X.calm = true) (hu : X.A.units + 64 < cLine) : CallR X (.type "dict") rDict := by
 intro pins s σ H xs us Q I r h
 obtain ⟨l, vs, ps, rfl, hl, hp, h⟩ := h
 obtain ⟨u, rfl, rx⟩ := vals1 r
 obtain rfl : u = Value.ref l := rx
 have hA : X.A.handled = none := I.ok.hd hc
 have hn := I.hok.fresh (Nat.le_refl s.heap.objs.size)
 obtain ⟨H', hF, hq⟩ := h s.heap.objs.size hn
 refine callType_codes (Q₁ := fun obj s₁ => obj = .ref s.heap.objs.size /\ s₁ = { s with heap := s.heap.push { cls := .type "dict", data := .dict #[] } }) F.kt_called_dict (F.kt_typeCall_dict_1 _) F.entry_dict_init (kt_code_dict_new _ ⟨rfl, rfl⟩) ?_
 rintro obj s₁ ⟨rfl, rfl⟩
 have hnew : (s.heap.push { cls := .type "dict", data := .dict #[] }).DictOf (mixKind X.prog X.w) s.heap.objs.size [] := Heap.DictOf.new s.heap
 have hbig : (s.heap.objs.size == sysModules) = false := beq_eq_false_iff_ne.mpr (Nat.ne_of_gt I.big)
 have I1 : Inv X pins σ (upd H s.heap.objs.size (.dK [])) { s with heap := s.heap.push { cls := .type "dict", data := .dict #[] } } :=
  I.laid (t' := s.toks) (fun b u q => Heap.get?_push_of_some _ q) (Nat.le_refl _) ⟨Nat.zero_le _, hbig, [], .nil, hnew⟩
 refine ⟨hnew.typeIs, F.args_dict_init_2 _ _, ?_⟩
 have hll : l ≠ s.heap.objs.size := ne_of_none hl hn
 have hl1 : upd H s.heap.objs.size (.dK []) l = some (.lst vs) := by rw [upd_ne hll]; exact hl
 obtain ⟨its, rv, pl, hz⟩ := I1.list (SqL.of hl1)
 unfold Builtin.«dict.__init__»
 refine wpAny_bind ?_
 unfold Builtin.Dict.selfAndRest
 refine wpAny_bind (wpAny_notOrdered_dict hnew.typeIs ?_)
 show wpAny _ _ (pure (s.heap.objs.size, [Value.ref l])) _ _ _
 refine wpAny_pure ?_
 show wpAny _ _ (Builtin.Dict.updateFrom "dict.__init__" s.heap.objs.size (.ref l) [] .none) _ _ _
 unfold Builtin.Dict.updateFrom
 obtain ⟨ol, hol, hcl, n, hdl⟩ := pl.isList
 have hT : ({ s with heap := s.heap.push { cls := .type "dict", data := .dict #[] } } : Shared).TypeIs (.ref l) "list" := ⟨_, hol, hcl⟩
 refine wpAny_bind (wpAny_typeOf hT ?_)
 rw [if_pos (by decide)]
 obtain ⟨oq, nq, h1q, h2q, h3q, h4q⟩ := pl
 refine wpAny_bind ((no_keys (A := X.A.in1.in1) h1q h2q h4q h3q hA fun h1 t1 k1 => ?_))
 simp only [Option.isNone_none, if_true]
 refine wpAny_bind (wpAny_rule ?_)
 have I2 : Inv X pins σ (upd H s.heap.objs.size (.dK [])) { s with heap := h1, toks := t1 } := I1.kept (t' := t1) k1
 obtain ⟨its2, rv2, pl2, hz2⟩ := I2.list (SqL.of hl1)
 refine wpAny_bind (wpAny_pyIter_list pl2.isList ?_)
 refine wpAny_pure ⟨plainId_quiet plain_upd_loop _, ?_⟩
 have hd : s.heap.objs.size < h1.objs.size := Heap.lt_size (k1 _ _ (Heap.get?_push_size _ rfl))
 have I3 : Inv X pins σ (upd H s.heap.objs.size (.dK [])) { s with heap := h1.push { cls := .type "list_iterator", data := .fields #[.ref l, .int 0 0] }, toks := t1 } := I2.kept (t' := t1) fun b u q => Heap.get?_push_of_some _ q
 refine fill_loop (X := X) (pins := pins) (σ := σ) (A := X.A.in1) hA (by show X.A.units + 1 + 1 < cLine; omega) ps 0 0 _ _ H' I3 hl1 (I2.fpOk (Nat.le_refl _) (I2.hok.fresh (Nat.le_refl _))) (Nat.ne_of_gt hd) ⟨_, Heap.get?_push_size _ rfl, rfl, rfl⟩ ?_ hF fun s' I' => ?_
 ·exact Paired.mapP hp fun _ _ ⟨T', e1, e2⟩ => ⟨T', e1, by rw [upd_ne (ne_of_none e2 hn)]; exact e2⟩
 ·exact ⟨rfl, .ref s.heap.objs.size, H', I', rfl, hq⟩
end
def fillW : List (W × W) -> List (W × W) -> Option (List (W × W))
 | d, [] => some d
 | d, p :: r => if okKey d p.1 = true /\ d.length < sizeLine then fillW (dputW d p.1 p.2) r else none
def pairW : W -> Option (W × W)
 | .tup [a, b] => some (a, b)
 | _ => none
def dictW : List W -> Po W := fun xs ph => match xs with
 | [.ref i] => match ph[i]? with
  | some (.lst ws) => match mapO pairW ws with
   | some ps => match fillW [] ps with
    | some d => some (.ref ph.length, ph ++ [.dct d])
    | none => none
   | none => none
  | _ => none
 | _ => none
abbrev RelPs (K : PySem.W.Frag) (φ : Nat -> Addr) (n : Nat) (H : Hp) : List (W × W) -> List (V × V) -> Prop := Paired fun p q => RelW K φ n H p.1 q.1 /\ RelW K φ n H p.2 q.2
theorem fill_rel {K : PySem.W.Frag} {φ : Nat -> Addr} {i : Nat} : ∀ {ps : List (W × W)} {qs : List (V × V)} {ph : PH} {H : Hp} {d d' : List (W × W)}, RelH K φ ph H -> i < ph.length -> ph[i]? = some (.dct d) -> RelPs K φ ph.length H ps qs -> fillW d ps = some d' →
  ∃ H', DFill (φ i) H qs H' /\ RelH K φ (ph.set i (.dct d')) H' /\ Step K φ ph.length H φ ph.length H'
 | [], qs, ph, H, d, d', hH, hi, hd, hr, e => by
  cases hr
  cases e
  refine ⟨H, rfl, ?_, Step.refl⟩
  have : ph.set i (.dct d) = ph := by
   apply List.ext_getElem?
   intro j
   by_cases hj : i = j
   ·subst hj; rw [List.getElem?_set_self hi, hd]
   ·rw [List.getElem?_set_ne hj]
  rw [this]; exact hH
 | p :: ps, qs, ph, H, d, d', hH, hi, hd, hr, e => by
  cases hr with
  | cons h r =>
   unfold fillW at e
   split at e
   ·rename_i hk
    obtain ⟨H1, hp, hH1, s1⟩ := dput_rel hH hi hd h.1 h.2 hk.1 hk.2
    rw [List.length_set] at s1
    have hl : (ph.set i (.dct (dputW d p.1 p.2))).length = ph.length := List.length_set ..
    obtain ⟨H2, hF, hH2, s2⟩ := fill_rel (ph := ph.set i (.dct (dputW d p.1 p.2))) hH1 (by rw [hl]; exact hi) (List.getElem?_set_self hi) (by rw [hl]; exact Paired.mapP r fun _ _ z => ⟨z.1.mono s1, z.2.mono s1⟩) e
    rw [hl] at s2
    rw [List.set_set] at hH2
    exact ⟨H2, ⟨H1, hp, hF⟩, hH2, s1.trans s2⟩
   ·cases e
theorem pairs_rel {K : PySem.W.Frag} {φ : Nat -> Addr} {n : Nat} {H : Hp} : ∀ {ws : List W} {vs : List V} {ps : List (W × W)}, RelWs K φ n H ws vs -> mapO pairW ws = some ps -> ∃ qs, PairsV H vs qs /\ RelPs K φ n H ps qs
  | _, _, ps, .nil, e => by cases e; exact ⟨[], .nil, .nil⟩
  | _, _, ps, .cons h r, e => by
    unfold mapO at e
    split at e
    · rename_i b bs e1 e2
      cases e
      obtain ⟨qs, h1, h2⟩ := pairs_rel r e2
      unfold pairW at e1
      split at e1
      · cases e1
        cases h with
        | tup hT rt =>
          cases rt with
          | cons ra rt =>
            cases rt with
            | cons rb rt =>
              cases rt
              exact ⟨(_, _) :: qs, .cons ⟨_, rfl, hT⟩ h1, .cons ⟨ra, rb⟩ h2⟩
      · cases e1
    · cases e
theorem dictW_i {K : PySem.W.Frag} : CallI K rDict dictW := by
 intro φ ph H xs vs w ph' Q hH r e k
 unfold dictW at e
 split at e
 ·rename_i i
  split at e
  ·rename_i ws hw
   split at e
   ·rename_i ps hps
    split at e
    ·rename_i d hd
     cases e
     cases r with
     | cons r rr =>
      cases rr
      cases r with
      | ref hi =>
       obtain ⟨us, hu, ru⟩ := hH.hp _ _ hw
       obtain ⟨qs, h1, h2⟩ := pairs_rel ru hps
       refine ⟨_, us, qs, rfl, hu, h1, fun p hp => ?_⟩
       obtain ⟨q1, q2, q3⟩ := new_dict hH hp
       have hl : (ph ++ [PO.dct []]).length = ph.length + 1 := by simp
       obtain ⟨H', hF, hH', s'⟩ := fill_rel (i := ph.length) (d := []) q1 (by rw [hl]; exact Nat.lt_succ_self _) (by simp) (Paired.mapP h2 fun _ _ z => ⟨z.1.mono q2, z.2.mono q2⟩) hd
       have he : (ph ++ [PO.dct []]).set ph.length (.dct d) = ph ++ [.dct d] := by simp
       have hl2 : (ph ++ [PO.dct d]).length = (ph ++ [PO.dct []]).length := by simp
       rw [he] at hH'
       rw [ext_eq] at hF
       refine ⟨H', hF, k _ H' _ hH' (by rw [hl2]; exact q2.trans s') (by rw [hl2]; exact q3.mono s')⟩
    ·cases e
   ·cases e
  ·cases e
 ·cases e
end IL
namespace IL
open PySem PySem.Spec PyProof.Rows L2
section
variable {prog : Program} {w : World} {A : Around} {E : Value -> Shared -> Prop} {s : Shared} {d it v : Addr} {od : Obj} {es : Array DictEntry} {ep : Nat}
theorem raw_items {Q : Value -> Shared -> Prop} (hd : (d == sysModules) = false) (ho : s.heap.get? d = some od) (hc : od.cls = .type "dict")
  (h : Q (.ref s.heap.objs.size) { s with heap := s.heap.push { cls := .type "dict_items", data := .fields #[.ref d] } }) : wpAny (model prog w) A (call (.builtin "dict.items") [.ref d]) Q E s := by
 have hT : s.TypeIs (.ref d) "dict" := ⟨_, ho, hc⟩
 refine wpAny_call_entry F.slot_dict_items hT F.entry_dict_items ?_ (F.args_dict_items_1 _)
 unfold Builtin.«dict.items» Builtin.Dict.noArgs
 refine wpAny_bind (wpAny_bind (wpAny_notOrdered_dict hT ?_))
 show wpAny _ _ (pure d) _ _ s
 refine wpAny_pure ?_
 show wpAny _ _ (Builtin.Dict.showsAll d >>= _) _ _ s
 unfold Builtin.Dict.showsAll
 rw [if_neg (by rw [hd]; exact Bool.false_ne_true)]
 exact wpAny_bind (wpAny_pure (wpAny_bind (wpAny_newObj_type (wpAny_pure ⟨_, rfl, h⟩))))
theorem raw_iter {Q : Value -> Shared -> Prop} (hv : s.heap.IsItemsView v d) (ho : s.heap.get? d = some od) (hdat : od.data = .dict es ep)
  (hQ : Q (.ref s.heap.objs.size) { s with heap := s.heap.push { cls := .type "dict_itemiterator", data := .fields #[.none, .bool false, .ref d, .int 0 0, .int es.size 0, .int ep 0, .none, .none] } }) :
  wpAny (model prog w) A (pyIter (.ref v)) Q E s := by
 obtain ⟨ov, hov, hcv, hdv⟩ := id hv
 refine wpAny_pyIter_slot hv.typeIs F.slot_dict_items_iter (wpAny_call_entry F.slot_dict_items_iter hv.typeIs F.entry_dict_items_iter ?_ (F.args_dict_items_iter_1 _))
 unfold Builtin.«dict_items.__iter__»
 refine wpAny_bind (wpAny_pure (wpAny_bind ?_))
 unfold Builtin.Dict_items.dictOf
 refine wpAny_bind (wpAny_field hov hdv (x := .ref d) rfl (wpAny_pure (wpAny_bind ?_)))
 unfold Builtin.Dict_items.newIterator
 refine wpAny_bind (wpAny_dictEntries ho hdat (wpAny_bind (wpAny_dictEpoch ho hdat ?_)))
 have hown : Builtin.Dict_items.ownsTuple "dict_itemiterator" = true := by decide
 simp only [hown, if_true]
 refine wpAny_newObj_type (wpAny_pure ⟨_, rfl, "dict_itemiterator", _, ⟨_, Heap.get?_push_size _ rfl, rfl⟩, F.slot_dict_itemiterator_next.lookup, ?_⟩)
  (by simp only [sizeOk, Builtin.Dict_items.ownedTupleFields, List.size_toArray, List.length_append, List.length_cons, List.length_nil, sizeLine_eq]; omega)
 simpa [rawInt, Builtin.Dict_items.ownedTupleFields] using hQ
theorem raw_next {i : Nat} {e : DictEntry} {ok ov : Value} {Q : Option Value -> Shared -> Prop} (hit : IsItemIter s.heap it d i es.size ep ok ov) (hod : s.heap.get? d = some od) (hdd : od.data = .dict es ep) (hx : es[i]? = some e)
  (hQ : ∀ h', IsItemIterOut h' it d (i + 1) es.size ep e.key e.val s.heap.objs.size -> h'.get? s.heap.objs.size = some { cls := .type "tuple", data := .seq #[e.key, e.val] } →
   (∀ b o, b ≠ it -> s.heap.get? b = some o -> h'.get? b = some o) -> Q (some (.ref s.heap.objs.size)) { s with heap := h' }) : wpAny (model prog w) A (pyNext (.ref it)) Q E s := by
 obtain ⟨hp, g, dr, tk, os⟩ := s
 have hT : Shared.TypeIs ⟨hp, g, dr, tk, os⟩ (.ref it) "dict_itemiterator" := ⟨_, hit, rfl⟩
 obtain ⟨hlt, he⟩ := Array.getElem?_eq_some_iff.mp hx
 unfold pyNext
 refine wpAny_bind (wpAny_attempt (wpAny_callSpecial?_slot (name := Str.ofString "__next__") hT F.slot_dict_itemiterator_next
  (wpAny_call_entry F.slot_dict_itemiterator_next hT F.entry_dict_itemiterator_next ?_ (F.args_dict_itemiterator_next_1 _))))
 refine wpAny_bind (wpAny_pure (wpAny_bind (wpAny_bind ?_)))
 refine wpAny_bind (wpAny_typeNameOfWhole_itemiter hT (wpAny_pure (wpAny_bind (wpAny_fieldsOf hit rfl ?_))))
 have hown : Builtin.Dict_items.ownsTuple "dict_itemiterator" = true := by decide
 simp only [hown, if_true]
 show wpAny _ _ (if (Value.ref d == Value.none) = true then _ else _) _ _ _
 rw [if_neg (show ¬ ((Value.ref d == Value.none) = true) from Bool.false_ne_true)]
 refine wpAny_bind (wpAny_pure (wpAny_bind (wpAny_dictEntries hod hdd ?_)))
 rw [if_neg (by simp)]
 refine wpAny_bind (wpAny_pure (wpAny_bind (wpAny_dictEpoch hod hdd ?_)))
 rw [if_neg (by simp)]
 refine wpAny_pure ?_
 simp only [show ¬ ((i : Int) < 0) from by omega, if_false, Int.toNat_natCast, hx]
 refine wpAny_bind ?_
 refine wpAny_bind (wpAny_typeNameOfWhole_itemiter hT (wpAny_pure (wpAny_bind (wpAny_isOneOf_itemiter hT ?_))))
 show wpAny _ _ (setField (.ref it) 3 (rawInt ((i : Int) + 1)) >>= _) _ _ ⟨hp, g, dr, tk, os⟩
 refine wpAny_bind (wpAny_setField_rec hit (by simp) fun h₁ he₁ hs₁ => ?_)
 replace hs₁ : Heap.SameBut it hp h₁ := hs₁
 replace he₁ : IsItemIter h₁ it d (i + 1) es.size ep ok ov := by
  have q : ((i + 1 : Nat) : Int) = (i : Int) + 1 := by omega
  unfold IsItemIter; rw [q]; simpa [rawInt] using he₁
 have hT₁ : Shared.TypeIs ⟨h₁, g, dr, tk, os⟩ (.ref it) "dict_itemiterator" := ⟨_, he₁, rfl⟩
 refine wpAny_bind (wpAny_holding (wpAny_bind (wpAny_isOneOf_itemiter hT₁ (wpAny_bind (wpAny_isOneOf_itemiter hT₁ ?_)))))
 show wpAny _ _ (Builtin.Dict_items.pairFromOwner (.ref it) 6 e.key e.val) _ _ ⟨h₁, g, dr, tk, os⟩
 unfold Builtin.Dict_items.pairFromOwner
 refine wpAny_bind (wpAny_newTuple ?_)
 have hz₁ : h₁.objs.size = hp.objs.size := hs₁.1
 have hil : it < hp.objs.size := Heap.lt_size hit
 have hne : hp.objs.size ≠ it := Nat.ne_of_gt hil
 have he₂ : IsItemIter (h₁.push { cls := .type "tuple", data := .seq #[e.key, e.val] }) it d (i + 1) es.size ep ok ov := Heap.get?_push_of_some _ he₁
 have ht₂ : (h₁.push { cls := .type "tuple", data := .seq #[e.key, e.val] }).get? hp.objs.size = some { cls := .type "tuple", data := .seq #[e.key, e.val] } := by rw [<- hz₁]; exact Heap.get?_push_size _ rfl
 have hk₂ : ∀ b o, b ≠ it -> hp.get? b = some o -> (h₁.push { cls := .type "tuple", data := .seq #[e.key, e.val] }).get? b = some o := fun b o hb q => Heap.get?_push_of_some _ (hs₁.extBut b o hb q)
 show wpAny _ _ (Builtin.Dict_items.ownedTupleIsFree (.ref it) >>= _) _ _ ⟨h₁.push { cls := .type "tuple", data := .seq #[e.key, e.val] }, g, dr, tk, os⟩
 generalize h₁.push { cls := .type "tuple", data := .seq #[e.key, e.val] } = h₂ at he₂ ht₂ hk₂
 rw [hz₁]
 clear he₁ hs₁ hT₁ hz₁ h₁
 refine wpAny_bind ?_
 unfold Builtin.Dict_items.ownedTupleIsFree
 refine wpAny_bind (wpAny_field he₂ rfl (x := .none) rfl (wpAny_pure ?_))
 simp only [if_true]
 refine wpAny_bind (wpAny_field he₂ rfl (x := ok) rfl (wpAny_bind (wpAny_field he₂ rfl (x := ov) rfl ?_)))
 refine wpAny_bind (wpAny_setField_rec he₂ (by simp) fun h₃ he₃ hs₃ => ?_)
 replace hs₃ : Heap.SameBut it h₂ h₃ := hs₃
 replace he₃ : IsItemIter h₃ it d (i + 1) es.size ep e.key ov := he₃
 refine wpAny_bind (wpAny_setField_rec he₃ (by simp) fun h₄ he₄ hs₄ => ?_)
 replace hs₄ : Heap.SameBut it h₃ h₄ := hs₄
 replace he₄ : IsItemIter h₄ it d (i + 1) es.size ep e.key e.val := he₄
 refine wpAny_bind (wpAny_setField_rec he₄ (by simp) fun h₅ he₅ hs₅ => ?_)
 replace hs₅ : Heap.SameBut it h₄ h₅ := hs₅
 replace he₅ : IsItemIterOut h₅ it d (i + 1) es.size ep e.key e.val hp.objs.size := he₅
 refine wpAny_bind (wpAny_setField_rec he₅ (by simp) fun h₆ he₆ hs₆ => ?_)
 replace hs₆ : Heap.SameBut it h₅ h₆ := hs₆
 replace he₆ : IsItemIterOut h₆ it d (i + 1) es.size ep e.key e.val hp.objs.size := he₆
 have all : ∀ b o, b ≠ it -> h₂.get? b = some o -> h₆.get? b = some o := fun b o hb q => hs₆.extBut b o hb (hs₅.extBut b o hb (hs₄.extBut b o hb (hs₃.extBut b o hb q)))
 exact wpAny_bind (wpAny_letGo (wpAny_pure (wpAny_pure ⟨_, rfl, wpAny_pure (hQ h₆ he₆ (all _ _ hne ht₂) fun b o hb q => all b o hb (hk₂ b o hb q))⟩)))
theorem raw_end {i : Nat} {ok ov : Value} {Q : Option Value -> Shared -> Prop} (hh : A.handled = none) (hit : IsItemIter s.heap it d i es.size ep ok ov) (hod : s.heap.get? d = some od) (hdd : od.data = .dict es ep) (hx : es.size <= i)
  (hQ : ∀ h', Heap.ExtBut it s.heap h' -> Q none { s with heap := h' }) : wpAny (model prog w) A (pyNext (.ref it)) Q E s := by
 have hT : s.TypeIs (.ref it) "dict_itemiterator" := ⟨_, hit, rfl⟩
 unfold pyNext
 refine wpAny_bind (wpAny_attempt (wpAny_callSpecial?_slot (name := Str.ofString "__next__") hT F.slot_dict_itemiterator_next
  (wpAny_call_entry F.slot_dict_itemiterator_next hT F.entry_dict_itemiterator_next ?_ (F.args_dict_itemiterator_next_1 _))))
 refine wpAny_bind (wpAny_pure (wpAny_bind (wpAny_bind ?_)))
 refine wpAny_bind (wpAny_typeNameOfWhole_itemiter hT (wpAny_pure (wpAny_bind (wpAny_fieldsOf hit rfl ?_))))
 have hown : Builtin.Dict_items.ownsTuple "dict_itemiterator" = true := by decide
 simp only [hown, if_true]
 show wpAny _ _ (if (Value.ref d == Value.none) = true then _ else _) _ _ s
 rw [if_neg (show ¬ ((Value.ref d == Value.none) = true) from Bool.false_ne_true)]
 refine wpAny_bind (wpAny_pure (wpAny_bind (wpAny_dictEntries hod hdd ?_)))
 rw [if_neg (by simp)]
 refine wpAny_bind (wpAny_pure (wpAny_bind (wpAny_dictEpoch hod hdd ?_)))
 rw [if_neg (by simp)]
 refine wpAny_pure ?_
 simp only [show ¬ ((i : Int) < 0) from by omega, if_false, Int.toNat_natCast, Array.getElem?_eq_none hx]
 refine wpAny_bind (wpAny_bind (wpAny_typeNameOfWhole_itemiter hT (wpAny_pure ?_)))
 show wpAny _ _ (setField (.ref it) 2 .none >>= _) _ _ s
 refine wpAny_bind (wpAny_setField hit rfl (by simp) ?_)
 show wpAny _ _ (newExc (.type "StopIteration") [] >>= _) _ _ _
 refine wpAny_bind ?_
 simp only [newExc, newTuple]
 refine wpAny_bind (wpAny_newObj_type ?_ (by size_fits))
 refine wpAny_bind (m := firstArgMember _ _) (wpAny_of_eq (a := Value.none) (by first | rfl | (simp only [firstArgMember]; rfl)) ?_)
 refine wpAny_newObj_type ?_ (by size_fits)
 simp only [raiseNew]
 refine wpAny_bind (wpAny_handled ?_)
 rw [show A.in1.handled = none from hh]
 refine wpAny_bind (wpAny_pure (wpAny_throw ?_))
 refine wpAny_bind (wpAny_isInstance (T := "StopIteration") (b := true) ⟨_, Heap.get?_push_size _ rfl, rfl⟩ isSubtype_stop ?_)
 exact wpAny_pure (hQ _ (((Heap.SameBut.update ..).extBut.push _).push _))
end
end IL
namespace IL
open PySem PySem.Spec PyProof.Rows L2
def dicHO : HO -> Prop
 | .dK _ => True
 | .dT _ => True
 | _ => False
def NF (X : Cx) (d : Addr) : Prop := ∀ o u, X.H₀ d ≠ some (.frz o u)
theorem dic_mut {u : HO} (h : dicHO u) : Mut (some u) := by cases u <;> first | exact trivial | exact h.elim
section
variable {X : Cx} {pins : List (Addr × Obj)} {σ : L2.St} {H : Hp} {s : Shared} {d : Addr} {u : HO}
theorem dic_obj {P : Program} {w : World} {h : Heap} (hu : dicHO u) (ok : ObjOk P w H h d u) : ∃ o es ep, h.get? d = some o /\ o.cls = .type "dict" /\ o.data = .dict es ep /\ (d == sysModules) = false := by
 cases u with
 | dK kvs => obtain ⟨_, z, vs, _, o, es, ep, h1, h2, h3, _⟩ := ok; exact ⟨o, es, ep, h1, h2.1, h3, z⟩
 | dT kvs => obtain ⟨_, z, xs, _, o, es, ep, h1, h2, h3, _⟩ := ok; exact ⟨o, es, ep, h1, h2.1, h3, z⟩
 | _ => exact hu.elim
theorem inv_freeze (I : Inv X pins σ H s) (e : H d = some u) (hu : dicHO u) : ∃ o es ep, s.heap.get? d = some o /\ o.cls = .type "dict" /\ o.data = .dict es ep /\ (d == sysModules) = false /\ NF X d /\ Inv X pins σ (upd H d (.frz o u)) s := by
 have hk := I.hok d u e
 obtain ⟨o, es, ep, h1, h2, h3, h4⟩ := dic_obj hu hk
 refine ⟨o, es, ep, h1, h2, h3, h4, fun o' u' z => ?_, ?_⟩
 ·have q := I.base.frzs d o' u' z
  rw [e] at q
  cases q
  exact hu
 ·refine I.write (x := d) (e := d) (h' := s.heap) (t' := s.toks) (o := .frz o u) (by rw [e]; exact dic_mut hu) (.inl rfl) (fun _ _ _ q => q) ⟨o, h1⟩ ⟨h1, ?_⟩
  refine hk.stay (fun _ _ _ q => q) (fun b q => ?_) fun b xs q => ?_
  ·rw [upd_ne (ne_of q e (fun z => by subst z; exact hu))]; exact q
  ·rw [upd_ne (ne_of q e (fun z => by subst z; exact hu))]; exact q
theorem inv_thaw {o : Obj} (I : Inv X pins σ H s) (e : H d = some (.frz o u)) (hu : dicHO u) (nf : NF X d) : Inv X pins σ (upd H d u) s := by
 have nn : ∀ b, H b = none -> b ≠ d := fun b q z => by rw [z, e] at q; cases q
 refine ⟨I.ok, I.os, I.bare, ⟨I.base.keep, I.base.slot, fun b ob q n hx => ?_, I.base.there, fun b xs q => ?_, fun b ob v q => ?_, fun b ps q => ?_⟩, I.loc, I.cell, ?_, fun x c q => ?_, fun p hp => ?_, fun a v q => ?_, I.len⟩
 ·have z := I.base.free b ob q n hx
  rw [upd_ne (nn b z)]; exact z
 ·have z := I.base.tups b xs q
  rw [upd_ne (ne_of z e (fun z => nomatch z))]; exact z
 ·have z := I.base.frzs b ob v q
  by_cases hb : b = d
  ·subst hb; exact (nf _ _ q).elim
  ·rw [upd_ne hb]; exact z
 ·obtain ⟨m, z⟩ := I.base.tbls b ps q
  exact ⟨m, by rw [upd_ne (ne_of z e (fun z => nomatch z))]; exact z⟩
 ·rw [upd_ne (nn _ I.free)]; exact I.free
 ·rw [upd_ne (nn _ (I.freeC x c q))]; exact I.freeC x c q
 ·obtain ⟨q1, q2, q3⟩ := I.pin p hp
  exact ⟨q1, by rw [upd_ne (nn _ q2)]; exact q2, q3⟩
 ·by_cases hb : a = d
  ·subst hb
   rw [upd_same] at q
   cases q
   exact (I.hok a _ e).2.stay (fun _ _ _ q => q) (fun b q => by rw [upd_ne (ne_of q e (fun z => nomatch z))]; exact q) fun b xs q => by rw [upd_ne (ne_of q e (fun z => nomatch z))]; exact q
  ·rw [upd_ne hb] at q
   exact (I.hok a _ q).stay (fun _ _ _ q => q) (fun b q => by rw [upd_ne (ne_of q e (fun z => nomatch z))]; exact q) fun b xs q => by rw [upd_ne (ne_of q e (fun z => nomatch z))]; exact q
end
section
variable {K : PySem.W.Frag} {φ : Nat -> Addr} {n : Nat} {H : Hp} {d : Addr} {o : Obj} {u : HO} (e : H d = some (.frz o u)) (hu : dicHO u) (hc : o.cls = .type "dict")
include e hu hc
theorem frz_ne {a : Addr} {o' : Obj} {u' : HO} (h : H a = some (.frz o' u')) (k : (∀ v, dicHO v -> u' ≠ v) \/ ∃ C, o'.cls = .ref C) : a ≠ d := fun z => by
 subst z
 rw [e] at h
 cases h
 rcases k with k | ⟨C, k⟩
 ·exact k u hu rfl
 ·rw [hc] at k; cases k
theorem XFld.thaw {x : Obj} {ns : List Str} {vs : List V} (h : XFld H x ns vs) : XFld (upd H d u) x ns vs :=
 h.imp_right fun ⟨b, od, e1, e2, e3⟩ => ⟨b, od, e1, e2, by rw [upd_ne (frz_ne e hu hc e3 (.inl fun v hv z => by subst z; exact hv))]; exact e3⟩
mutual
theorem RelW.thaw : ∀ {w : W} {v : V}, RelW K φ n H w v -> RelW K φ n (upd H d u) w v
 | _, _, .non => .non
 | _, _, .bl b => .bl b
 | _, _, .int i => .int i
 | _, _, .str x => .str x
 | _, _, .tup h r => .tup (by rw [upd_ne (ne_of h e (fun z => nomatch z))]; exact h) (RelWs.thaw r)
 | _, _, .fl h r => .fl (h.elim (fun ⟨o', q⟩ => .inl ⟨o', by rw [upd_ne (frz_ne e hu hc q (.inl fun v hv z => by subst z; exact hv))]; exact q⟩) .inr) (RelWs.thaw r)
 | _, _, .ref h => .ref h
 | _, _, .exc h hc' hn hk hf r => .exc (by rw [upd_ne (frz_ne e hu hc h (.inr ⟨_, hc'⟩))]; exact h) hc' hn hk (XFld.thaw e hu hc hf) (RelWs.thaw r)
theorem RelWs.thaw : ∀ {ws : List W} {vs : List V}, RelWs K φ n H ws vs -> RelWs K φ n (upd H d u) ws vs
 | _, _, .nil => .nil
 | _, _, .cons h r => .cons (RelW.thaw h) (RelWs.thaw r)
end
theorem RelD.thaw : ∀ {ws : List (W × W)} {vs : List (Key × V)}, RelD K φ n H ws vs -> RelD K φ n (upd H d u) ws vs
 | _, _, .nil => .nil
 | _, _, .cons h r => .cons (h.thaw e hu hc) (RelD.thaw r)
theorem RelT.thaw : ∀ {ws : List (W × W)} {vs : List (List Key × V)}, RelT K φ n H ws vs -> RelT K φ n (upd H d u) ws vs
 | _, _, .nil => .nil
 | _, _, .cons h r => .cons (h.thaw e hu hc) (RelT.thaw r)
theorem RelF.thaw : ∀ {ws : List (Str × W)} {vs : List (Str × V)}, RelF K φ n H ws vs -> RelF K φ n (upd H d u) ws vs
 | _, _, .nil => .nil
 | _, _, .cons h r => .cons (h.thaw e hu hc) (RelF.thaw r)
theorem thawPO {p : PO} {a : Addr} (ha : a ≠ d) (h : RelPO K φ n H p a) : RelPO K φ n (upd H d u) p a := by
 have q0 : upd H d u a = H a := upd_ne ha
 cases p with
 | lst ws => obtain ⟨vs, q, r⟩ := h; exact ⟨vs, q0.trans q, r.thaw e hu hc⟩
 | dct kws =>
  rcases h with ⟨vs, q, r⟩ | ⟨vs, q, r⟩
  ·exact .inl ⟨vs, q0.trans q, r.thaw e hu hc⟩
  ·exact .inr ⟨vs, q0.trans q, r.thaw e hu hc⟩
 | obj c fs => obtain ⟨C, dx, vs, q1, q2, r⟩ := h; exact ⟨C, dx, vs, q1, q0.trans q2, r.thaw e hu hc⟩
 | fdc kws =>
  obtain ⟨o, hc', ⟨vs, q, r⟩ | ⟨vs, q, r⟩⟩ := h
  ·exact ⟨o, hc', .inl ⟨vs, q0.trans q, r.thaw e hu hc⟩⟩
  ·exact ⟨o, hc', .inr ⟨vs, q0.trans q, r.thaw e hu hc⟩⟩
end
theorem RelH.thaw {K : PySem.W.Frag} {φ : Nat -> Addr} {ph : PH} {H : Hp} {i : Nat} {kws : List (W × W)} {o : Obj} {u : HO} (h : RelH K φ ph H) (hi : i < ph.length) (e : H (φ i) = some (.frz o u)) (hu : dicHO u) (hw : ph[i]? = some (.fdc kws)) : RelH K φ (ph.set i (.dct kws)) (upd H (φ i) u) := by
 have key : o.cls = .type "dict" /\ ((∃ kvs, u = .dK kvs /\ RelD K φ ph.length H kws kvs) \/ ∃ kvs, u = .dT kvs /\ RelT K φ ph.length H kws kvs) := by
  obtain ⟨o', hc', ⟨vs, q, r⟩ | ⟨vs, q, r⟩⟩ := h.hp i _ hw
  ·rw [e] at q; cases q; exact ⟨hc', .inl ⟨vs, rfl, r⟩⟩
  ·rw [e] at q; cases q; exact ⟨hc', .inr ⟨vs, rfl, r⟩⟩
 obtain ⟨hc, key⟩ := key
 refine ⟨fun j p ej => ?_, fun j k hj hk z => by rw [List.length_set] at hj hk; exact h.inj j k hj hk z⟩
 rw [List.length_set]
 by_cases hj : j = i
 ·subst hj
  rw [List.getElem?_set_self hi] at ej
  cases ej
  rcases key with ⟨kvs, rfl, r⟩ | ⟨kvs, rfl, r⟩
  ·exact .inl ⟨kvs, upd_same, r.thaw e hu hc⟩
  ·exact .inr ⟨kvs, upd_same, r.thaw e hu hc⟩
 ·rw [List.getElem?_set_ne (Ne.symm hj)] at ej
  exact thawPO e hu hc (fun z => hj (h.inj j i (List.getElem?_eq_some_iff.mp ej).1 hi z)) (h.hp j p ej)
theorem step_thaw {K : PySem.W.Frag} {φ φ' : Nat -> Addr} {n n' : Nat} {H H' : Hp} {d : Addr} {o : Obj} {u v : HO} (hd : H d = some v) (hv : dicHO v) (s : Step K φ n (upd H d (.frz o u)) φ' n' H') : Step K φ n H φ' n' (upd H' d u) := by
 have ne : ∀ a x, H a = some x -> ¬ dicHO x -> a ≠ d := fun a x q nx z => by
  subst z
  rw [hd] at q
  cases q
  exact nx hv
 refine ⟨s.le, s.eq, fun a xs h => ?_, fun a o' u' h => ?_⟩
 ·have ha := ne a _ h (fun z => z)
  rw [upd_ne ha]
  exact s.tup a xs (by rw [upd_ne ha]; exact h)
 ·have ha := ne a _ h (fun z => z)
  rw [upd_ne ha]
  exact s.frz a o' u' (by rw [upd_ne ha]; exact h)
end IL
namespace IL
open PySem PySem.Spec PyProof.Rows L2
def lenHO : HO -> Nat
 | .dK kvs => kvs.length
 | .dT kvs => kvs.length
 | _ => 0
def EntAt (H : Hp) (u : HO) (i : Nat) (y v : V) : Prop := match u with
 | .dK kvs => ∃ k, kvs[i]? = some (k, v) /\ y = kV k
 | .dT kvs => ∃ k b, kvs[i]? = some (k, v) /\ y = .ref b /\ H b = some (.tup (k.map kV))
 | _ => False
def Itd (d : Addr) (o : Obj) (u : HO) : It :=
 ⟨fun i H => H d = some (.frz o u) /\ i < lenHO u, fun i H x H' => ∃ T y v, x = .ref T /\ H T = none /\ H' = upd H T (.tup [y, v]) /\ EntAt H u i y v, fun i H => H d = some (.frz o u) /\ lenHO u <= i⟩
theorem is_kV {P : Program} {w : World} {k : Key} {x : Value} (h : (mixKind P w).is k x = true) : RelV (kV k) x := by
 rcases keyIs_shape h with ⟨i, t, rfl, rfl⟩ | ⟨y, t, rfl, rfl⟩
 ·exact ⟨t, rfl⟩
 ·exact ⟨t, rfl⟩
theorem Paired.at {α β : Type} {R : α -> β -> Prop} : ∀ {xs : List α} {ys : List β} {i : Nat} {y : β}, Paired R xs ys -> ys[i]? = some y -> ∃ x, xs[i]? = some x /\ R x y
 | _, _, _, _, .nil, e => by simp at e
 | _, _, 0, _, .cons h _, e => by simp at e; subst e; exact ⟨_, rfl, h⟩
 | _, _, i + 1, y, .cons _ r, e => by
  obtain ⟨x, h1, h2⟩ := Paired.at (i := i) r (by simpa using e)
  exact ⟨x, by simpa using h1, h2⟩
theorem dic_ent {P : Program} {w : World} {H : Hp} {h : Heap} {d : Addr} {o : Obj} {u : HO} {es : Array DictEntry} {ep : Nat} (hu : dicHO u) (ok : ObjOk P w H h d u) (ho : h.get? d = some o) (hd : o.data = .dict es ep) :
  lenHO u = es.size /\ ∀ i e, es[i]? = some e -> ∃ y v, EntAt H u i y v /\ RelV y e.key /\ RelV v e.val := by
 cases u with
 | dK kvs =>
  obtain ⟨_, z, vs, rel, o', es', ep', h1, h2, h3, h4, h5, h6⟩ := ok
  rw [ho] at h1
  cases h1
  rw [hd] at h3
  cases h3
  have l1 := Paired.length rel
  have l2 := h5.length
  refine ⟨by show kvs.length = _; rw [l1, <- l2]; simp, fun i e he => ?_⟩
  have he' : es.toList[i]? = some e := by simpa using he
  have hi : i < vs.length := by rw [<- l2]; exact (List.getElem?_eq_some_iff.mp he').1
  obtain ⟨q1, q2⟩ := h5.get? (i := i) (e := e) (k := vs[i].1) (v := vs[i].2) he' (by simp [hi])
  obtain ⟨p, e1, e2, e3⟩ := Paired.at (i := i) (y := vs[i]) rel (by simp [hi])
  refine ⟨kV p.1, p.2, ⟨p.1, e1, rfl⟩, ?_, by rw [q2]; exact e3⟩
  rw [e2]; exact is_kV q1
 | dT kvs =>
  obtain ⟨_, z, xs, rel, o', es', ep', h1, h2, h3, h4, h5⟩ := ok
  rw [ho] at h1
  cases h1
  rw [hd] at h3
  cases h3
  have l1 := Paired.length rel
  have l2 := congrArg List.length h4
  rw [List.length_map] at l2
  refine ⟨by show kvs.length = _; rw [l1, <- l2]; simp, fun i e he => ?_⟩
  have he' : es.toList[i]? = some e := by simpa using he
  rw [h4, List.getElem?_map] at he'
  cases q : xs[i]? with
  | none => rw [q] at he'; cases he'
  | some x =>
   rw [q] at he'
   cases he'
   obtain ⟨p, e1, e2, e3, e4⟩ := Paired.at (i := i) (y := x) rel q
   exact ⟨.ref x.2.1, p.2, ⟨p.1, x.2.1, e1, rfl, e3⟩, rfl, e4⟩
 | _ => exact hu.elim
theorem entry_itemiter_iter : entryFor table "dict_itemiterator.__iter__" = some Builtin.«dict_keyiterator.__iter__» :=
 entryFor_alias (id' := "dict_keyiterator.__iter__") (by kernel_rfl) (by first | rfl | decide +kernel) (by decide +kernel) (by kernel_rfl)
theorem turn_items {P : Program} {w : World} {K : PySem.W.Frag} {elts : List Expr} {j : Nat} {pos : Pos} {d it : Addr} {o : Obj} {u : HO} {es : Array DictEntry} {ep : Nat} (hu : dicHO u) (hd : o.data = .dict es ep) :
  Turn P w K (.Tuple elts j pos) (Itd d o u) [it] it (fun i h => ∃ ok ov, IsItemIter h it d i es.size ep ok ov) where
 mem := by simp
 obj := fun i h ⟨ok, ov, st⟩ b hb => by
  have : b = it := by simpa using hb
  subst this
  exact ⟨_, st, fun v z => by cases z⟩
 keep := fun i h h' ⟨ok, ov, st⟩ k => ⟨ok, ov, k it (by simp) _ st⟩
 item := by
  intro X hP hw hK hc i pins s σ H E I hf st hg
  subst hP hw hK
  obtain ⟨ok, ov, st⟩ := st
  obtain ⟨hg, hi⟩ := hg
  obtain ⟨h1, h2⟩ := (show ObjOk X.prog X.w H s.heap d (.frz o u) from I.hok d _ hg)
  obtain ⟨hl, he⟩ := dic_ent hu h2 h1 hd
  have hi' : i < es.size := by rw [<- hl]; exact hi
  have hx : es[i]? = some es[i] := by simp [hi']
  obtain ⟨y, v, hE, ry, rv⟩ := he i _ hx
  refine raw_next st h1 hd hx fun h' ho hT hk => ⟨_, rfl, ?_⟩
  refine wpAny_letOwnedTupleGo_items ho fun h2' he2 hs2 => ?_
  have kk : ∀ b x, b ∉ [it] -> s.heap.get? b = some x -> h2'.get? b = some x := fun b x hb q => by
   have hb1 : b ≠ it := fun z => hb (by simp [z])
   exact (hs2.2 b hb1).trans (hk b x hb1 q)
  have hTe : s.heap.objs.size ≠ it := Nat.ne_of_gt (Heap.lt_size st)
  have new : ObjOk X.prog X.w (upd H s.heap.objs.size (.tup [y, v])) h2' s.heap.objs.size (.tup [y, v]) :=
   ⟨by show 2 <= sizeLine; decide, [es[i].key, es[i].val], .cons ry (.cons rv .nil), _, (hs2.2 _ hTe).trans hT, rfl, _, rfl⟩
  refine ⟨.ref s.heap.objs.size, _, turnedT (s := s) (h' := h2') (t' := s.toks) I kk hf (Nat.le_refl _) new, rfl, ⟨_, y, v, rfl, I.hok.fresh (Nat.le_refl _), rfl, hE⟩, ⟨_, _, he2⟩, fun b hb => ?_⟩
  have : b = it := by simpa using hb
  subst this
  rw [upd_ne (Ne.symm hTe)]
  exact (hf b hb).1
 done := by
  intro X hP hw hK hc i pins s σ H E I hf st hg
  subst hP hw hK
  obtain ⟨ok, ov, st⟩ := st
  obtain ⟨hg, hi⟩ := hg
  obtain ⟨h1, h2⟩ := (show ObjOk X.prog X.w H s.heap d (.frz o u) from I.hok d _ hg)
  obtain ⟨hl, _⟩ := dic_ent hu h2 h1 hd
  exact raw_end (I.ok.hd hc) st h1 hd (by rw [<- hl]; exact hi) fun h1 eb => ⟨rfl, turnedN (t' := s.toks) I (fun b x hb q => eb b x (fun z => hb (by simp [z])) q) hf⟩
 self := fun A i s Q E ⟨ok, ov, st⟩ h => by
  have hT : s.TypeIs (.ref it) "dict_itemiterator" := ⟨_, st, rfl⟩
  refine wpAny_pyIter_slot hT F.slot_dict_itemiterator_iter (wpAny_call_entry F.slot_dict_itemiterator_iter hT entry_itemiter_iter ?_ (F.args_dict_itemiterator_iter_1 _))
  show wpAny _ _ (PySem.ret (.ref it)) _ _ s
  exact wpAny_pure ⟨_, rfl, "dict_itemiterator", _, hT, F.slot_dict_itemiterator_next.lookup, h⟩
def tItems (X : Cx) (ta : TE) : TI := fun σ H R => ta σ H fun x H1 => ∃ d u, x = .ref d /\ H1 d = some u /\ dicHO u /\ ∀ o, o.cls = .type "dict" -> NF X d -> R (Itd d o u) (upd H1 d (.frz o u))
section
variable {X : Cx} {o : Expr} {ta : TE} {elts : List Expr} {j : Nat} {tp apos cpos : Pos}
theorem pi_items (ho : PE X o ta) (hbase : attributeBase o "items" X.env (eval o X.env) = eval o X.env := by rfl) (hline : (apos.endLine == cpos.line) = true := by rfl) :
  PI X (.Tuple elts j tp) (.Call (.Attribute o "items" apos) [] [] cpos) (tItems X ta) := by
 intro pins s σ H R I h
 refine wpAny_Call_method0_late hbase hline (thn (ho pins s σ H _ I h) fun v s1 ⟨x, H1, I1, r1, d, u, ex, hd, hu, q⟩ => ?_)
 subst ex
 obtain rfl : v = Value.ref d := r1
 obtain ⟨ob, es, ep, h1, h2, h3, h4, nf, I2⟩ := inv_freeze I1 hd hu
 have hdn : ob.dict = none := by
  have hk := I1.hok d u hd
  cases u with
  | dK kvs =>
   obtain ⟨_, _, vs, _, o', _, _, q1, q2, _⟩ := hk
   rw [h1] at q1; cases q1; exact q2.2.1
  | dT kvs =>
   obtain ⟨_, _, xs, _, o', _, _, q1, q2, _⟩ := hk
   rw [h1] at q1; cases q1; exact q2.2.1
  | _ => exact hu.elim
 refine ⟨"dict", "dict.items", PySem.F.plainAttrs_dict, PySem.F.slot_dict_items, PySem.F.type_dict_items, ⟨_, h1, h2⟩, fun a z => by cases z; exact ⟨ob, h1, hdn⟩, Calls.callWith_builtin rfl (PySem.evalArgs_none ?_)⟩
 refine raw_items h4 h1 h2 ?_
 have k3 : ∀ b x, s1.heap.get? b = some x -> (s1.heap.push { cls := .type "dict_items", data := .fields #[.ref d] }).get? b = some x := fun b x q => Heap.get?_push_of_some _ q
 have I3 := I2.kept (t' := s1.toks) k3
 refine raw_iter (s := { s1 with heap := s1.heap.push { cls := .type "dict_items", data := .fields #[.ref d] } }) ⟨_, Heap.get?_push_size _ rfl, rfl, rfl⟩ (k3 _ _ h1) h3 ?_
 have I4 := I3.kept (t' := s1.toks) (h' := (s1.heap.push { cls := .type "dict_items", data := .fields #[.ref d] }).push { cls := .type "dict_itemiterator", data := .fields #[.none, .bool false, .ref d, .int 0 0, .int es.size 0, .int ep 0, .none, .none] }) fun b x q => Heap.get?_push_of_some _ q
 refine ⟨_, [(s1.heap.push { cls := .type "dict_items", data := .fields #[.ref d] }).objs.size], _, _, _, rfl, I4, turn_items hu h3, ⟨_, _, Heap.get?_push_size _ rfl⟩, fun b hb => ?_, q ob h2 nf⟩
 have : b = (s1.heap.push { cls := .type "dict_items", data := .fields #[.ref d] }).objs.size := by simpa using hb
 subst this
 exact I3.fpOk (Nat.le_refl _) (I3.hok.fresh (Nat.le_refl _))
end
def itemsW (kws : List (W × W)) : List W := kws.map fun p => .tup [p.1, p.2]
def fin_D (i : Nat) (kws : List (W × W)) (L : Nat) : Mo W := fun ph => if ph[i]? = some (.fdc kws) then .ok (.ref L) (ph.set i (.dct kws)) else .no
def eCompD (m : EM) (cap : List (Option Nat)) (g : GM) (c : TM) (e : EM) : EM := fun σ => bnd (m σ) fun w ph => match dctAt w ph with
 | some p => bnd (compG (fun _ => true) g c e ph.length (itemsW p.2) (capP cap σ)) (fun _ => fin_D p.1 p.2 ph.length) (ph.set p.1 (.fdc p.2) ++ [.lst []])
 | none => .no
theorem keysW_rel {K : PySem.W.Frag} {φ : Nat -> Addr} {n : Nat} {H : Hp} : ∀ (ks : List Key), RelWs K φ n H (ks.map keyW) (ks.map kV)
 | [] => .nil
 | .inl i :: ks => .cons (.int i) (keysW_rel ks)
 | .inr x :: ks => .cons (.str x) (keysW_rel ks)
theorem keyW_rel {K : PySem.W.Frag} {φ : Nat -> Addr} {n : Nat} {H : Hp} : ∀ (k : Key), RelW K φ n H (keyW k) (kV k)
 | .inl i => .int i
 | .inr x => .str x
theorem RelD.get {K : PySem.W.Frag} {φ : Nat -> Addr} {n : Nat} {H : Hp} : ∀ {kws : List (W × W)} {kvs : List (Key × V)} {i : Nat} {k : Key} {v : V}, RelD K φ n H kws kvs -> kvs[i]? = some (k, v) -> ∃ w, kws[i]? = some (keyW k, w) /\ RelW K φ n H w v
 | _, _, _, _, _, .nil, e => by simp at e
 | _, _, 0, _, _, .cons h _, e => by simp at e; obtain ⟨rfl, rfl⟩ := e; exact ⟨_, rfl, h⟩
 | _, _, i + 1, k, v, .cons _ r, e => by
  obtain ⟨u, h1, h2⟩ := RelD.get (i := i) (k := k) (v := v) r (by simpa using e)
  exact ⟨u, by simpa using h1, h2⟩
theorem RelT.get {K : PySem.W.Frag} {φ : Nat -> Addr} {n : Nat} {H : Hp} : ∀ {kws : List (W × W)} {kvs : List (List Key × V)} {i : Nat} {k : List Key} {v : V}, RelT K φ n H kws kvs -> kvs[i]? = some (k, v) -> ∃ w, kws[i]? = some (.tup (k.map keyW), w) /\ RelW K φ n H w v
 | _, _, _, _, _, .nil, e => by simp at e
 | _, _, 0, _, _, .cons h _, e => by simp at e; obtain ⟨rfl, rfl⟩ := e; exact ⟨_, rfl, h⟩
 | _, _, i + 1, k, v, .cons _ r, e => by
  obtain ⟨u, h1, h2⟩ := RelT.get (i := i) (k := k) (v := v) r (by simpa using e)
  exact ⟨u, by simpa using h1, h2⟩
theorem items_it {K : PySem.W.Frag} {φ : Nat -> Addr} {n : Nat} {H : Hp} {d : Addr} {o : Obj} {u : HO} {kws : List (W × W)} (e : H d = some (.frz o u)) (r : (∃ kvs, u = .dK kvs /\ RelD K φ n H kws kvs) \/ ∃ kvs, u = .dT kvs /\ RelT K φ n H kws kvs) :
  ItI K (Itd d o u) (itemsW kws) (fun _ => true) φ n H := by
 intro φ2 ph2 H2 hH2 s2 _ j
 have e2 := s2.frz _ _ _ e
 have hl : lenHO u = (itemsW kws).length := by
  unfold itemsW
  rw [List.length_map]
  rcases r with ⟨kvs, rfl, r⟩ | ⟨kvs, rfl, r⟩
  ·exact r.len.symm
  ·exact r.len.symm
 refine ⟨fun w hw => ⟨⟨e2, by rw [hl]; exact (List.getElem?_eq_some_iff.mp hw).1⟩, fun x H'' hy => ?_⟩, fun hn => ⟨e2, by rw [hl]; simpa using hn⟩⟩
 obtain ⟨T, y, v, rfl, hT, rfl, hE⟩ := hy
 refine ⟨hH2.tup hT, step_tup hT, ?_⟩
 unfold itemsW at hw
 rw [List.getElem?_map] at hw
 rcases r with ⟨kvs, rfl, r⟩ | ⟨kvs, rfl, r⟩
 ·obtain ⟨k, ek, rfl⟩ := hE
  obtain ⟨w', ew, rw'⟩ := (r.mono s2).get ek
  rw [ew] at hw
  cases hw
  exact .tup upd_same (.cons (keyW_rel k) (.cons (rw'.mono (step_tup hT)) .nil))
 ·obtain ⟨k, b, ek, rfl, hb⟩ := hE
  obtain ⟨w', ew, rw'⟩ := (r.mono s2).get ek
  rw [ew] at hw
  cases hw
  refine .tup upd_same (.cons (.tup ?_ (keysW_rel k)) (.cons (rw'.mono (step_tup hT)) .nil))
  rw [upd_ne (ne_of_none hb hT)]
  exact hb
def QT (X : Cx) (Q : VK) : VK := fun v H' => ∃ d o u, H' d = some (.frz o u) /\ dicHO u /\ NF X d /\ Q v (upd H' d u)
section
variable {X : Cx} {tg iter elt : Expr} {ifs : List Expr} {scope : Scope} {pos : Pos} {N : List Str} {cap : List (Option Nat)} {m : EM} {g : GM} {c : TM} {e : EM}
theorem compD_imp {σ : L2.St} {H : Hp} {Q : VK} (h : tM X (eCompD m cap g c e) σ H Q) : tComp (tItems X (tM X m)) cap (tG0 X.K g) (tT0 X.K c) (tM0 X.K e) σ H (QT X Q) := by
 obtain ⟨φ, ph, ws, hH, hS, h⟩ := h
 refine tM.bind hH hS h fun w ph1 φ1 H1 v hH1 s1 r1 h => ?_
 cases hp : dctAt w ph1 with
 | none => rw [hp] at h; exact h.elim
 | some p =>
  obtain ⟨i, kws⟩ := p
  rw [hp] at h
  simp only [] at h
  rw [run_bnd] at h
  obtain ⟨rfl, hi, hd, rfl⟩ := dctAt_rel hH1 r1 hp
  have key : ∃ u, H1 (φ1 i) = some u /\ dicHO u /\ ((∃ kvs, u = .dK kvs /\ RelD X.K φ1 ph1.length H1 kws kvs) \/ ∃ kvs, u = .dT kvs /\ RelT X.K φ1 ph1.length H1 kws kvs) := by
   rcases hH1.hp i _ hd with ⟨kvs, q, r⟩ | ⟨kvs, q, r⟩
   ·exact ⟨_, q, trivial, .inl ⟨kvs, rfl, r⟩⟩
   ·exact ⟨_, q, trivial, .inr ⟨kvs, rfl, r⟩⟩
  obtain ⟨u, hu1, hu2, hr⟩ := key
  refine ⟨φ1 i, u, rfl, hu1, hu2, fun o ho nf D hD => ?_⟩
  have sf := step_set (K := X.K) (φ := φ1) (n := ph1.length) (y := HO.frz o u) hu1 (dic_mut hu2)
  have hr2 : (∃ kvs, u = .dK kvs /\ RelD X.K φ1 ph1.length (upd H1 (φ1 i) (.frz o u)) kws kvs) \/ ∃ kvs, u = .dT kvs /\ RelT X.K φ1 ph1.length (upd H1 (φ1 i) (.frz o u)) kws kvs := by
   rcases hr with ⟨kvs, q, r⟩ | ⟨kvs, q, r⟩
   ·exact .inl ⟨kvs, q, r.mono sf⟩
   ·exact .inr ⟨kvs, q, r.mono sf⟩
  have hH2 : RelH X.K φ1 (ph1.set i (.fdc kws)) (upd H1 (φ1 i) (.frz o u)) := hH1.put hd rfl ⟨o, ho, by
   rcases hr2 with ⟨kvs, rfl, r⟩ | ⟨kvs, rfl, r⟩
   ·exact .inl ⟨kvs, upd_same, r⟩
   ·exact .inr ⟨kvs, upd_same, r⟩⟩
  have hl : (ph1.set i (.fdc kws)).length = ph1.length := List.length_set ..
  have hJ := items_it (K := X.K) (φ := φ1) (n := (ph1.set i (.fdc kws)).length) (H := upd H1 (φ1 i) (.frz o u)) (o := o) (d := φ1 i) (kws := kws) upd_same (by rw [hl]; exact hr2)
  refine comp_tail (ws := ws) hH2 (by rw [hl]; exact (hS.mono s1).mono sf) hJ hD ?_
  rw [hl]
  refine Out.Run.mono h (fun _ ph2 h2 φ' H' v r' st' rv => ?_) fun _ _ _ => trivial
  have hphi : φ' i = φ1 i := st'.eq i hi
  have hfz : H' (φ1 i) = some (.frz o u) := st'.frz _ _ _ upd_same
  have hle : ph1.length <= ph2.length := st'.le
  refine ⟨φ1 i, o, u, hfz, hu2, nf, ?_⟩
  unfold fin_D at h2
  split at h2
  ·rename_i hw
   have hi2 : i < ph2.length := Nat.lt_of_lt_of_le hi hle
   have t1 := r'.thaw hi2 (by rw [hphi]; exact hfz) hu2 hw
   rw [hphi] at t1
   have hl2 : (ph2.set i (PO.dct kws)).length = ph2.length := List.length_set ..
   exact h2 φ' _ v t1 (by rw [hl2]; exact s1.trans (step_thaw hu1 hu2 st')) (by rw [hl2]; exact rv.thaw hfz hu2 ho)
  ·exact h2.elim
variable {o : Expr} {elts : List Expr} {j : Nat} {tp apos cpos : Pos}
theorem is_compD {i : Nat} {x : Str} {pos' pos2 : Pos} (hN : X.N.Nodup) (hi' : X.N[i]? = some x) (hx : X.env.scope.names.lookup x = some .local)
  (hc : X.calm = true) (cp : Cap X N cap scope) (ho : IE X o m) (hg : ∀ cl C s₀ H₀ ex, IG (blk X N scope cl C s₀ H₀ ex) (.Tuple elts j tp) g) (ht : ∀ cl C s₀ H₀ ex, PF (blk X N scope cl C s₀ H₀ ex) ifs (tT0 X.K c))
  (he : ∀ cl C s₀ H₀ ex, IE (blk X N scope cl C s₀ H₀ ex) elt e) (hsw : swapsWith (.ListComp elt [⟨.Tuple elts j tp, .Call (.Attribute o "items" apos) [] [] cpos, ifs, 0⟩] scope pos) (some (.Name x pos')) pos2.line X.env = pure true := by rfl)
  (hbase : attributeBase o "items" X.env (eval o X.env) = eval o X.env := by rfl) (hline : (apos.endLine == cpos.line) = true := by rfl)
  (hs : ∀ x, foldedSetIterable (.Call (.Attribute o "items" apos) [] [] cpos) X.env x = pure x := by intro _; rfl) :
  IS X (.Assign [.Name x pos'] (.ListComp elt [⟨.Tuple elts j tp, .Call (.Attribute o "items" apos) [] [] cpos, ifs, 0⟩] scope pos) pos2) (sAsg (eCompD m cap g c e) (gN i)) := by
 intro pins s σ H D I h
 obtain ⟨φ, ph, ws, hH, hS, h⟩ := h
 unfold sAsg at h
 rw [run_bnd] at h
 have hd := compD_imp (X := X) (σ := σ) (H := H) (Q := fun v H1 => D.nx (σ.set i (some v)) H1) ⟨φ, ph, ws, hH, hS, h.mono (fun w ph1 h φ1 H1 v hH1 s1 r1 => h φ1 H1 hH1 s1 _ ((hS.mono s1).set r1 i)) fun _ _ z => z⟩
 refine thn (ps_comp hN hi' hx hsw hc cp (pi_items ho hbase hline) (fun cl C s₀ H₀ ex => g0 (hg cl C s₀ H₀ ex)) ht (fun cl C s₀ H₀ ex => e0 (he cl C s₀ H₀ ex)) hs pins s σ H { D with nx := fun σ' H' => ∃ d o u, H' d = some (.frz o u) /\ dicHO u /\ NF X d /\ D.nx σ' (upd H' d u) } I hd) fun f s' q => ?_
 cases f with
 | next =>
  obtain ⟨σ', H', I', d, o, u, e, hu, nf, q⟩ := q
  exact ⟨σ', _, inv_thaw I' e hu nf, q⟩
 | brk => exact q
 | cont => exact q
 | ret u => exact q
end
section
variable {X : Cx} {e o : Expr} {m mo : EM} {g : GM} {t : TM} {pos pos' p tp apos cpos : Pos} {elts : List Expr} {j : Nat}
theorem js_compD {scope : Scope} {ifs : List Expr} {N' : List Str} {cap : List (Option Nat)} {i : Nat} {x : Str} (hN : X.N.Nodup) (hi' : X.N[i]? = some x) (hx : X.env.scope.names.lookup x = some .local)
  (hc : X.calm = true) (cp : Cap X N' cap scope) (ho : JE X o mo) (hg : ∀ cl C s₀ H₀ ex, JG (blk X N' scope cl C s₀ H₀ ex) (.Tuple elts j tp) g) (ht : ∀ cl C s₀ H₀ ex, JF (blk X N' scope cl C s₀ H₀ ex) ifs t)
  (he : ∀ cl C s₀ H₀ ex, JE (blk X N' scope cl C s₀ H₀ ex) e m) (hsw : swapsWith (.ListComp e [⟨.Tuple elts j tp, .Call (.Attribute o "items" apos) [] [] cpos, ifs, 0⟩] scope p) (some (.Name x pos')) pos.line X.env = pure true)
  (hbase : attributeBase o "items" X.env (eval o X.env) = eval o X.env := by rfl) (hline : (apos.endLine == cpos.line) = true := by rfl)
  (hs : ∀ x, foldedSetIterable (.Call (.Attribute o "items" apos) [] [] cpos) X.env x = pure x := by intro _; rfl) :
  JS X (.Assign [.Name x pos'] (.ListComp e [⟨.Tuple elts j tp, .Call (.Attribute o "items" apos) [] [] cpos, ifs, 0⟩] scope p) pos) (sAsg (eCompD mo cap g t m) (gN i)) :=
 ⟨is_compD hN hi' hx hc cp ho.h (fun cl C s₀ H₀ ex => (hg cl C s₀ H₀ ex).h) (fun cl C s₀ H₀ ex => (ht cl C s₀ H₀ ex).h) (fun cl C s₀ H₀ ex => (he cl C s₀ H₀ ex).h) hsw hbase hline hs⟩
end
def isDc (w : W) (ph : PH) : Bool := (dctAt w ph).isSome
theorem isDc_i {K : PySem.W.Frag} : TyI K "dict" isDc := by
 intro φ ph H x vx hH rx e
 unfold isDc at e
 obtain ⟨⟨i, kws⟩, hp⟩ := Option.isSome_iff_exists.mp e
 obtain ⟨rfl, hi, hd, rfl⟩ := dctAt_rel hH rx hp
 rcases hH.hp i _ hd with ⟨kvs, q, _⟩ | ⟨kvs, q, _⟩
 ·exact .inr (.inr (.inl ⟨rfl, .inl ⟨kvs, q⟩⟩))
 ·exact .inr (.inr (.inl ⟨rfl, .inr ⟨kvs, q⟩⟩))
def rGet : V -> List V -> Hp -> VK -> Prop := fun x ys H Q => ∃ a y o, x = .ref a /\ DGetE H a y o /\ ((ys = [y] /\ Q (o.getD .non) H) \/ ∃ d, ys = [y, d] /\ Q (o.getD d) H)
def getW : W -> List W -> Po W := fun x xs ph => match dctAt x ph with
 | some p => match xs with
  | [y] => if okKey p.2 y = true then some ((dgetW p.2 y).getD .non, ph) else none
  | [y, z] => if okKey p.2 y = true then some ((dgetW p.2 y).getD z, ph) else none
  | _ => none
 | none => none
theorem ROpt.getD {K : PySem.W.Frag} {φ : Nat -> Addr} {n : Nat} {H : Hp} {a : Option W} {b : Option V} {z : W} {y : V} (h : ROpt K φ n H a b) (r : RelW K φ n H z y) : RelW K φ n H (a.getD z) (b.getD y) := by
 cases a <;> cases b <;> first | exact r | exact h | exact h.elim
theorem mt_get {X : Cx} (hu : X.A.units + 1 < cLine) : MtR X "dict.get" rGet := by
 intro pins s σ H x xs v us Q I rx rv h
 obtain ⟨a, y, o, rfl, g, h⟩ := h
 obtain rfl : v = Value.ref a := rx
 rcases h with ⟨rfl, q⟩ | ⟨d, rfl, q⟩
 ·obtain ⟨u, rfl, ru⟩ := rv.one
  rcases g with g | ⟨rfl, ⟨e, k, b, ey, eb⟩ | ⟨e, k, ey⟩⟩
  ·exact d_get1 hu I g ru fun w' s' I' r' => ⟨_, H, I', r', q⟩
  ·subst ey
   have g : DGet (upd H a (.dT [])) a (.ref b) none := .inr ⟨[], k, b, .inl upd_same, rfl, by rw [upd_ne (ne_of eb e (fun z => nomatch z))]; exact eb, rfl⟩
   exact d_get1 hu (inv_kt I e) g ru fun w' s3 I3 r' => ⟨_, H, by have := inv_tk I3 upd_same; rwa [upd_back e] at this, r', q⟩
  ·subst ey
   have g : DGet (upd H a (.dK [])) a (kV k) none := .inl ⟨[], k, .inl upd_same, rfl, rfl⟩
   exact d_get1 hu (inv_tk I e) g ru fun w' s3 I3 r' => ⟨_, H, by have := inv_kt I3 upd_same; rwa [upd_back e] at this, r', q⟩
 ·obtain ⟨u, u2, rfl, ru, rd⟩ := Vals.two rv
  rcases g with g | ⟨rfl, ⟨e, k, b, ey, eb⟩ | ⟨e, k, ey⟩⟩
  ·exact d_get2 hu I g ru rd fun w' s' I' r' => ⟨_, H, I', r', q⟩
  ·subst ey
   have g : DGet (upd H a (.dT [])) a (.ref b) none := .inr ⟨[], k, b, .inl upd_same, rfl, by rw [upd_ne (ne_of eb e (fun z => nomatch z))]; exact eb, rfl⟩
   exact d_get2 hu (inv_kt I e) g ru rd fun w' s3 I3 r' => ⟨_, H, by have := inv_tk I3 upd_same; rwa [upd_back e] at this, r', q⟩
  ·subst ey
   have g : DGet (upd H a (.dK [])) a (kV k) none := .inl ⟨[], k, .inl upd_same, rfl, rfl⟩
   exact d_get2 hu (inv_tk I e) g ru rd fun w' s3 I3 r' => ⟨_, H, by have := inv_kt I3 upd_same; rwa [upd_back e] at this, r', q⟩
theorem getW_i {K : PySem.W.Frag} : MtI K "dict" rGet getW := by
 intro φ ph H x xs vx vs w ph' Q hH rx rs e k
 unfold getW at e
 split at e
 ·rename_i p hp
  obtain ⟨i, kws⟩ := p
  obtain ⟨rfl, hi, hd, rfl⟩ := dctAt_rel hH rx hp
  split at e
  ·split at e
   ·rename_i hk
    cases e
    cases rs with
    | cons r0 rr =>
     cases rr
     obtain ⟨o, g, ro⟩ := dget_rel hH hd r0 hk
     exact ⟨_, _, o, rfl, g, .inl ⟨rfl, k φ H _ hH Step.refl (ro.getD .non)⟩⟩
   ·cases e
  ·split at e
   ·rename_i hk
    cases e
    cases rs with
    | cons r0 rr =>
     cases rr with
     | cons r1 rr =>
      cases rr
      obtain ⟨o, g, ro⟩ := dget_rel hH hd r0 hk
      exact ⟨_, _, o, rfl, g, .inr ⟨_, rfl, k φ H _ hH Step.refl (ro.getD r1)⟩⟩
   ·cases e
  ·cases e
 ·cases e
end IL
namespace IL
open PySem PySem.Spec PyProof.Rows L2
def putFW (f : Str) (w : W) : List (Str × W) -> List (Str × W)
 | [] => [(f, w)]
 | (g, x) :: r => if g = f then (g, w) :: r else (g, x) :: putFW f w r
section
variable {K : PySem.W.Frag} {φ : Nat -> Addr} {n : Nat} {H : Hp}
theorem RelF.lookup (f : Str) : ∀ {ws : List (Str × W)} {vs : List (Str × V)}, RelF K φ n H ws vs -> ROpt K φ n H (ws.lookup f) (vs.lookup f)
 | _, _, .nil => trivial
 | _, _, .cons (f := g) h r => by
  rw [List.lookup_cons, List.lookup_cons]
  cases f == g with
  | true => exact h
  | false => exact RelF.lookup f r
theorem RelF.len : ∀ {ws : List (Str × W)} {vs : List (Str × V)}, RelF K φ n H ws vs -> ws.length = vs.length
 | _, _, .nil => rfl
 | _, _, .cons _ r => by rw [List.length_cons, List.length_cons, RelF.len r]
theorem RelF.put (f : Str) {w : W} {v : V} (q : RelW K φ n H w v) : ∀ {ws : List (Str × W)} {vs : List (Str × V)}, RelF K φ n H ws vs -> RelF K φ n H (putFW f w ws) (putF f v vs)
 | _, _, .nil => .cons q .nil
 | _, _, .cons (f := g) h r => by
  unfold putFW putF
  by_cases e : g = f
  ·rw [if_pos e, if_pos e]; exact .cons q r
  ·rw [if_neg e, if_neg e]; exact .cons h (RelF.put f q r)
end
def fldW (c f : Str) (w : W) : Po W := fun ph => match w with
 | .ref i => match ph[i]? with
  | some (.obj c' fs) => if c' = c then (fs.lookup f).map fun x => (x, ph) else none
  | _ => none
 | _ => none
def eFld (c f : Str) (m : EM) : EM := fun σ => bnd (m σ) fun w => lift (fldW c f w)
def setF (c f : Str) (x y : W) : Po Unit := fun ph => match x with
 | .ref i => match ph[i]? with
  | some (.obj c' fs) => if c' = c /\ fs.length < 1000 then some ((), ph.set i (.obj c' (putFW f y fs))) else none
  | _ => none
 | _ => none
def sFldW (c f : Str) (o v : EM) : SM := fun σ => bnd (v σ) fun y => bnd (o σ) fun x => bnd (lift (setF c f x y)) fun _ => pur (.nx σ)
def wantN : W -> Mo W -> Mo W
 | .non, m => m
 | _, _ => nop
def eNew (c : Str) (fm : List W -> Mo W) : EM := fun _ ph => bnd (noEx (fm [.ref ph.length])) (fun w => wantN w (pur (.ref ph.length))) (ph ++ [.obj c []])
section
variable {X : Cx} {e o value : Expr} {m mo mv : EM} {c f : Str} {C : Addr} {pos pos' p : Pos}
theorem ie_fld (hns : PySem.W.nsIn X.K mainGlobals c = some (some (.ref C))) (hc : Cls X.K C) (hn : NoAttr X.K C f) (he : IE X e m) (hb : attributeBase e f X.env (eval e X.env) = eval e X.env := by rfl) : IE X (.Attribute e f pos) (eFld c f m) := by
 refine PE.imp (pe_fld he hb) fun σ H Q h => ?_
 obtain ⟨φ, ph, ws, hH, hS, h⟩ := h
 refine tM.bind hH hS h fun x ph1 φ1 H1 vx hH1 s1 rx h => ?_
 obtain ⟨w, ph', e, k⟩ := run_lift h
 unfold fldW at e
 cases rx with
 | ref hi =>
  simp only at e
  split at e
  ·rename_i c' fs hw
   split at e
   ·rename_i hcc
    subst hcc
    obtain ⟨C', dx, vs, q1, q2, r⟩ := hH1.hp _ _ hw
    rw [hns] at q1
    cases q1
    have ro := r.lookup f
    cases q : fs.lookup f with
    | none => rw [q] at e; cases e
    | some y =>
     rw [q] at e ro
     cases e
     cases q' : vs.lookup f with
     | none => rw [q'] at ro; exact ro.elim
     | some v => rw [q'] at ro; exact ⟨_, C, dx, vs, v, rfl, q2, hc, hn, q', k φ1 H1 v hH1 s1 ro⟩
   ·cases e
  ·cases e
 | _ => cases e
theorem is_fld (hns : PySem.W.nsIn X.K mainGlobals c = some (some (.ref C))) (hc : Cls X.K C) (hn : NoAttr X.K C f) (ho : IE X o mo) (hv : IE X value mv) (hs : swapsWith value (some (.Attribute o f pos')) pos.line X.env = pure false) : IS X (.Assign [.Attribute o f pos'] value pos) (sFldW c f mo mv) := by
 refine PS.imp (ps_fld ho hv hs) fun D σ H h => ?_
 obtain ⟨φ, ph, ws, hH, hS, h⟩ := h
 refine tM.bind hH hS h fun y ph1 φ1 H1 vy hH1 s1 ry h => tM.bind hH1 (hS.mono s1) h fun x ph2 φ2 H2 vx hH2 s2 rx h => ?_
 rw [run_bnd] at h
 obtain ⟨_, ph3, e, k⟩ := run_lift h
 have ry' := ry.mono s2
 unfold setF at e
 cases rx with
 | ref hi =>
  simp only at e
  split at e
  ·rename_i c' fs hw
   split at e
   ·rename_i hcc
    obtain ⟨rfl, hz⟩ := hcc
    cases e
    obtain ⟨C', dx, vs, q1, q2, r⟩ := hH2.hp _ _ hw
    rw [hns] at q1
    cases q1
    have s3 := step_set (K := X.K) (φ := φ2) (n := ph2.length) (y := HO.ins C dx (putF f vy vs)) q2 trivial
    refine ⟨_, C, dx, vs, rfl, q2, hc, hn, by rw [<- r.len]; exact hz, ?_⟩
    have hH3 := hH2.put hw rfl (x := HO.ins C dx (putF f vy vs)) (o := .obj c' (putFW f y fs)) ⟨C, dx, _, hns, upd_same, (r.put f ry').mono s3⟩
    exact k φ2 _ hH3 (by rw [List.length_set]; exact (s1.trans s2).trans s3) σ (by rw [List.length_set]; exact ((hS.mono s1).mono s2).mono s3)
   ·cases e
  ·cases e
 | _ => cases e
theorem ie_new {k : Nat} {g : Addr} {fd : FuncData} {s0 : Str} {fm : List W -> Mo W} (hns : PySem.W.nsIn X.K mainGlobals c = some (some (.ref C))) (M : Mk X.K C g) (F : FnOk X.prog X.w X.K X.mg X.base (CXW X.prog X.w) k g fd [s0] (spM X.K X.mg 1 fm)) (hr : Room (k + 1) X.A)
  (hg : Gl X c) (hm : X.mg c = some (.ref C)) (hb : Binds X.K fd [s0] []) (hdb : (c == ("__debug__" : Str)) = false) : IE X (.Call (.Name c p) [] [] pos) (eNew c fm) := by
 refine PE.imp (pe_make0 (E := fun _ _ _ => False) (dvs := []) M F hr hg hm hb .nil (fun pins σ H s e s' I z => by obtain ⟨_, _, _, z⟩ := z; exact z.elim) hdb) fun σ H Q h => ?_
 obtain ⟨φ, ph, ws, hH, hS, h⟩ := h
 unfold eNew at h
 rw [run_bnd] at h
 intro x dx hx hdx hne
 have hx1 : upd H dx (.own x) x = none := by rw [upd_ne (Ne.symm hne)]; exact hx
 have hl : (ph ++ [PO.obj c []]).length = ph.length + 1 := by simp
 have s1 := step_exc (K := X.K) (φ := φ) (n := ph.length) (o := HO.own x) hdx
 have s2 := step_new (K := X.K) (φ := φ) (n := ph.length) (o := HO.ins C dx []) hx1
 have hH1 := (relH_exc (o := HO.own x) hH hdx).new hx1 (o := PO.obj c []) (x := HO.ins C dx []) ⟨C, dx, [], hns, upd_same, .nil⟩
 have q : RelW X.K (ext φ ph.length x) (ph.length + 1) (upd (upd H dx (.own x)) x (.ins C dx [])) (.ref ph.length) (.ref (ext φ ph.length x ph.length)) := .ref (Nat.lt_succ_self _)
 rw [ext_eq] at q
 refine ⟨rfl, ext φ ph.length x, ph ++ [.obj c []], [.ref ph.length], hH1, .cons (by rw [hl]; exact q) .nil, (run_noEx (E' := fun _ _ => False) h).mono (fun w ph' h φ' H' v hH' s' rv => ?_) fun _ _ z => False.elim z⟩
 rw [hl] at s'
 cases rv with
 | non => exact ⟨rfl, h φ' H' _ hH' ((s1.trans s2).trans s') (q.mono s')⟩
 | _ => exact h.elim
theorem je_fld (hns : PySem.W.nsIn X.K mainGlobals c = some (some (.ref C))) (hc : Cls X.K C) (hn : NoAttr X.K C f) (he : JE X e m) (hb : attributeBase e f X.env (eval e X.env) = eval e X.env := by rfl) : JE X (.Attribute e f pos) (eFld c f m) := ⟨ie_fld hns hc hn he.h hb⟩
theorem js_fld (hns : PySem.W.nsIn X.K mainGlobals c = some (some (.ref C))) (hc : Cls X.K C) (hn : NoAttr X.K C f) (hnc : noComp value = true) (ho : JE X o mo) (hv : JE X value mv) : JS X (.Assign [.Attribute o f pos'] value pos) (sFldW c f mo mv) := ⟨is_fld hns hc hn ho.h hv.h (swaps_no hnc)⟩
theorem je_new {k : Nat} {g : Addr} {fd : FuncData} {s0 : Str} {fm : List W -> Mo W} (hns : PySem.W.nsIn X.K mainGlobals c = some (some (.ref C))) (M : Mk X.K C g) (F : FnOk X.prog X.w X.K X.mg X.base (CXW X.prog X.w) k g fd [s0] (spM X.K X.mg 1 fm)) (hr : Room (k + 1) X.A)
  (hg : Gl X c) (hm : X.mg c = some (.ref C)) (hb : Binds X.K fd [s0] []) (hdb : (c == ("__debug__" : Str)) = false) : JE X (.Call (.Name c p) [] [] pos) (eNew c fm) := ⟨ie_new hns M F hr hg hm hb hdb⟩
end
end IL
namespace IL
open PySem PySem.Spec PyProof.Rows L2
def augA : W -> W -> Po W := iop fun i j => i + j
section
variable {X : Cx} {N : List Str} {sc : Scope} {e : Expr} {m : EM} {pos pos' : Pos}
theorem aug_imp {i : Nat} {g : Int -> Int -> Int} {D : Ends} {σ : L2.St} {H : Hp} (h : tS X (sAsg (eOp (iop g) (eVar i) m) (gN i)) D σ H) : tAug i (tM X m) (ipI g) D σ H := by
 obtain ⟨φ, ph, ws, hH, hS, h⟩ := h
 unfold sAsg eOp at h
 rw [run_bnd, run_bnd] at h
 obtain ⟨w, ph', e, k⟩ := run_lift h
 split at e
 ·rename_i w' ew
  cases e
  obtain ⟨v, ev, rv⟩ := hS.get ew
  refine ⟨v, ev, ?_⟩
  rw [run_bnd] at k
  refine ⟨φ, ph, ws, hH, hS, k.mono (fun y ph1 k φ1 H1 vy hH1 s1 ry => ?_) fun _ _ z => z⟩
  obtain ⟨z, ph2, e, k⟩ := run_lift k
  have rv' := rv.mono s1
  unfold iop at e
  split at e
  ·cases e
   cases rv'
   cases ry
   refine ⟨_, _, rfl, rfl, ?_⟩
   exact k φ1 H1 hH1 s1 _ ((hS.mono s1).set (.int _) i)
  ·cases e
 ·cases e
theorem BdL.jaugA (B : BdL X N sc) (i : Nat) {x : Str} (hN : N[i]? = some x) (hl : Loc sc x) (he : JE X e m) : JS X (.AugAssign (.Name x pos') .Add e pos) (sAsg (eOp augA (eVar i) m) (gN i)) :=
 ⟨PS.imp (ps_aug (by rw [B.hN]; exact B.nd) (by rw [B.hN]; exact hN) (B.loc x hl) he.h ip_add (B.fn x hl)) fun _ _ _ h => aug_imp h⟩
end
def Itw (lo : Int) (n : Nat) : It := ⟨fun i _ => i < n, fun i H x H' => H' = H /\ x = .int (lo - i), fun i _ => n <= i⟩
theorem turn_down {P : Program} {w : World} {K : PySem.W.Frag} {tg : Expr} (it : Addr) (lo : Int) (n : Nat) : Turn P w K tg (Itw lo n) [it] it (fun i h => IsRangeIter h it (lo + (i : Nat) * (-1)) ((n : Int) - (i : Nat)) (-1)) where
 mem := by simp
 obj := fun i h st b hb => by
  have e : b = it := by simpa using hb
  subst e
  exact ⟨_, st, fun v z => by
   have z' : Data.fields _ = Data.cell v := z
   cases z'⟩
 keep := fun i h h' st k => k it (by simp) _ st
 item := by
  intro X hP hw hK hc i pins s σ H E I hf st hg
  subst hP hw hK
  obtain ⟨f0, f1, f2, f3, f4, f5⟩ := hf it (by simp)
  have W := Walks.range (prog := X.prog) (w := X.w) (I.ok.hd hc) it lo (-1) n
  refine W.item i s _ _ hg st fun v h' tk hv st' kk => ?_
  obtain ⟨t, rfl⟩ := hv
  have I1 : Inv X pins σ H { s with heap := h', toks := tk } := I.turned (fun b o hb e => kk b o (by simpa using hb) e) f0 f1 f3 f4 f5
  refine ⟨_, rfl, go_of (s := { s with heap := h', toks := tk }) (n := "range_iterator") st' rfl rfl (by decide) ⟨.int (lo - i), H, I1, ⟨t, ?_⟩, ⟨rfl, rfl⟩, st', fun b hb => (hf b hb).1⟩⟩
  rw [show lo + (i : Int) * (-1) = lo - (i : Int) by omega]
 done := by
  intro X hP hw hK hc i pins s σ H E I hf st hg
  subst hP hw hK
  obtain ⟨f0, f1, f2, f3, f4, f5⟩ := hf it (by simp)
  exact wpAny_pyNext_range_end (I.ok.hd hc) st (by have : n <= i := hg; omega) fun h' eb => ⟨rfl, I.turned (t' := s.toks) (fun b o hb e => eb b o hb e) f0 f1 f3 f4 f5⟩
 self := fun _ _ _ _ _ st h => wpAny_pyIter_rangeiter st h
theorem rangeSize_down (lo hi : Int) : Builtin.Range.rangeSize lo hi (-1) = (((lo - hi).toNat : Nat) : Int) := by
 unfold Builtin.Range.rangeSize
 simp
 split <;> omega
theorem small_down {lo hi : Int} (h1 : -(2 ^ 62) <= lo) (h2 : lo < 2 ^ 62) (h3 : -(2 ^ 62) <= hi) (h4 : hi < 2 ^ 62) : Builtin.Range.small lo hi (-1) = true := by
 unfold Builtin.Range.small
 rw [rangeSize_down]
 simp only [Builtin.Range.rangeFitsLong, Bool.and_eq_true, Bool.or_eq_true, decide_eq_true_eq, beq_iff_eq, show ¬ ((-1 : Int) > 0) by decide, if_false]
 (try split) <;> omega
section
variable {X : Cx} {tg : Expr}
theorem down_it {pins : List (Addr × Obj)} {σ : L2.St} {H : Hp} {s : Shared} {R : It -> Hp -> Prop} {E : Value -> Shared -> Prop} {lo hi : Int} {t u v : Tok} {tk : Nat} (I : Inv X pins σ H s) (h1 : -(2 ^ 62) <= lo) (h2 : lo < 2 ^ 62) (h3 : -(2 ^ 62) <= hi) (h4 : hi < 2 ^ 62)
  (q : R (Itw lo (lo - hi).toNat) H) : wpAny (model X.prog X.w) X.A (pyIter (.ref s.heap.objs.size)) (PIE X pins σ tg R) E { s with heap := s.heap.push { cls := .type "range", data := .fields #[.int lo t, .int hi u, .int (-1) v] }, toks := tk } := by
 refine wpAny_pyIter_range (IsRange.new ..) (small_down h1 h2 h3 h4) ?_
 have I1 : Inv X pins σ H { s with heap := s.heap.push { cls := .type "range", data := .fields #[.int lo t, .int hi u, .int (-1) v] }, toks := tk } := I.kept fun b o e => Heap.get?_push_of_some _ e
 refine ⟨(s.heap.push { cls := .type "range", data := .fields #[.int lo t, .int hi u, .int (-1) v] }).objs.size, [(s.heap.push { cls := .type "range", data := .fields #[.int lo t, .int hi u, .int (-1) v] }).objs.size], _, _, H, rfl,
  I1.kept (t' := tk) fun b o e => Heap.get?_push_of_some _ e, turn_down _ lo (lo - hi).toNat, ?_, fun b hb => ?_, q⟩
 ·have e1 : lo + ((0 : Nat) : Int) * (-1) = lo := by simp
  have e2 : (((lo - hi).toNat : Nat) : Int) - ((0 : Nat) : Int) = Builtin.Range.rangeSize lo hi (-1) := by rw [rangeSize_down]; omega
  show IsRangeIter _ _ (lo + ((0 : Nat) : Int) * (-1)) ((((lo - hi).toNat : Nat) : Int) - ((0 : Nat) : Int)) (-1)
  rw [e1, e2]
  exact Heap.get?_push_size _ rfl
 ·have e : b = (s.heap.push { cls := .type "range", data := .fields #[.int lo t, .int hi u, .int (-1) v] }).objs.size := by simpa using hb
  subst e
  exact I1.fpOk (Nat.le_refl _) (I1.hok.fresh (Nat.le_refl _))
def iRngD (ta : TA) : TI := fun σ H R => ta σ H fun vs H1 => ∃ i j : Int, vs = [.int i, .int j, .int (-1)] /\ (-(2 ^ 62) <= i /\ i < 2 ^ 62 /\ -(2 ^ 62) <= j /\ j < 2 ^ 62) /\ R (Itw i (i - j).toNat) H1
theorem pi_rangeD {a b c : Expr} {ta : TA} {p pos : Pos} (hg : Gl X "range") (hm : X.mg "range" = none) (ha : PA X [a, b, c] ta) (hs : starEach [a, b, c] X.env = (false, eval a X.env) :: starEach [b, c] X.env) (hs2 : (backTo pos (starEach [b, c] X.env)).any (·.1) = false) :
  PI X tg (.Call (.Name "range" p) [a, b, c] [] pos) (iRngD ta) := by
 intro pins s σ H R I h
 refine Call_ (ld_blt I hg hm boot_range (PyProof.Rows.callWith_type1 (thn (ha pos pins s σ H _ I h) fun us s1 ⟨vs, H1, I1, r1, q1⟩ => ?_) hs hs2))
 obtain ⟨i, j, e, ⟨q1, q2, q3, q4⟩, q⟩ := q1
 subst e
 cases r1 with
 | cons r rr =>
  cases rr with
  | cons r' rr =>
   cases rr with
   | cons r'' rr =>
    cases rr
    obtain ⟨t, rfl⟩ := r
    obtain ⟨t', rfl⟩ := r'
    obtain ⟨t'', rfl⟩ := r''
    exact call_range_3 (by decide) (down_it I1 q1 q2 q3 q4 q) (Or.inl (PyProof.noPylong_small (by omega)))
end
def dwnW (lo : Int) (n : Nat) : List W := (List.range n).map fun i : Nat => .int (lo - ((i : Nat) : Int))
def rngD (xs : List W) : Po (List W × (PH -> Bool)) := fun ph => match xs with
 | [.int i, .int j, .int k] => if (-(2 ^ 62) <= i /\ i < 2 ^ 62 /\ -(2 ^ 62) <= j /\ j < 2 ^ 62) /\ k = -1 then some ((dwnW i (i - j).toNat, fun _ => true), ph) else none
 | _ => none
def iR3 (m : AM) : IM := fun σ => bnd (m σ) fun xs => lift (rngD xs)
theorem dwn_it {K : PySem.W.Frag} {lo : Int} {n : Nat} {chk : PH -> Bool} {φ : Nat -> Addr} {k : Nat} {H : Hp} : ItI K (Itw lo n) (dwnW lo n) chk φ k H := by
 intro φ2 ph2 H2 hH2 s2 hc j
 unfold dwnW
 refine ⟨fun w hw2 => ?_, fun hn => ?_⟩
 ·rw [List.getElem?_map] at hw2
  have hj : j < n := by
   by_cases hj : j < n
   ·exact hj
   ·rw [List.getElem?_eq_none (by simpa using hj)] at hw2; cases hw2
  rw [List.getElem?_range hj] at hw2
  cases hw2
  refine ⟨hj, fun x H'' hy => ?_⟩
  obtain ⟨rfl, rfl⟩ := hy
  exact ⟨hH2, Step.refl, .int _⟩
 ·have : n <= j := by simpa using hn
  exact this
theorem ji_range3 {X : Cx} {tg a b c : Expr} {am : AM} {p pos : Pos} (hg : Gl X "range") (hm : X.mg "range" = none) (hn : isStar a = false) (hn2 : isStar b = false) (hn3 : isStar c = false) (ha : JA X [a, b, c] am) : JI X tg (.Call (.Name "range" p) [a, b, c] [] pos) (iR3 am) := ⟨by
 refine PI.imp (pi_rangeD hg hm ha.h (star_cons hn) (any_none (by simp [noStars, hn2, hn3]))) fun σ H R h => ?_
 obtain ⟨φ, ph, ws, hH, hS, h⟩ := h
 refine tA.bind hH hS h fun xs ph1 φ1 H1 vs hH1 s1 r1 h => ?_
 obtain ⟨r, ph', e, k⟩ := run_lift h
 unfold rngD at e
 split at e
 ·split at e
  ·rename_i hc
   obtain ⟨hc, rfl⟩ := hc
   cases e
   cases r1 with
   | cons r r' =>
    cases r
    cases r' with
    | cons r r' =>
     cases r
     cases r' with
     | cons r r' => cases r; cases r'; exact ⟨_, _, rfl, hc, k φ1 H1 _ hH1 s1 dwn_it⟩
  ·cases e
 ·cases e⟩
end IL
namespace IL
open PySem PySem.Spec PyProof.Rows L2
section
variable {X : Cx} {pins : List (Addr × Obj)} {σ : L2.St} {H : Hp} {s : Shared} {φ : Nat -> Addr} {ph : PH} {i : Nat} {kws : List (W × W)}
theorem dk_view (I : Inv X pins σ H s) (hH : RelH X.K φ ph H) (hd : ph[i]? = some (.dct kws)) (hk : kws.all (fun p => !isT p.1) = true) :
  ∃ kvs vs, RelD X.K φ ph.length H kws kvs /\ KV kvs vs /\ s.heap.DictOf (mixKind X.prog X.w) (φ i) vs /\ (φ i == sysModules) = false /\ kvs.length <= sizeLine /\ (H (φ i) = some (.dK kvs) \/ (H (φ i) = some (.dT []) /\ kvs = [])) := by
 rcases hH.hp _ _ hd with ⟨kvs, e, r⟩ | ⟨kvs, e, r⟩
 ·obtain ⟨z, y, vs, rel, dd⟩ := dk_of I.hok e
  exact ⟨kvs, vs, r, rel, dd, y, z, .inl e⟩
 ·obtain ⟨rfl, rfl⟩ := r.allT hk
  obtain ⟨z, y, vs, rel, dd⟩ := dk_of (kvs := []) (inv_tk I e).hok upd_same
  exact ⟨[], vs, .nil, rel, dd, y, Nat.zero_le _, .inr ⟨e, rfl⟩⟩
theorem dt_view (I : Inv X pins σ H s) (hH : RelH X.K φ ph H) (hd : ph[i]? = some (.dct kws)) (hk : kws.all (fun p => isT p.1) = true) :
  ∃ kvs xs, RelT X.K φ ph.length H kws kvs /\ KT H kvs xs /\ s.heap.DictOfH (tupleKind (mixKind X.prog X.w)) (φ i) xs /\ (φ i == sysModules) = false := by
 rcases hH.hp _ _ hd with ⟨kvs, e, r⟩ | ⟨kvs, e, r⟩
 ·obtain ⟨rfl, rfl⟩ := r.noT hk
  obtain ⟨z, y, xs, rel, dd⟩ := dt_of (kvs := []) (inv_kt I e).hok upd_same
  cases rel
  exact ⟨[], [], .nil, .nil, dd, y⟩
 ·obtain ⟨z, y, xs, rel, dd⟩ := dt_of I.hok e
  exact ⟨kvs, xs, r, rel, dd, y⟩
end
def rDictC : List V -> Hp -> VK -> Prop := fun xs H Q => ∃ d kvs, xs = [.ref d] /\ (H d = some (.dK kvs) \/ (H d = some (.dT []) /\ kvs = [])) /\ ∀ p, H p = none -> Q (.ref p) (upd H p (.dK kvs))
theorem call_dictC {X : Cx} : CallR X (.type "dict") rDictC := by
 intro pins s σ H xs us Q I r h
 obtain ⟨d, kvs, rfl, hd, h⟩ := h
 obtain ⟨u, rfl, rx⟩ := vals1 r
 obtain rfl : u = Value.ref d := rx
 have key : ∃ vs, KV kvs vs /\ s.heap.DictOf (mixKind X.prog X.w) d vs /\ (d == sysModules) = false /\ kvs.length <= sizeLine := by
  rcases hd with e | ⟨e, rfl⟩
  ·obtain ⟨z, y, vs, rel, dd⟩ := dk_of I.hok e
   exact ⟨vs, rel, dd, y, z⟩
  ·obtain ⟨z, y, vs, rel, dd⟩ := dk_of (kvs := []) (inv_tk I e).hok upd_same
   exact ⟨vs, rel, dd, y, z⟩
 obtain ⟨vs, rel, dd, y, z⟩ := key
 have hbig : (s.heap.objs.size == sysModules) = false := beq_eq_false_iff_ne.mpr (Nat.ne_of_gt I.big)
 refine kt_call_dict y dd (by rw [<- rel.length]; exact z) fun h' dd' sb => ⟨.ref s.heap.objs.size, _, I.laid (t' := s.toks) (a := s.heap.objs.size) (o := .dK kvs) (fun b u q => ?_) (Nat.le_refl _) ⟨z, hbig, vs, rel, dd'⟩, rfl, h _ (I.hok.fresh (Nat.le_refl _))⟩
 exact (sb.2 b (Nat.ne_of_lt (Heap.lt_size q))).trans (Heap.get?_push_of_some _ q)
def dictV : List W -> Po W := fun xs ph => match xs with
 | [w] => match dctAt w ph with
  | some p => if (p.2.all fun q => !isT q.1) = true then some (.ref ph.length, ph ++ [.dct p.2]) else none
  | none => dictW [w] ph
 | _ => none
theorem dictV_i {K : PySem.W.Frag} : CallI K (fun xs H Q => rDict xs H Q \/ rDictC xs H Q) dictV := by
 intro φ ph H xs vs w ph' Q hH r e k
 unfold dictV at e
 split at e
 ·rename_i w0
  split at e
  ·rename_i p hp
   obtain ⟨i, kws⟩ := p
   split at e
   ·rename_i hk
    cases e
    cases r with
    | cons r rr =>
     cases rr
     obtain ⟨rfl, hi, hd, rfl⟩ := dctAt_rel hH r hp
     have key : ∃ kvs, RelD K φ ph.length H kws kvs /\ (H (φ i) = some (.dK kvs) \/ (H (φ i) = some (.dT []) /\ kvs = [])) := by
      rcases hH.hp _ _ hd with ⟨kvs, e, r⟩ | ⟨kvs, e, r⟩
      ·exact ⟨kvs, r, .inl e⟩
      ·obtain ⟨rfl, rfl⟩ := r.allT hk
       exact ⟨[], .nil, .inr ⟨e, rfl⟩⟩
     obtain ⟨kvs, r, hh⟩ := key
     refine .inr ⟨φ i, kvs, rfl, hh, fun p hp => ?_⟩
     have hl : (ph ++ [PO.dct kws]).length = ph.length + 1 := by simp
     have s := step_new (K := K) (φ := φ) (n := ph.length) (o := HO.dK kvs) hp
     have q : RelW K (ext φ ph.length p) (ph.length + 1) (upd H p (.dK kvs)) (.ref ph.length) (.ref (ext φ ph.length p ph.length)) := .ref (Nat.lt_succ_self _)
     rw [ext_eq] at q
     exact k _ _ _ (hH.new hp (.inl ⟨kvs, upd_same, r.mono s⟩)) (by rw [hl]; exact s) (by rw [hl]; exact q)
   ·cases e
  ·exact .inl (dictW_i hH r e k)
 ·cases e
end IL
namespace IL
open PySem PySem.Spec PyProof.Rows L2
section
variable {prog : Program} {w : World} {A : Around} {E : Value -> Shared -> Prop} {s : Shared} {a b : Addr} {oa ob : Obj} {es fs : Array DictEntry} {ea eb : Nat}
def Met (prog : Program) (w : World) (A : Around) (E : Value -> Shared -> Prop) (s : Shared) (b : Addr) (fs : Array DictEntry) (x : DictEntry) (c : Bool) : Prop :=
 (c = false /\ ∀ P : Option Nat -> Shared -> Prop, P none s -> wpAny (model prog w) A (dictFind b x.key x.hash) P E s) \/
 ∃ j y, fs[j]? = some y /\ (∀ P : Option Nat -> Shared -> Prop, P (some j) s -> wpAny (model prog w) A (dictFind b x.key x.hash) P E s) /\ SeqAt.EqAt A s x.val y.val c
theorem same_raw {nm : String} {c : Nat -> Bool} {Q : Bool -> Shared -> Prop} (na : (a == sysModules) = false) (nb : (b == sysModules) = false) (g1 : s.heap.get? a = some oa) (g2 : oa.data = .dict es ea) (g3 : s.heap.get? b = some ob) (g4 : ob.data = .dict fs eb)
  (met : es.size = fs.size -> ∀ i x, es[i]? = some x -> Met prog w A E s b fs x (c i)) (h : Q (es.size == fs.size && (List.range es.size).all c) s) : wpAny (model prog w) A (Builtin.Dict.samePairs nm a b) Q E s := by
 unfold Builtin.Dict.samePairs Builtin.Dict.showsAll
 rw [if_neg (by rw [na]; exact Bool.false_ne_true), if_neg (by rw [nb]; exact Bool.false_ne_true)]
 refine wpAny_bind (wpAny_pure (wpAny_bind (wpAny_pure (wpAny_bind (wpAny_dictEntries g1 g2 ?_)))))
 dsimp only
 refine wpAny_bind (wpAny_dictEntries g3 g4 ?_)
 by_cases sz : es.size = fs.size
 ·have met := met sz
  have h1 : Q ((List.range es.size).all c) s := by rw [sz, beq_self_eq_true, Bool.true_and] at h; rw [sz]; exact h
  rw [if_neg (by rw [sz]; simp)]
  refine wpAny_bind (wpAny_dictEpoch g1 g2 (wpAny_bind ?_))
  rw [Std.Legacy.Range.forIn_eq_forIn_range']
  simp only [Std.Legacy.Range.size, Nat.sub_zero, Nat.add_sub_cancel, Nat.div_one]
  refine wpAny_forIn_list _ (fun rest q s' => s' = s /\ q = (none, ()) /\ ∃ i, rest = List.range' i (es.size - i) /\ i <= es.size /\ ∀ k, k < i -> c k = true) _ ?_ ?_ _ _ ⟨rfl, rfl, 0, by simp, Nat.zero_le _, fun k hk => absurd hk (Nat.not_lt_zero _)⟩
  ·rintro x rest q s' ⟨rfl, rfl, i, er, hi, all⟩
   have lt : i < es.size := by
    by_cases z : i < es.size
    ·exact z
    ·rw [Nat.sub_eq_zero_of_le (Nat.le_of_not_lt z)] at er; simp at er
   have cut : List.range' i (es.size - i) = i :: List.range' (i + 1) (es.size - (i + 1)) := by
    rw [show es.size - i = (es.size - (i + 1)) + 1 by omega, List.range'_succ]
   rw [cut] at er
   injection er with e1 e2
   subst e1
   have bad : c x = false -> Q false s' := fun z => by
    have : (List.range es.size).all c = false := by
     rw [List.all_eq_false]
     exact ⟨x, List.mem_range.mpr lt, by rw [z]; decide⟩
    rw [this] at h1; exact h1
   refine wpAny_bind (wpAny_dictEntries g1 g2 ?_)
   rw [Array.getElem?_eq_getElem lt]
   rcases met x es[x] (Array.getElem?_eq_getElem lt) with ⟨z, find⟩ | ⟨j, y, ey, find, eq⟩
   ·show wpAny _ _ (holding [es[x].key, es[x].val] _ >>= _) _ _ _
    refine wpAny_bind (wpAny_holding (wpAny_bind (find _ (wpAny_pure ?_))))
    show wpAny _ _ (if (!false) = true then _ else _) _ _ _
    rw [if_pos (by decide)]
    exact wpAny_pure (wpAny_pure (bad z))
   ·show wpAny _ _ (holding [es[x].key, es[x].val] _ >>= _) _ _ _
    refine wpAny_bind (wpAny_holding (wpAny_bind (find _ (wpAny_bind (wpAny_dictEntries g3 g4 ?_)))))
    rw [ey]
    refine wpAny_holding (eq prog w _ _ ?_)
    cases z : c x with
    | false =>
     show wpAny _ _ (if (!false) = true then _ else _) _ _ _
     rw [if_pos (by decide)]
     exact wpAny_pure (wpAny_pure (bad z))
    | true =>
     show wpAny _ _ (if (!true) = true then _ else _) _ _ _
     rw [if_neg (by decide)]
     refine wpAny_bind (wpAny_dictEpoch g1 g2 ?_)
     rw [if_neg (by simp)]
     refine wpAny_pure ⟨rfl, rfl, x + 1, e2, lt, fun k hk => ?_⟩
     by_cases e : k = x
     ·rw [e]; exact z
     ·exact all k (by omega)
  ·rintro q s' ⟨rfl, rfl, i, er, hi, all⟩
   have ei : i = es.size := by
    by_cases z : i < es.size
    ·rw [show es.size - i = (es.size - (i + 1)) + 1 by omega, List.range'_succ] at er; exact nomatch er
    ·omega
   have : (List.range es.size).all c = true := by
    rw [List.all_eq_true]
    intro k hk
    exact all k (by rw [ei]; exact List.mem_range.mp hk)
   rw [this] at h1
   exact wpAny_pure h1
 ·rw [if_pos (by simpa using sz)]
  have : (es.size == fs.size) = false := by simpa using sz
  rw [this, Bool.false_and] at h
  exact wpAny_bind (wpAny_rule (wpAny_pure h))
theorem eq_raw {c : Nat -> Bool} {Q : Value -> Shared -> Prop} (ta : s.TypeIs (.ref a) "dict") (tb : s.TypeIs (.ref b) "dict") (hu : A.units < cLine) (na : (a == sysModules) = false) (nb : (b == sysModules) = false) (g1 : s.heap.get? a = some oa) (g2 : oa.data = .dict es ea) (g3 : s.heap.get? b = some ob) (g4 : ob.data = .dict fs eb)
  (met : es.size = fs.size -> ∀ E i x, es[i]? = some x -> Met prog w A.in1 E s b fs x (c i)) (h : Q (.bool (es.size == fs.size && (List.range es.size).all c)) s) : wpAny (model prog w) A (compareOp .Eq (.ref a) (.ref b)) Q E s := by
 refine wpAny_richCompare_same_room (op := .Eq) ta tb PySem.F.slot_dict_eq (wpAny_call_entry PySem.F.slot_dict_eq ta PySem.F.entry_dict_eq ?_ (PySem.F.args_dict_eq_2 _ _)) hu
 show wpAny _ _ ((Builtin.Dict.dictSlotArgs "__eq__" ⟨[Value.ref a, Value.ref b], []⟩) >>= _) _ _ s
 unfold Builtin.Dict.dictSlotArgs
 refine wpAny_bind (wpAny_bind (wpAny_notOrdered_dict ta ?_))
 show wpAny _ _ (pure (Value.ref a, Value.ref b)) _ _ s
 refine wpAny_pure (wpAny_bind (wpAny_isInstance tb (T := "dict") PySem.F.sub_dict_dict ?_))
 simp only [if_false, Bool.not_true, Bool.false_eq_true]
 refine wpAny_bind (wpAny_pure (wpAny_bind (wpAny_pure (wpAny_bind (same_raw na nb g1 g2 g3 g4 (fun z i x e => met z _ i x e) ?_)))))
 refine wpAny_pure ⟨_, rfl, And.intro (fun x => by cases x) ?_⟩
 simpa using h
theorem ne_raw {c : Nat -> Bool} {Q : Value -> Shared -> Prop} (ta : s.TypeIs (.ref a) "dict") (tb : s.TypeIs (.ref b) "dict") (hu : A.units < cLine) (na : (a == sysModules) = false) (nb : (b == sysModules) = false) (g1 : s.heap.get? a = some oa) (g2 : oa.data = .dict es ea) (g3 : s.heap.get? b = some ob) (g4 : ob.data = .dict fs eb)
  (met : es.size = fs.size -> ∀ E i x, es[i]? = some x -> Met prog w A.in1 E s b fs x (c i)) (h : Q (.bool (!(es.size == fs.size && (List.range es.size).all c))) s) : wpAny (model prog w) A (compareOp .NotEq (.ref a) (.ref b)) Q E s := by
 refine wpAny_richCompare_same_room (op := .NotEq) ta tb PySem.F.slot_dict_ne (wpAny_call_entry PySem.F.slot_dict_ne ta PySem.F.entry_dict_ne ?_ (PySem.F.args_dict_ne_2 _ _)) hu
 show wpAny _ _ ((Builtin.Dict.dictSlotArgs "__ne__" ⟨[Value.ref a, Value.ref b], []⟩) >>= _) _ _ s
 unfold Builtin.Dict.dictSlotArgs
 refine wpAny_bind (wpAny_bind (wpAny_notOrdered_dict ta ?_))
 show wpAny _ _ (pure (Value.ref a, Value.ref b)) _ _ s
 refine wpAny_pure (wpAny_bind (wpAny_isInstance tb (T := "dict") PySem.F.sub_dict_dict ?_))
 simp only [if_false, Bool.not_true, Bool.false_eq_true]
 refine wpAny_bind (wpAny_pure (wpAny_bind (wpAny_pure (wpAny_bind (same_raw na nb g1 g2 g3 g4 (fun z i x e => met z _ i x e) ?_)))))
 refine wpAny_pure ⟨_, rfl, And.intro (fun x => by cases x) ?_⟩
 simpa using h
end
section
variable {X : Cx} {pins : List (Addr × Obj)} {σ : L2.St} {H : Hp} {s : Shared} {φ : Nat -> Addr} {ph : PH}
theorem eq_at (I : Inv X pins σ H s) (hH : RelH X.K φ ph H) {A : Around} (hu : A.units + 41 < cLine) {x y : W} {v v' : V} {u u' : Value} {b : Bool} (r1 : RelW X.K φ ph.length H x v) (q1 : RelV v u) (r2 : RelW X.K φ ph.length H y v') (q2 : RelV v' u') (e : eqD ph x y = some b) : SeqAt.EqAt A s u u' b := by
 obtain ⟨dx, dy, e1, e2, rfl⟩ := eqD_some e
 obtain ⟨⟨as, k1⟩, c1, l1⟩ := dat_reads I hH 40 r1 q1 e1
 obtain ⟨⟨bs, k2⟩, c2, l2⟩ := dat_reads I hH 40 r2 q2 e2
 intro prog w E Q hQ
 exact SeqAt.eqBoolOverData prog w _ E s u u' dx dy as bs Q k1 k2 c1 c2 (by omega) hQ
end
def eqP (ph : PH) (kb : List (W × W)) (p : W × W) : Option Bool := match dgetW kb p.1 with
 | none => some false
 | some y => eqD ph p.2 y
def eqDct (ph : PH) (ka kb : List (W × W)) : Option Bool :=
 if ((ka.all (fun p => !isT p.1) && kb.all (fun p => !isT p.1)) || (ka.all (fun p => isT p.1) && kb.all (fun p => isT p.1))) = true then
  if ka.length = kb.length then (mapO (eqP ph kb) ka).map (fun bs => bs.all id) else some false
 else none
theorem mapO_get {α β : Type} {f : α -> Option β} : ∀ {as : List α} {bs : List β}, mapO f as = some bs -> bs.length = as.length /\ ∀ (i : Nat) a, as[i]? = some a -> ∃ b, bs[i]? = some b /\ f a = some b
 | [], bs, h => by cases h; exact ⟨rfl, fun i a e => by simp at e⟩
 | a :: as, bs, h => by
  unfold mapO at h
  split at h
  ·rename_i b bs' e1 e2
   cases h
   obtain ⟨l, g⟩ := mapO_get e2
   refine ⟨by simp [l], fun i x e => ?_⟩
   cases i with
   | zero => simp at e; subst e; exact ⟨b, rfl, e1⟩
   | succ i => simpa using g i x (by simpa using e)
  ·cases h
theorem RelD.at {K : PySem.W.Frag} {φ : Nat -> Addr} {n : Nat} {H : Hp} : ∀ {kws : List (W × W)} {kvs : List (Key × V)} {i : Nat} {k : Key} {v : V}, RelD K φ n H kws kvs -> kvs[i]? = some (k, v) -> ∃ w, kws[i]? = some (keyW k, w) /\ RelW K φ n H w v
 | _, _, i, _, _, .nil, e => by simp at e
 | _, _, 0, _, _, .cons h r, e => by simp at e; obtain ⟨rfl, rfl⟩ := e; exact ⟨_, rfl, h⟩
 | _, _, i + 1, _, _, .cons h r, e => by
  obtain ⟨w, e1, e2⟩ := RelD.at (i := i) r (by simpa using e)
  exact ⟨w, by simpa using e1, e2⟩
theorem RelT.at {K : PySem.W.Frag} {φ : Nat -> Addr} {n : Nat} {H : Hp} : ∀ {kws : List (W × W)} {kvs : List (List Key × V)} {i : Nat} {k : List Key} {v : V}, RelT K φ n H kws kvs -> kvs[i]? = some (k, v) -> ∃ w, kws[i]? = some (.tup (k.map keyW), w) /\ RelW K φ n H w v
 | _, _, i, _, _, .nil, e => by simp at e
 | _, _, 0, _, _, .cons h r, e => by simp at e; obtain ⟨rfl, rfl⟩ := e; exact ⟨_, rfl, h⟩
 | _, _, i + 1, _, _, .cons h r, e => by
  obtain ⟨w, e1, e2⟩ := RelT.at (i := i) r (by simpa using e)
  exact ⟨w, by simpa using e1, e2⟩
theorem paired_at {α β : Type} {F : α -> β -> Prop} : ∀ {l : List α} {m : List β} {i : Nat} {b : β}, Paired F l m -> m[i]? = some b -> ∃ a, l[i]? = some a /\ F a b
 | _, _, i, _, .nil, e => by simp at e
 | _, _, 0, _, .cons h r, e => by simp at e; subst e; exact ⟨_, rfl, h⟩
 | _, _, i + 1, _, .cons h r, e => by
  obtain ⟨a, e1, e2⟩ := paired_at (i := i) r (by simpa using e)
  exact ⟨a, by simpa using e1, e2⟩
section
variable {X : Cx} {pins : List (Addr × Obj)} {σ : L2.St} {H : Hp} {s : Shared} {φ : Nat -> Addr} {ph : PH} {ka kb : List (W × W)} {bs : List Bool} {prog : Program} {w : World} {A : Around} {E : Value -> Shared -> Prop}
theorem met_k (I : Inv X pins σ H s) (hH : RelH X.K φ ph H) (hu : A.units + 41 < cLine) {kva kvb : List (Key × V)} {va vb : List (Key × Value)} {b : Addr} {ob : Obj} {es fs : Array DictEntry} {eb : Nat} (ra : RelD X.K φ ph.length H ka kva) (rb : RelD X.K φ ph.length H kb kvb) (qa : KV kva va) (qb : KV kvb vb)
  (ea : KeysOf (mixKind prog w) es) (pa : Pairs (mixKind prog w) es.toList va) (g3 : s.heap.get? b = some ob) (g4 : ob.data = .dict fs eb) (ef : KeysOf (mixKind prog w) fs) (pf : Pairs (mixKind prog w) fs.toList vb) (hb : mapO (eqP ph kb) ka = some bs) {i : Nat} {x : DictEntry} (hx : es[i]? = some x) :
  Met prog w A E s b fs x ((bs[i]?).getD true) := by
 have hil : i < es.size := (Array.getElem?_eq_some_iff.mp hx).1
 have hlen : es.size = va.length := by rw [<- pa.length]; simp
 obtain ⟨⟨k, v⟩, hv⟩ : ∃ p, va[i]? = some p := ⟨va[i]'(by omega), List.getElem?_eq_getElem _⟩
 obtain ⟨hk, hval⟩ := pa.get? (i := i) (e := x) (by rw [Array.getElem?_toList]; exact hx) hv
 obtain ⟨⟨k1, vv⟩, e1, e2, rv⟩ := paired_at qa hv
 simp only at e2 rv
 subst e2
 obtain ⟨wv, e3, rw3⟩ := ra.at e1
 obtain ⟨c, e4, e5⟩ := (mapO_get hb).2 i _ e3
 rw [e4, Option.getD_some]
 obtain ⟨k', hk', hh⟩ := ea x (by obtain ⟨_, e⟩ := Array.getElem?_eq_some_iff.mp hx; rw [<- e]; exact Array.getElem_mem _)
 have ek : k' = k1 := (mixKind prog w).inj _ _ _ hk' hk
 subst ek
 have find : ∀ P : Option Nat -> Shared -> Prop, P (fs.findIdx? fun e => (mixKind prog w).is k' e.key) s -> wpAny (model prog w) A (dictFind b x.key x.hash) P E s := fun P hP => by
  rw [hh]
  exact wpAny_dictFind_of hk' g3 g4 ef hP
 have hfi : findBy (mixKind prog w).is fs k' = valueAt vb k' := by
  rw [<- pf.find k']
  obtain ⟨l⟩ := fs
  simp [findBy]
 rw [findBy_of_findIdx?] at hfi
 have ro := rb.val k'
 have rq := qb.val k'
 unfold eqP at e5
 simp only at e5
 cases q : dgetW kb (keyW k') with
 | none =>
  rw [q] at e5 ro
  cases q2 : valV kvb k' with
  | some z => rw [q2] at ro; exact ro.elim
  | none =>
   rw [q2] at rq
   cases q3 : valueAt vb k' with
   | some z => rw [q3] at rq; exact rq.elim
   | none =>
    rw [q3] at hfi
    cases e5
    refine .inl ⟨rfl, fun P hP => find P ?_⟩
    cases q4 : fs.findIdx? fun e => (mixKind prog w).is k' e.key with
    | none => exact hP
    | some j =>
     rw [q4] at hfi
     obtain ⟨hj, _⟩ := Array.findIdx?_eq_some_iff_getElem.mp q4
     simp [hj] at hfi
 | some y =>
  rw [q] at e5 ro
  cases q2 : valV kvb k' with
  | none => rw [q2] at ro; exact ro.elim
  | some z =>
   rw [q2] at rq ro
   cases q3 : valueAt vb k' with
   | none => rw [q3] at rq; exact rq.elim
   | some u =>
    rw [q3] at hfi rq
    cases q4 : fs.findIdx? fun e => (mixKind prog w).is k' e.key with
    | none => rw [q4] at hfi; cases hfi
    | some j =>
     rw [q4] at hfi
     simp only [Option.map_eq_some_iff] at hfi
     obtain ⟨f, hf1, hf2⟩ := hfi
     refine .inr ⟨j, f, hf1, fun P hP => find P (by rw [q4]; exact hP), ?_⟩
     rw [hval, hf2]
     exact eq_at I hH hu rw3 rv ro rq e5
theorem met_t (I : Inv X pins σ H s) (hH : RelH X.K φ ph H) (hu : A.units + 41 < cLine) {kva kvb : List (List Key × V)} {va vb : List (List Key × Addr × Value)} {b : Addr} {ob : Obj} {es fs : Array DictEntry} {eb : Nat} (ra : RelT X.K φ ph.length H ka kva) (rb : RelT X.K φ ph.length H kb kvb) (qa : KT H kva va) (qb : KT H kvb vb)
  (ea : es.toList = va.map (entryOfKey (tupleKind (mixKind X.prog X.w)))) (ia : ∀ x ∈ va, (tupleKind (mixKind X.prog X.w)).is s.heap x.1 x.2.1) (g3 : s.heap.get? b = some ob) (g4 : ob.data = .dict fs eb)
  (ef : fs.toList = vb.map (entryOfKey (tupleKind (mixKind X.prog X.w)))) (if_ : ∀ x ∈ vb, (tupleKind (mixKind X.prog X.w)).is s.heap x.1 x.2.1) (nf : (vb.map (·.1)).Nodup) (hb : mapO (eqP ph kb) ka = some bs) {i : Nat} {x : DictEntry} (hx : es[i]? = some x) :
  Met X.prog X.w A E s b fs x ((bs[i]?).getD true) := by
 rw [entry_at ea] at hx
 obtain ⟨⟨k, a, v⟩, hv, rfl⟩ := Option.map_eq_some_iff.mp hx
 obtain ⟨⟨k1, vv⟩, e1, e2, hT, rv⟩ := paired_at qa hv
 simp only at e2 rv hT
 subst e2
 obtain ⟨wv, e3, rw3⟩ := ra.at e1
 obtain ⟨c, e4, e5⟩ := (mapO_get hb).2 i _ e3
 rw [e4, Option.getD_some]
 have hkey := ia _ (List.mem_of_getElem? hv)
 have find : ∀ P : Option Nat -> Shared -> Prop, ((∀ (j : Nat) (p : Addr × Value), vb[j]? ≠ some (k1, p)) -> P none s) -> (∀ (j : Nat) (p : Addr × Value), vb[j]? = some (k1, p) -> P (some j) s) -> wpAny (model X.prog X.w) A (dictFind b (.ref a) ((tupleKind (mixKind X.prog X.w)).hash k1)) P E s := fun P h1 h2 =>
  wpAny_dictFind_heap (knd := tupleKind (mixKind X.prog X.w)) (by show A.units < cLine; omega) hkey g3 g4 ef if_ nf h1 h2
 have ro := rb.val k1
 have rq := qb.val k1
 unfold eqP at e5
 simp only at e5
 cases q : dgetW kb (.tup (k1.map keyW)) with
 | none =>
  rw [q] at e5 ro
  cases q2 : valV kvb k1 with
  | some z => rw [q2] at ro; exact ro.elim
  | none =>
   rw [q2] at rq
   cases q3 : atKey vb k1 with
   | some z => rw [q3] at rq; exact rq.elim
   | none =>
    cases e5
    refine .inl ⟨rfl, fun P hP => find P (fun _ => hP) fun j p hj => ?_⟩
    rw [atKey_of_get nf hj] at q3
    cases q3
 | some y =>
  rw [q] at e5 ro
  cases q2 : valV kvb k1 with
  | none => rw [q2] at ro; exact ro.elim
  | some z =>
   rw [q2] at rq ro
   cases q3 : atKey vb k1 with
   | none => rw [q3] at rq; exact rq.elim
   | some u =>
    rw [q3] at rq
    obtain ⟨j, hj⟩ : ∃ j, vb[j]? = some (k1, u) := by
     unfold atKey at q3
     obtain ⟨⟨k2, u2⟩, f1, f2⟩ := Option.map_eq_some_iff.mp q3
     have f3 := List.find?_some f1
     simp only [decide_eq_true_eq] at f3
     obtain ⟨j, hj⟩ := List.mem_iff_getElem?.mp (List.mem_of_find?_eq_some f1)
     exact ⟨j, by rw [hj, <- f3, <- f2]⟩
    refine .inr ⟨j, entryOfKey (tupleKind (mixKind X.prog X.w)) (k1, u), by rw [entry_at ef, hj]; rfl, fun P hP => find P (fun n => absurd hj (n j u)) fun j' p hj' => by rw [idxH_unique nf hj' hj]; exact hP, ?_⟩
    exact eq_at I hH hu rw3 rv ro rq e5
end
end IL
namespace IL
open PySem PySem.Spec PyProof.Rows L2
section
variable {X : Cx} {pins : List (Addr × Obj)} {σ : L2.St} {H : Hp} {s : Shared} {φ : Nat -> Addr} {ph : PH} {ka kb : List (W × W)} {prog : Program} {w : World} {A : Around} {E : Value -> Shared -> Prop} {i j : Nat} {r : Bool}
def DV (prog : Program) (w : World) (A : Around) (s : Shared) (a b : Addr) (r : Bool) : Prop := ∃ (oa ob : Obj) (es fs : Array DictEntry) (ea eb : Nat) (c : Nat -> Bool), s.TypeIs (.ref a) "dict" /\ s.TypeIs (.ref b) "dict" /\ (a == sysModules) = false /\ (b == sysModules) = false /\
 s.heap.get? a = some oa /\ oa.data = .dict es ea /\ s.heap.get? b = some ob /\ ob.data = .dict fs eb /\ (es.size = fs.size -> ∀ E i x, es[i]? = some x -> Met prog w A E s b fs x (c i)) /\ r = (es.size == fs.size && (List.range es.size).all c)
theorem all_get {bs : List Bool} {n : Nat} (h : bs.length = n) : ((List.range n).all fun i => (bs[i]?).getD true) = bs.all id := by subst h; exact rng_all bs
theorem dv_k (I : Inv X pins σ H s) (hH : RelH X.K φ ph H) (hu : A.units + 41 < cLine) {kva kvb : List (Key × V)} {va vb : List (Key × Value)} {a b : Addr} (ra : RelD X.K φ ph.length H ka kva) (rb : RelD X.K φ ph.length H kb kvb) (qa : KV kva va) (qb : KV kvb vb)
  (da : s.heap.DictOf (mixKind prog w) a va) (db : s.heap.DictOf (mixKind prog w) b vb) (na : (a == sysModules) = false) (nb : (b == sysModules) = false) (e : (if ka.length = kb.length then (mapO (eqP ph kb) ka).map (fun bs => bs.all id) else some false) = some r) : DV prog w A s a b r := by
 have ta := da.typeIs
 have tb := db.typeIs
 obtain ⟨oa, es, ea, g1, c1, g2, ky1, p1, n1⟩ := da
 obtain ⟨ob, fs, eb, g3, c3, g4, ky3, p3, n3⟩ := db
 have l1 : es.size = ka.length := by rw [ra.len, qa.length, <- p1.length]; simp
 have l3 : fs.size = kb.length := by rw [rb.len, qb.length, <- p3.length]; simp
 split at e
 ·rename_i hl
  obtain ⟨bs, hb, rfl⟩ := Option.map_eq_some_iff.mp e
  refine ⟨oa, ob, es, fs, ea, eb, fun i => (bs[i]?).getD true, ta, tb, na, nb, g1, g2, g3, g4, fun _ E i x hx => met_k I hH hu ra rb qa qb ky1 p1 g3 g4 ky3 p3 hb hx, ?_⟩
  rw [all_get ((mapO_get hb).1.trans l1.symm), l1, l3, hl, beq_self_eq_true, Bool.true_and]
 ·rename_i hl
  cases e
  refine ⟨oa, ob, es, fs, ea, eb, fun _ => true, ta, tb, na, nb, g1, g2, g3, g4, fun z => absurd (by omega) hl, ?_⟩
  rw [show (es.size == fs.size) = false by rw [l1, l3]; exact beq_eq_false_iff_ne.mpr hl, Bool.false_and]
theorem dv_t (I : Inv X pins σ H s) (hH : RelH X.K φ ph H) (hu : A.units + 41 < cLine) {kva kvb : List (List Key × V)} {va vb : List (List Key × Addr × Value)} {a b : Addr} (ra : RelT X.K φ ph.length H ka kva) (rb : RelT X.K φ ph.length H kb kvb) (qa : KT H kva va) (qb : KT H kvb vb)
  (da : s.heap.DictOfH (tupleKind (mixKind X.prog X.w)) a va) (db : s.heap.DictOfH (tupleKind (mixKind X.prog X.w)) b vb) (na : (a == sysModules) = false) (nb : (b == sysModules) = false) (e : (if ka.length = kb.length then (mapO (eqP ph kb) ka).map (fun bs => bs.all id) else some false) = some r) : DV X.prog X.w A s a b r := by
 have ta := da.typeIs
 have tb := db.typeIs
 obtain ⟨oa, es, ea, g1, c1, g2, p1, i1, n1⟩ := da
 obtain ⟨ob, fs, eb, g3, c3, g4, p3, i3, n3⟩ := db
 have l1 : es.size = ka.length := by rw [ra.len, Paired.length qa, size_of_entries p1]
 have l3 : fs.size = kb.length := by rw [rb.len, Paired.length qb, size_of_entries p3]
 split at e
 ·rename_i hl
  obtain ⟨bs, hb, rfl⟩ := Option.map_eq_some_iff.mp e
  refine ⟨oa, ob, es, fs, ea, eb, fun i => (bs[i]?).getD true, ta, tb, na, nb, g1, g2, g3, g4, fun _ E i x hx => met_t I hH hu ra rb qa qb p1 i1 g3 g4 p3 i3 n3 hb hx, ?_⟩
  rw [all_get ((mapO_get hb).1.trans l1.symm), l1, l3, hl, beq_self_eq_true, Bool.true_and]
 ·rename_i hl
  cases e
  refine ⟨oa, ob, es, fs, ea, eb, fun _ => true, ta, tb, na, nb, g1, g2, g3, g4, fun z => absurd (by omega) hl, ?_⟩
  rw [show (es.size == fs.size) = false by rw [l1, l3]; exact beq_eq_false_iff_ne.mpr hl, Bool.false_and]
theorem dv_of (I : Inv X pins σ H s) (hH : RelH X.K φ ph H) (hu : A.units + 41 < cLine) (hi : ph[i]? = some (.dct ka)) (hj : ph[j]? = some (.dct kb)) (e : eqDct ph ka kb = some r) : DV X.prog X.w A s (φ i) (φ j) r := by
 unfold eqDct at e
 split at e
 ·rename_i hk
  rw [Bool.or_eq_true, Bool.and_eq_true, Bool.and_eq_true] at hk
  rcases hk with ⟨h1, h2⟩ | ⟨h1, h2⟩
  ·obtain ⟨kva, va, ra, qa, da, na, _⟩ := dk_view I hH hi h1
   obtain ⟨kvb, vb, rb, qb, db, nb, _⟩ := dk_view I hH hj h2
   exact dv_k I hH hu ra rb qa qb da db na nb e
  ·obtain ⟨kva, va, ra, qa, da, na⟩ := dt_view I hH hi h1
   obtain ⟨kvb, vb, rb, qb, db, nb⟩ := dt_view I hH hj h2
   exact dv_t I hH hu ra rb qa qb da db na nb e
 ·cases e
def isI : W -> Bool
 | .int _ => true
 | _ => false
theorem RelD.ints {K : PySem.W.Frag} {n : Nat} : ∀ {kws : List (W × W)} {kvs : List (Key × V)}, RelD K φ n H kws kvs -> kws.all (fun p => isI p.1) = true -> ∀ p ∈ kvs, ∃ i, p.1 = Sum.inl i
 | _, _, .nil, _, p, hp => nomatch hp
 | _, _, .cons (k := k) h r, e, p, hp => by
  rw [List.all_cons, Bool.and_eq_true] at e
  rcases List.mem_cons.mp hp with rfl | hp
  ·cases k with
   | inl i => exact ⟨i, rfl⟩
   | inr x => exact absurd e.1 (by simp [isI, keyW])
  ·exact RelD.ints r e.2 p hp
theorem dict_cast {P P' : Program} {w w' : World} {h : Heap} {a : Addr} {vs : List (Key × Value)} (d : h.DictOf (mixKind P w) a vs) (hi : ∀ p ∈ vs, ∃ i, p.1 = Sum.inl i) : h.DictOf (mixKind P' w') a vs := by
 obtain ⟨o, es, ep, g1, g2, g3, ky, ps, nd⟩ := d
 refine ⟨o, es, ep, g1, g2, g3, fun x hx => ?_, ?_, nd⟩
 ·obtain ⟨k, hk, hh⟩ := ky x hx
  obtain ⟨i, hi'⟩ := Array.mem_iff_getElem?.mp hx
  have hil : i < es.size := (Array.getElem?_eq_some_iff.mp hi').1
  have hlen : es.size = vs.length := by rw [<- ps.length]; simp
  obtain ⟨⟨k1, v1⟩, hv⟩ : ∃ p, vs[i]? = some p := ⟨vs[i]'(by omega), List.getElem?_eq_getElem _⟩
  obtain ⟨hk1, _⟩ := ps.get? (i := i) (e := x) (by rw [Array.getElem?_toList]; exact hi') hv
  have : k = k1 := (mixKind P w).inj _ _ _ hk hk1
  subst this
  obtain ⟨n, hn⟩ := hi _ (List.mem_of_getElem? hv)
  simp only at hn
  subst hn
  exact ⟨.inl n, hk, hh⟩
 ·clear ky nd hi
  revert ps
  generalize es.toList = l
  intro ps
  induction ps with
  | nil => exact .nil
  | cons h1 h2 _ ih => exact .cons h1 h2 ih
theorem dv_any (I : Inv X pins σ H s) (hH : RelH X.K φ ph H) (hu : A.units + 41 < cLine) (hi : ph[i]? = some (.dct ka)) (hj : ph[j]? = some (.dct kb)) (ia : ka.all (fun p => isI p.1) = true) (ib : kb.all (fun p => isI p.1) = true) (e : eqDct ph ka kb = some r) : DV prog w A s (φ i) (φ j) r := by
 have nt : ∀ {l : List (W × W)}, l.all (fun p => isI p.1) = true -> l.all (fun p => !isT p.1) = true := fun {l} h => by
  rw [List.all_eq_true] at h ⊢
  intro p hp
  have := h p hp
  revert this
  cases p.1 <;> simp [isI, isT]
 unfold eqDct at e
 rw [nt ia, nt ib] at e
 rw [if_pos (by simp)] at e
 obtain ⟨kva, va, ra, qa, da, na, _⟩ := dk_view I hH hi (nt ia)
 obtain ⟨kvb, vb, rb, qb, db, nb, _⟩ := dk_view I hH hj (nt ib)
 have up : ∀ {kvs : List (Key × V)} {vs : List (Key × Value)}, KV kvs vs -> (∀ p ∈ kvs, ∃ i, p.1 = Sum.inl i) -> ∀ p ∈ vs, ∃ i, p.1 = Sum.inl i := fun q h p hp => by
  obtain ⟨n, hn⟩ := List.mem_iff_getElem?.mp hp
  obtain ⟨a, e1, e2, _⟩ := paired_at q hn
  obtain ⟨i, hi⟩ := h a (List.mem_of_getElem? e1)
  exact ⟨i, by rw [<- e2, hi]⟩
 exact dv_k I hH hu ra rb qa qb (dict_cast da (up qa (ra.ints ia))) (dict_cast db (up qb (rb.ints ib))) na nb e
theorem DV.rc {a b : Addr} (hu : A.units < cLine) (h : ∀ prog w, DV prog w A.in1 s a b r) : SeqAt.RcAt A s (.ref a) (.ref b) r := fun prog w E Q hq => by
 obtain ⟨oa, ob, es, fs, ea, eb, c, ta, tb, na, nb, g1, g2, g3, g4, met, rfl⟩ := h prog w
 exact eq_raw ta tb hu na nb g1 g2 g3 g4 met hq
end
def eqE (ph : PH) (x y : W) : Option Bool := match eqD ph x y with
 | some b => some b
 | none => match dctAt x ph, dctAt y ph with
  | some p, some q => if p.1 = q.1 then some true else if (p.2.all (fun z => isI z.1) && q.2.all (fun z => isI z.1)) = true then eqDct ph p.2 q.2 else none
  | _, _ => none
def eqT (ph : PH) (x y : W) : Option Bool := match x, y with
 | .tup xs, .tup ys => if xs.length = ys.length then (mapO (fun p : W × W => eqE ph p.1 p.2) (xs.zip ys)).map (fun bs => bs.all id) else none
 | _, _ => none
def eqG (ph : PH) (x y : W) : Option Bool := match eqD ph x y with
 | some b => some b
 | none => match dctAt x ph, dctAt y ph with
  | some p, some q => eqDct ph p.2 q.2
  | _, _ => eqT ph x y
def eqG0 (ph : PH) (x y : W) : Option Bool := match eqD ph x y with
 | some b => some b
 | none => match dctAt x ph, dctAt y ph with
  | some p, some q => eqDct ph p.2 q.2
  | _, _ => none
def eqV : W -> W -> Po W := fun x y ph => (eqG ph x y).map fun b => (.bl b, ph)
def neV : W -> W -> Po W := fun x y ph => (eqG0 ph x y).map fun b => (.bl (!b), ph)
def rG (K : PySem.W.Frag) (f : Bool -> Bool) : R2 := fun x y H Q => ∃ φ ph wx wy b, RelH K φ ph H /\ RelW K φ ph.length H wx x /\ RelW K φ ph.length H wy y /\ eqG ph wx wy = some b /\ Q (.bl (f b)) H
def rG0 (K : PySem.W.Frag) (f : Bool -> Bool) : R2 := fun x y H Q => ∃ φ ph wx wy b, RelH K φ ph H /\ RelW K φ ph.length H wx x /\ RelW K φ ph.length H wy y /\ eqG0 ph wx wy = some b /\ Q (.bl (f b)) H
theorem eqV_i {K : PySem.W.Frag} : OpI K (rG K fun b => b) eqV := by
 intro φ ph H x y vx vy w ph' Q hH rx ry e k
 obtain ⟨b, e1, e2⟩ := Option.map_eq_some_iff.mp e
 cases e2
 exact ⟨φ, ph, x, y, b, hH, rx, ry, e1, k φ H _ hH Step.refl (.bl _)⟩
theorem neV_i {K : PySem.W.Frag} : OpI K (rG0 K fun b => !b) neV := by
 intro φ ph H x y vx vy w ph' Q hH rx ry e k
 obtain ⟨b, e1, e2⟩ := Option.map_eq_some_iff.mp e
 cases e2
 exact ⟨φ, ph, x, y, b, hH, rx, ry, e1, k φ H _ hH Step.refl (.bl _)⟩
section
variable {X : Cx} {pins : List (Addr × Obj)} {σ : L2.St} {H : Hp} {s : Shared} {φ : Nat -> Addr} {ph : PH} {A : Around} {b : Bool}
theorem eqE_at (I : Inv X pins σ H s) (hH : RelH X.K φ ph H) (hu : A.units + 44 < cLine) {x y : W} {v v' : V} {u u' : Value} (r1 : RelW X.K φ ph.length H x v) (q1 : RelV v u) (r2 : RelW X.K φ ph.length H y v') (q2 : RelV v' u') (e : eqE ph x y = some b) : SeqAt.EqAt A s u u' b := by
 unfold eqE at e
 split at e
 ·rename_i b' e'
  cases e
  exact eq_at I hH (by omega) r1 q1 r2 q2 e'
 ·split at e
  ·rename_i p q hp hq
   obtain ⟨i, ka⟩ := p
   obtain ⟨j, kb⟩ := q
   obtain ⟨rfl, hi, hdi, rfl⟩ := dctAt_rel hH r1 hp
   obtain ⟨rfl, hj, hdj, rfl⟩ := dctAt_rel hH r2 hq
   cases q1
   cases q2
   split at e
   ·rename_i hij
    simp only at hij
    subst hij
    cases e
    exact SeqAt.EqAt.same _
   ·rename_i hij
    split at e
    ·rename_i hk
     rw [Bool.and_eq_true] at hk
     exact SeqAt.EqAt.of_refs (fun z => hij (hH.inj _ _ hi hj z)) (DV.rc (by omega) fun prog w => dv_any I hH (by show A.units + 1 + 41 < cLine; omega) hdi hdj hk.1 hk.2 e)
    ·cases e
  ·cases e
theorem eqT_rc (I : Inv X pins σ H s) (hH : RelH X.K φ ph H) (hu : A.units + 50 < cLine) {x y : W} {v v' : V} {u u' : Value} (r1 : RelW X.K φ ph.length H x v) (q1 : RelV v u) (r2 : RelW X.K φ ph.length H y v') (q2 : RelV v' u') (e : eqT ph x y = some b) :
  ∃ p q, u = .ref p /\ u' = .ref q /\ ∃ its its2 : List Value, s.heap.IsTuple p its.toArray /\ s.heap.IsTuple q its2.toArray /\ its.length = its2.length /\ ∃ c : Nat -> Bool, (∀ j (h1 : j < its.length) (h2 : j < its2.length), SeqAt.EqAt A.in1 s its[j] its2[j] (c j)) /\ b = (List.range its.length).all c := by
 unfold eqT at e
 split at e
 ·rename_i xs ys
  split at e
  ·rename_i hl
   obtain ⟨bs, hb, rfl⟩ := Option.map_eq_some_iff.mp e
   cases r1 with
   | tup h1 rr1 =>
    cases r2 with
    | tup h2 rr2 =>
     cases q1
     cases q2
     obtain ⟨its, rv1, pl1, _⟩ := I.tuple (SqT.of h1)
     obtain ⟨its2, rv2, pl2, _⟩ := I.tuple (SqT.of h2)
     have l1 := rr1.length.trans rv1.length
     have l2 := rr2.length.trans rv2.length
     have hz : (xs.zip ys).length = its.length := by rw [List.length_zip]; omega
     refine ⟨_, _, rfl, rfl, its, its2, pl1, pl2, by omega, fun i => (bs[i]?).getD true, fun j j1 j2 => ?_, (all_get ((mapO_get hb).1.trans hz)).symm⟩
     have jx : j < xs.length := by omega
     have jy : j < ys.length := by omega
     obtain ⟨c, e4, e5⟩ := (mapO_get hb).2 j (xs[j], ys[j]) (by rw [List.getElem?_eq_getElem (by omega), List.getElem_zip])
     show SeqAt.EqAt A.in1 s its[j] its2[j] ((bs[j]?).getD true)
     rw [e4, Option.getD_some]
     obtain ⟨v1, ev1, rv1'⟩ := rr1.get (List.getElem?_eq_getElem jx)
     obtain ⟨v2, ev2, rv2'⟩ := rr2.get (List.getElem?_eq_getElem jy)
     obtain ⟨u1, eu1, ru1⟩ := rv1.get ev1
     obtain ⟨u2, eu2, ru2⟩ := rv2.get ev2
     have w1 : its[j] = u1 := by rw [List.getElem?_eq_getElem j1] at eu1; exact Option.some.inj eu1
     have w2 : its2[j] = u2 := by rw [List.getElem?_eq_getElem j2] at eu2; exact Option.some.inj eu2
     rw [w1, w2]
     exact eqE_at I hH (by show A.units + 1 + 44 < cLine; omega) rv1' ru1 rv2' ru2 e5
  ·cases e
 ·cases e
end
theorem op_eqG {X : Cx} (hu : X.A.units + 64 < cLine) : OpR X (compareOp .Eq) (rG X.K fun b => b) := by
 intro pins s σ H x y v u Q I rx ry h
 obtain ⟨φ, ph, wx, wy, b, hH, r1, r2, e, q⟩ := h
 unfold eqG at e
 split at e
 ·rename_i b' e'
  cases e
  exact op_eqW hu pins s σ H x y v u Q I rx ry ⟨φ, ph, wx, wy, b, hH, r1, r2, e', q⟩
 ·split at e
  ·rename_i p1 p2 hp hq
   obtain ⟨i, ka⟩ := p1
   obtain ⟨j, kb⟩ := p2
   obtain ⟨rfl, hi, hdi, rfl⟩ := dctAt_rel hH r1 hp
   obtain ⟨rfl, hj, hdj, rfl⟩ := dctAt_rel hH r2 hq
   cases rx
   cases ry
   obtain ⟨oa, ob, es, fs, ea, eb, c, ta, tb, na, nb, g1, g2, g3, g4, met, rfl⟩ := dv_of (A := X.A.in1) I hH (by show X.A.units + 1 + 41 < cLine; omega) hdi hdj e
   exact eq_raw ta tb (by omega) na nb g1 g2 g3 g4 met ⟨.bl _, H, I, rfl, q⟩
  ·obtain ⟨p, q', rfl, rfl, its, its2, t1, t2, hl, c, hc, rfl⟩ := eqT_rc (A := X.A) I hH (by omega) r1 rx r2 ry e
   refine SeqAt.eq_tupleAt (e := c) t1 t2 (by omega) (fun j h1 h2 => by simpa using hc j (by simpa using h1) (by simpa using h2)) ?_
   have : ((List.range (min its.toArray.size its2.toArray.size)).all c && its.toArray.size == its2.toArray.size) = (List.range its.length).all c := by
    simp [hl]
   rw [this]
   exact ⟨.bl _, H, I, rfl, q⟩
theorem op_neG {X : Cx} (hu : X.A.units + 64 < cLine) : OpR X (compareOp .NotEq) (rG0 X.K fun b => !b) := by
 intro pins s σ H x y v u Q I rx ry h
 obtain ⟨φ, ph, wx, wy, b, hH, r1, r2, e, q⟩ := h
 unfold eqG0 at e
 split at e
 ·rename_i b' e'
  cases e
  exact op_neW hu pins s σ H x y v u Q I rx ry ⟨φ, ph, wx, wy, b, hH, r1, r2, e', q⟩
 ·split at e
  ·rename_i p1 p2 hp hq
   obtain ⟨i, ka⟩ := p1
   obtain ⟨j, kb⟩ := p2
   obtain ⟨rfl, hi, hdi, rfl⟩ := dctAt_rel hH r1 hp
   obtain ⟨rfl, hj, hdj, rfl⟩ := dctAt_rel hH r2 hq
   cases rx
   cases ry
   obtain ⟨oa, ob, es, fs, ea, eb, c, ta, tb, na, nb, g1, g2, g3, g4, met, rfl⟩ := dv_of (A := X.A.in1) I hH (by show X.A.units + 1 + 41 < cLine; omega) hdi hdj e
   exact ne_raw ta tb (by omega) na nb g1 g2 g3 g4 met ⟨.bl _, H, I, rfl, q⟩
  ·cases e
def nmOk (x : Str) : Bool := !(x == ("__debug__" : Str)) && !(x == ("__classdict__" : Str))
section
variable {X : Cx} {N : List Str} {sc : Scope} {k : Nat} {b : Expr}
theorem BdL.jv {pos : Pos} (B : BdL X N sc) (i : Nat) {x : Str} (hN : N[i]? = some x) (hv : Vis sc x) (hk : nmOk x = true) : JE X (.Name x pos) (eVar i) := by
 unfold nmOk at hk
 rw [Bool.and_eq_true] at hk
 exact B.jvar i hN hv (by simpa using hk.1) (by simpa using hk.2)
theorem BdT.ixV {pos : Pos} {a : Expr} {ma mb : EM} (B : BdT X N sc k) (ha : JE X a ma) (hb : JE X b mb) (hp : PlainIx b := by intro _ _; rfl) : JE X (.Subscript a b pos) (eOp ixV ma mb) := B.je_ixV hp ha hb
theorem BdT.eqV_ (B : BdT X N sc k) : Cp X .Eq b eqV := ⟨⟨_, op_eqG B.room.units, eqV_i⟩, nomark _⟩
theorem BdT.neV_ (B : BdT X N sc k) : Cp X .NotEq b neV := ⟨⟨_, op_neG B.room.units, neV_i⟩, nomark _⟩
end
end IL
namespace IL
open PySem L2
section
variable {α β γ : Type}
theorem bnd_pur (a : α) (f : α -> Mo β) : bnd (pur a) f = f a := (rfl)
theorem bnd_nop (f : α -> Mo β) : bnd (nop : Mo α) f = nop := (rfl)
theorem bnd_exx (x : XC) (f : α -> Mo β) : bnd (exx x : Mo α) f = exx x := (rfl)
theorem bnd_assoc (m : Mo α) (f : α -> Mo β) (g : β -> Mo γ) : bnd (bnd m f) g = bnd m fun a => bnd (f a) g := by
 funext ph; unfold bnd; cases m ph <;> rfl
theorem bnd_ite {c : Prop} [Decidable c] (a b : Mo α) (f : α -> Mo β) : bnd (if c then a else b) f = if c then bnd a f else bnd b f := by split <;> rfl
theorem bnd_ok {m : Mo α} {f : α -> Mo β} {ph ph' : PH} {a : α} (h : m ph = .ok a ph') : bnd m f ph = f a ph' := by unfold bnd; rw [h]
theorem pur_ap (a : α) (ph : PH) : pur a ph = .ok a ph := (rfl)
theorem exx_ap (x : XC) (ph : PH) : (exx x : Mo α) ph = .ex x ph := (rfl)
theorem lift_ret (a : α) : lift (ret a) = pur a := (rfl)
theorem ite_ap {c : Prop} [Decidable c] (a b : Mo α) (ph : PH) : (if c then a else b) ph = if c then a ph else b ph := by split <;> rfl
end
theorem eVar_0 (w : W) (σ : PSt) : eVar 0 (some w :: σ) = pur w := (rfl)
theorem eVar_s (i : Nat) (x : Option W) (σ : PSt) : eVar (i + 1) (x :: σ) = eVar i σ := (rfl)
theorem eC_ap (w : W) (σ : PSt) : eC w σ = pur w := (rfl)
theorem gN_ap (i : Nat) (w : W) (σ : PSt) : gN i w σ = pur (σ.set i (some w)) := (rfl)
theorem eOp_ap (f : W -> W -> Po W) (a b : EM) (σ : PSt) : eOp f a b σ = bnd (a σ) fun x => bnd (b σ) fun y => lift (f x y) := (rfl)
theorem eUn_ap (f : W -> Po W) (a : EM) (σ : PSt) : eUn f a σ = bnd (a σ) fun x => lift (f x) := (rfl)
theorem eT_ap (m : EM) (σ : PSt) : eT m σ = bnd (m σ) fun w => lift (match w with
 | .bl b => ret b
 | _ => nono) := (rfl)
theorem eTru_ap (m : EM) (σ : PSt) : eTru m σ = bnd (m σ) fun w => lift (truW w) := (rfl)
theorem tAndM_ap (a b : TM) (σ : PSt) : tAndM a b σ = bnd (a σ) fun c => if c = true then b σ else pur false := (rfl)
theorem tOrM_ap (a b : TM) (σ : PSt) : tOrM a b σ = bnd (a σ) fun c => if c = true then pur true else b σ := (rfl)
theorem tNotM_ap (a : TM) (σ : PSt) : tNotM a σ = bnd (a σ) fun c => pur (!c) := (rfl)
theorem eIf_ap (t : TM) (a b : EM) (σ : PSt) : eIf t a b σ = bnd (t σ) fun c => if c = true then a σ else b σ := (rfl)
theorem sSeq_ap (a b : SM) (σ : PSt) : sSeq a b σ = bnd (a σ) fun f => match f with
 | .nx σ' => b σ'
 | f => pur f := (rfl)
theorem sIf_ap (t : TM) (a b : SM) (σ : PSt) : sIf t a b σ = bnd (t σ) fun c => if c = true then a σ else b σ := (rfl)
theorem sRet_ap (e : EM) (σ : PSt) : sRet e σ = bnd (e σ) fun w => pur (.rt w) := (rfl)
theorem sNext_ap (σ : PSt) : sNext σ = pur (.nx σ) := (rfl)
theorem sExpr_ap (e : EM) (σ : PSt) : sExpr e σ = bnd (e σ) fun _ => pur (.nx σ) := (rfl)
theorem sAsg_ap (e : EM) (g : GM) (σ : PSt) : sAsg e g σ = bnd (e σ) fun w => bnd (g w σ) fun σ' => pur (.nx σ') := (rfl)
theorem eCall_ap (f : List W -> Mo W) (a : AM) (σ : PSt) : eCall f a σ = bnd (a σ) f := (rfl)
theorem eCallB_ap (f : List W -> Po W) (a : AM) (σ : PSt) : eCallB f a σ = bnd (a σ) fun xs => lift (f xs) := (rfl)
theorem aNil_ap (σ : PSt) : aNil σ = pur [] := (rfl)
theorem aCons_ap (e : EM) (r : AM) (σ : PSt) : aCons e r σ = bnd (e σ) fun w => bnd (r σ) fun ws => pur (w :: ws) := (rfl)
theorem eTup_ap (a : AM) (σ : PSt) : eTup a σ = bnd (a σ) fun ws => lift (newT ws) := (rfl)
theorem eLst_ap (a : AM) (σ : PSt) : eLst a σ = bnd (a σ) fun ws => lift (newL ws) := (rfl)
theorem eIs_ap (c : String) (m : EM) (σ : PSt) : eIs c m σ = bnd (m σ) fun w => lift (isP c w) := (rfl)
theorem eAnd_ap (a b : EM) (σ : PSt) : eAnd a b σ = bnd (a σ) fun w => match w with
 | .bl c => if c = true then b σ else pur (.bl false)
 | _ => nop := (rfl)
theorem eOr_ap (a b : EM) (σ : PSt) : eOr a b σ = bnd (a σ) fun w => match w with
 | .bl c => if c = true then pur (.bl true) else b σ
 | _ => nop := (rfl)
theorem eNot_ap (a : EM) (σ : PSt) : eNot a σ = bnd (a σ) fun w => match w with
 | .bl c => pur (.bl (!c))
 | _ => nop := (rfl)
theorem eChain_ap (f f' : W -> W -> Po W) (a b c : EM) (σ : PSt) : eChain f f' a b c σ = bnd (a σ) fun x => bnd (b σ) fun y => bnd (lift (f x y)) fun z => match z with
 | .bl k => if k = true then bnd (c σ) fun u => lift (f' y u) else pur (.bl false)
 | _ => nop := (rfl)
theorem eMeth_ap (ty : W -> PH -> Bool) (f : W -> List W -> Po W) (o : EM) (a : AM) (σ : PSt) : eMeth ty f o a σ = bnd (o σ) fun x => bnd (lift (chkT (ty x))) fun _ => bnd (a σ) fun xs => lift (f x xs) := (rfl)
theorem fEnd_rt (w : W) : fEnd (.rt w) = pur w := (rfl)
theorem fEnd_nx (σ : PSt) : fEnd (.nx σ) = pur .non := (rfl)
theorem fM_1 (b : SM) (n : Nat) (x : W) : fM b n 1 [x] = bnd (b (some x :: List.replicate (n - 1) none)) fEnd := (rfl)
theorem fM_2 (b : SM) (n : Nat) (x y : W) : fM b n 2 [x, y] = bnd (b (some x :: some y :: List.replicate (n - 2) none)) fEnd := (rfl)
theorem fM_3 (b : SM) (n : Nat) (x y z : W) : fM b n 3 [x, y, z] = bnd (b (some x :: some y :: some z :: List.replicate (n - 3) none)) fEnd := (rfl)
theorem fM_4 (b : SM) (n : Nat) (x y z u : W) : fM b n 4 [x, y, z, u] = bnd (b (some x :: some y :: some z :: some u :: List.replicate (n - 4) none)) fEnd := (rfl)
theorem l_add (i j : Int) : lift (addW (.int i) (.int j)) = pur (.int (i + j)) := (rfl)
theorem l_sub (i j : Int) : lift (subW (.int i) (.int j)) = pur (.int (i - j)) := (rfl)
theorem l_neg (i : Int) : lift (negW (.int i)) = pur (.int (-i)) := (rfl)
theorem l_mul {i j : Int} (h : mulC i j = true) : lift (mulW (.int i) (.int j)) = pur (.int (i * j)) := by
 unfold mulW; simp only [h, if_true]; rfl
theorem l_mod {i j : Int} (h : j ≠ 0) : lift (modW (.int i) (.int j)) = pur (.int (i.fmod j)) := by
 unfold modW iopC; simp only [ne_eq, h, not_false_eq_true, decide_true, if_true]; rfl
theorem l_div {i j : Int} (h : j ≠ 0) (h' : j.natAbs < 2 ^ 64) : lift (divW (.int i) (.int j)) = pur (.int (i.fdiv j)) := by
 unfold divW iopC; simp only [ne_eq, h, h', not_false_eq_true, decide_true, Bool.and_self, if_true]; rfl
theorem l_lt (i j : Int) : lift (ltW (.int i) (.int j)) = pur (.bl (decide (i < j))) := (rfl)
theorem l_le (i j : Int) : lift (leW (.int i) (.int j)) = pur (.bl (decide (i <= j))) := (rfl)
theorem l_gt (i j : Int) : lift (gtW (.int i) (.int j)) = pur (.bl (decide (j < i))) := (rfl)
theorem l_ge (i j : Int) : lift (geW (.int i) (.int j)) = pur (.bl (decide (j <= i))) := (rfl)
theorem l_int (i : Int) : lift (intW [.int i]) = pur (.int i) := (rfl)
theorem l_intb (b : Bool) : lift (intW [.bl b]) = pur (.int (if b then 1 else 0)) := (rfl)
theorem l_abs (i : Int) : lift (absW [.int i]) = pur (.int (if i < 0 then -i else i)) := (rfl)
theorem l_max (i j : Int) : lift (max2W [.int i, .int j]) = pur (.int (if j > i then j else i)) := (rfl)
theorem l_min (i j : Int) : lift (min2W [.int i, .int j]) = pur (.int (if j < i then j else i)) := (rfl)
theorem l_tb (b : Bool) : lift (match W.bl b with
 | .bl b => ret b
 | _ => nono) = pur b := (rfl)
theorem l_truB (b : Bool) : lift (truW (.bl b)) = pur b := (rfl)
theorem l_truI (i : Int) : lift (truW (.int i)) = pur (i != 0) := (rfl)
theorem l_truT (ws : List W) : lift (truW (.tup ws)) = pur (!ws.isEmpty) := (rfl)
theorem l_eqI (i j : Int) : lift (eqW (.int i) (.int j)) = pur (.bl (decide (i = j))) := by
 funext ph; unfold eqW eqD lift; simp only [dat]; rfl
theorem l_neI (i j : Int) : lift (neW (.int i) (.int j)) = pur (.bl (!decide (i = j))) := by
 funext ph; unfold neW eqD lift; simp only [dat]; rfl
end IL
namespace IL
open PySem L2
theorem so (s : String) : PyData.strOk (Str.ofString s) = true := by
 unfold PyData.strOk
 rw [Str.ofString_eq_toList]
 simp only [List.all_toArray, List.all_eq_true, List.mem_map, decide_eq_true_eq]
 rintro n ⟨c, _, rfl⟩
 have h := c.valid
 simp only [UInt32.isValidChar, Nat.isValidChar] at h
 show c.val.toNat < _
 omega
theorem os_inj {a b : String} : Str.ofString a = Str.ofString b ↔ a = b := by
 constructor
 ·intro h
  rw [Str.ofString_eq_toList, Str.ofString_eq_toList] at h
  have h := congrArg Array.toList (Str.mk.inj h)
  simp only [List.toList_toArray] at h
  have mi : ∀ l l' : List Char, l.map Char.toNat = l'.map Char.toNat -> l = l' := by
   intro l
   induction l with
   | nil => intro l' h; cases l' with
    | nil => rfl
    | cons _ _ => cases h
   | cons x l ih => intro l' h; cases l' with
    | nil => cases h
    | cons y l' =>
     have := List.cons.inj h
     rw [ih l' this.2, Char.ext (UInt32.toNat_inj.mp this.1)]
  have q : a.toList = b.toList := mi _ _ h
  exact String.toList_inj.mp q
 ·intro h; rw [h]
theorem l_eqS {a b : Str} (ha : PyData.strOk a = true) (hb : PyData.strOk b = true) : lift (eqW (.str a) (.str b)) = pur (.bl (decide (a = b))) := by
 funext ph; unfold eqW eqD lift; simp only [dat, ha, hb, if_true]; rfl
theorem l_neS {a b : Str} (ha : PyData.strOk a = true) (hb : PyData.strOk b = true) : lift (neW (.str a) (.str b)) = pur (.bl (!decide (a = b))) := by
 funext ph; unfold neW eqD lift; simp only [dat, ha, hb, if_true]; rfl
theorem l_eqL (a b : String) : lift (eqW (.str (Str.ofString a)) (.str (Str.ofString b))) = pur (.bl (decide (a = b))) := by
 rw [l_eqS (so a) (so b)]; simp only [os_inj]
theorem l_neL (a b : String) : lift (neW (.str (Str.ofString a)) (.str (Str.ofString b))) = pur (.bl (!decide (a = b))) := by
 rw [l_neS (so a) (so b)]; simp only [os_inj]
theorem l_neB (a b : Bool) : lift (neW (.bl a) (.bl b)) = pur (.bl (!(a == b))) := by
 funext ph; unfold neW eqD lift; simp only [dat]; rfl
theorem l_is (c : String) (w : W) (t : String) (h : ∀ ph, kindW w ph = some t) : lift (isP c w) = pur (.bl (subK t c)) := by
 funext ph; unfold lift isP; rw [h]; rfl
theorem is_i (c : String) (i : Int) : lift (isP c (.int i)) = pur (.bl (subK "int" c)) := l_is _ _ _ fun _ => rfl
theorem is_b (c : String) (b : Bool) : lift (isP c (.bl b)) = pur (.bl (subK "bool" c)) := l_is _ _ _ fun _ => rfl
theorem is_n (c : String) : lift (isP c .non) = pur (.bl (subK "NoneType" c)) := l_is _ _ _ fun _ => rfl
theorem is_s (c : String) (x : Str) : lift (isP c (.str x)) = pur (.bl (subK "str" c)) := l_is _ _ _ fun _ => rfl
theorem is_t (c : String) (ws : List W) : lift (isP c (.tup ws)) = pur (.bl (subK "tuple" c)) := l_is _ _ _ fun _ => rfl
theorem k_ii : subK "int" "int" = true := by decide +kernel
theorem k_ib : subK "int" "bool" = false := by decide +kernel
theorem k_bi : subK "bool" "int" = true := by decide +kernel
theorem k_bb : subK "bool" "bool" = true := by decide +kernel
theorem k_ni : subK "NoneType" "int" = false := by decide +kernel
theorem k_si : subK "str" "int" = false := by decide +kernel
theorem k_li : subK "list" "int" = false := by decide +kernel
theorem k_ll : subK "list" "list" = true := by decide +kernel
theorem k_tt : subK "tuple" "tuple" = true := by decide +kernel
theorem newT_0 : lift (newT []) = pur (.tup []) := (rfl)
theorem newT_1 (a : W) : lift (newT [a]) = pur (.tup [a]) := (rfl)
theorem newT_2 (a b : W) : lift (newT [a, b]) = pur (.tup [a, b]) := (rfl)
theorem newT_3 (a b c : W) : lift (newT [a, b, c]) = pur (.tup [a, b, c]) := (rfl)
theorem newT_4 (a b c d : W) : lift (newT [a, b, c, d]) = pur (.tup [a, b, c, d]) := (rfl)
theorem newT_5 (a b c d e : W) : lift (newT [a, b, c, d, e]) = pur (.tup [a, b, c, d, e]) := (rfl)
theorem ixT_0 (a : W) (l : List W) : lift (ixW (.tup (a :: l)) (.int 0)) = pur a := by
 funext ph; unfold lift ixW atI ixN; simp [seqW, pur]
theorem ixT_1 (a b : W) (l : List W) : lift (ixW (.tup (a :: b :: l)) (.int 1)) = pur b := by
 funext ph; unfold lift ixW atI ixN; simp [seqW, pur]; rw [if_pos (by omega)]; simp
theorem ixT_2 (a b c : W) (l : List W) : lift (ixW (.tup (a :: b :: c :: l)) (.int 2)) = pur c := by
 funext ph; unfold lift ixW atI ixN; simp [seqW, pur]; rw [if_pos (by omega)]; simp
theorem ixT_3 (a b c d : W) (l : List W) : lift (ixW (.tup (a :: b :: c :: d :: l)) (.int 3)) = pur d := by
 funext ph; unfold lift ixW atI ixN; simp [seqW, pur]; rw [if_pos (by omega)]; simp
theorem ixT_4 (a b c d e : W) (l : List W) : lift (ixW (.tup (a :: b :: c :: d :: e :: l)) (.int 4)) = pur e := by
 funext ph; unfold lift ixW atI ixN; simp [seqW, pur]; rw [if_pos (by omega)]; simp
def isNon : W -> Bool
 | .non => true
 | _ => false
theorem l_notN (w : W) : lift (notNW w .non) = pur (.bl (!isNon w)) := by
 unfold notNW; cases w <;> rfl
theorem l_isN (w : W) : lift (isNW w .non) = pur (.bl (isNon w)) := by
 unfold isNW; cases w <;> rfl
theorem isNon_i (i : Int) : isNon (.int i) = false := rfl
theorem isNon_n : isNon .non = true := rfl
theorem isNon_t (ws : List W) : isNon (.tup ws) = false := rfl
theorem isNon_r (i : Nat) : isNon (.ref i) = false := rfl
def Ex (ph ph' : PH) : Prop := ∃ m, ph' = ph ++ m
theorem Ex.refl (ph : PH) : Ex ph ph := ⟨[], by simp⟩
theorem Ex.trans {a b c : PH} (h : Ex a b) (h' : Ex b c) : Ex a c := by
 obtain ⟨m, rfl⟩ := h
 obtain ⟨m', rfl⟩ := h'
 exact ⟨m ++ m', by simp⟩
theorem Ex.one (ph : PH) (o : PO) : Ex ph (ph ++ [o]) := ⟨[o], rfl⟩
theorem Ex.get {a b : PH} (h : Ex a b) {i : Nat} {o : PO} (e : a[i]? = some o) : b[i]? = some o := by
 obtain ⟨m, rfl⟩ := h
 rw [List.getElem?_append_left (List.getElem?_eq_some_iff.mp e).1]; exact e
theorem Ex.len {a b : PH} (h : Ex a b) : a.length <= b.length := by obtain ⟨m, rfl⟩ := h; simp
theorem get_new (ph : PH) (o : PO) : (ph ++ [o])[ph.length]? = some o := by simp
theorem small {n : Nat} (h : n <= 1000000) : n <= sizeLine := Nat.le_trans h (by decide)
section
variable {β : Type} {ph : PH} {i : Nat} {ws : List W}
theorem new_ap (ws : List W) (ph : PH) (h : ws.length <= sizeLine) : lift (newL ws) ph = .ok (.ref ph.length) (ph ++ [.lst ws]) := by
 unfold lift newL; rw [if_pos h]
theorem bnd_new (ws : List W) (f : W -> Mo β) (ph : PH) (h : ws.length <= sizeLine) : bnd (lift (newL ws)) f ph = f (.ref ph.length) (ph ++ [.lst ws]) := bnd_ok (new_ap ws ph h)
theorem ix_ref (h : ph[i]? = some (.lst ws)) {k : Int} {w : W} (hk : atI ws k = some w) : lift (ixW (.ref i) (.int k)) ph = .ok w ph := by
 unfold lift ixW; simp only [seqW, h, Option.bind_some, hk, Option.map_some]
theorem len_ref (h : ph[i]? = some (.lst ws)) : lift (lenW [.ref i]) ph = .ok (.int ws.length) ph := by
 unfold lift lenW; simp only [seqW, h, Option.map_some]
theorem isL_ref (h : ph[i]? = some (.lst ws)) : isL (.ref i) ph = true := by unfold isL; simp only [h]
theorem chk_ref (h : ph[i]? = some (.lst ws)) : lift (chkT (isL (.ref i))) ph = .ok () ph := by
 unfold lift chkT; rw [if_pos (isL_ref h)]
theorem append_ref (h : ph[i]? = some (.lst ws)) (hz : ws.length < sizeLine) (w : W) : lift (appendW (.ref i) [w]) ph = .ok .non (ph.set i (.lst (ws ++ [w]))) := by
 unfold lift appendW; simp only [h, hz, if_true]
theorem extend_ref {j : Nat} {us : List W} (h : ph[i]? = some (.lst ws)) (h' : ph[j]? = some (.lst us)) (hz : ws.length + us.length <= sizeLine) : lift (extendW (.ref i) [.ref j]) ph = .ok .non (ph.set i (.lst (ws ++ us))) := by
 unfold lift extendW; simp only [h, h', hz, if_true]
theorem list_ref (h : ph[i]? = some (.lst ws)) : lift (listW [.ref i]) ph = .ok (.ref ph.length) (ph ++ [.lst ws]) := by
 unfold lift listW; simp only [seqW, h]
theorem add_ref {j : Nat} {us : List W} (h : ph[i]? = some (.lst ws)) (h' : ph[j]? = some (.lst us)) (hz : ws.length + us.length <= sizeLine) : lift (addW (.ref i) (.ref j)) ph = .ok (.ref ph.length) (ph ++ [.lst (ws ++ us)]) := by
 unfold lift addW; simp only [h, h', hz, if_true]
end
theorem fmod_range (a b : Int) (h : 0 < b) : 0 <= a.fmod b /\ a.fmod b < b := by
 rw [Int.fmod_eq_emod_of_nonneg _ (by omega)]
 exact ⟨Int.emod_nonneg _ (by omega), Int.emod_lt_of_pos _ h⟩
theorem atI_nat {α : Type} (ws : List α) (k : Nat) (h : k < ws.length) : atI ws (k : Int) = ws[k]? := by
 unfold atI ixN
 rw [if_pos (by omega), if_pos (by omega)]; rfl
theorem lenF (ws : List W) : lift (lenW [.fl ws]) = pur (.int ws.length) := by funext ph; rfl
theorem ixF {ws : List W} {i : Int} {w : W} (h : atI ws i = some w) : lift (ixW (.fl ws) (.int i)) = pur w := by
 funext ph; unfold lift ixW; simp only [seqW, Option.bind_some, h, Option.map_some]; rfl
theorem forG_ret {chk : PH -> Bool} {g : GM} {b : SM} (R : W -> PH -> Prop) (I : Nat -> PSt -> PH -> Prop) : ∀ (items : List W) (k : Nat) (σ : PSt) (ph : PH),
  (∀ j σ ph, I j σ ph -> chk ph = true) →
  (∀ j x σ ph, items[j]? = some x -> I (k + j) σ ph -> ∃ σ1 ph1, g x σ ph = .ok σ1 ph1 /\ ∃ f ph2, b σ1 ph1 = .ok f ph2 /\ ((∃ σ2, (f = .nx σ2 \/ f = .ct σ2) /\ I (k + j + 1) σ2 ph2) \/ ∃ w, f = .rt w /\ R w ph2)) →
  I k σ ph -> (∃ σ' ph', forG chk g b items σ ph = .ok (.nx σ') ph' /\ I (k + items.length) σ' ph') \/ ∃ w ph', forG chk g b items σ ph = .ok (.rt w) ph' /\ R w ph'
 | [], k, σ, ph, hc, hs, h0 => by
  refine .inl ⟨σ, ph, ?_, h0⟩
  unfold forG
  rw [if_pos (hc _ _ _ h0)]
 | x :: xs, k, σ, ph, hc, hs, h0 => by
  obtain ⟨σ1, ph1, e1, f, ph2, e2, h⟩ := hs 0 x σ ph rfl h0
  have e : forG chk g b (x :: xs) σ ph = (match f with
   | .nx σ' => forG chk g b xs σ'
   | .ct σ' => forG chk g b xs σ'
   | .bk σ' => pur (.nx σ')
   | .rt w => pur (.rt w)) ph2 := by
   conv => lhs; unfold forG
   rw [if_pos (hc _ _ _ h0), bnd_ok e1, bnd_ok e2]
   all_goals (cases f <;> rfl)
  rcases h with ⟨σ2, hf, hI⟩ | ⟨w, rfl, hR⟩
  ·have e : forG chk g b (x :: xs) σ ph = forG chk g b xs σ2 ph2 := by
    rcases hf with rfl | rfl <;> exact e
   rw [e]
   have ih := forG_ret R I xs (k + 1) σ2 ph2 hc (fun j y σ ph hj hI => by
    have := hs (j + 1) y σ ph (by simpa using hj) (by rw [show k + (j + 1) = k + 1 + j by omega]; exact hI)
    rw [show k + (j + 1) + 1 = k + 1 + j + 1 by omega] at this
    exact this) hI
   rw [show k + 1 + xs.length = k + (x :: xs).length by simp; omega] at ih
   exact ih
  ·exact .inr ⟨w, ph2, e, hR⟩
theorem forG_inv {chk : PH -> Bool} {g : GM} {b : SM} (I : Nat -> PSt -> PH -> Prop) (items : List W) (σ : PSt) (ph : PH)
  (hc : ∀ j σ ph, I j σ ph -> chk ph = true)
  (hs : ∀ j x σ ph, items[j]? = some x -> I j σ ph -> ∃ σ1 ph1, g x σ ph = .ok σ1 ph1 /\ ∃ f ph2, b σ1 ph1 = .ok f ph2 /\ ∃ σ2, (f = .nx σ2 \/ f = .ct σ2) /\ I (j + 1) σ2 ph2)
  (h0 : I 0 σ ph) : ∃ σ' ph', forG chk g b items σ ph = .ok (.nx σ') ph' /\ I items.length σ' ph' := by
 have := forG_ret (fun _ _ => False) I items 0 σ ph hc (fun j x σ ph hj hI => by
  rw [Nat.zero_add] at hI ⊢
  obtain ⟨σ1, ph1, e1, f, ph2, e2, h⟩ := hs j x σ ph hj hI
  exact ⟨σ1, ph1, e1, f, ph2, e2, .inl h⟩) h0
 rw [Nat.zero_add] at this
 rcases this with h | ⟨_, _, _, h⟩
 ·exact h
 ·exact h.elim
theorem compG_run {chk : PH -> Bool} {g : GM} {c : TM} {e : EM} (L : Nat) (I : Nat -> List W -> PSt -> PH -> Prop) : ∀ (items : List W) (k : Nat) (acc : List W) (σ : PSt) (ph : PH),
  (∀ j acc σ ph, I j acc σ ph -> chk ph = true) →
  (∀ j x acc σ ph, items[j]? = some x -> I (k + j) acc σ ph -> ∃ σ1 ph1, g x σ ph = .ok σ1 ph1 /\ ∃ t ph2, c σ1 ph1 = .ok t ph2 /\ ((t = false /\ I (k + j + 1) acc σ1 ph2) \/ (t = true /\ ∃ w ph3, e σ1 ph2 = .ok w ph3 /\ ph3[L]? = some (.lst acc) /\ acc.length < sizeLine /\ I (k + j + 1) (acc ++ [w]) σ1 (ph3.set L (.lst (acc ++ [w])))))) →
  I k acc σ ph -> ∃ acc' σ' ph', compG chk g c e L items σ ph = .ok () ph' /\ I (k + items.length) acc' σ' ph'
 | [], k, acc, σ, ph, hc, hs, h0 => by
  refine ⟨acc, σ, ph, ?_, h0⟩
  unfold compG
  rw [if_pos (hc _ _ _ _ h0)]
 | x :: xs, k, acc, σ, ph, hc, hs, h0 => by
  obtain ⟨σ1, ph1, e1, t, ph2, e2, h⟩ := hs 0 x acc σ ph rfl h0
  have next : ∀ acc2 ph4, I (k + 1) acc2 σ1 ph4 -> ∃ acc' σ' ph', compG chk g c e L xs σ1 ph4 = .ok () ph' /\ I (k + (x :: xs).length) acc' σ' ph' := fun acc2 ph4 hI => by
   have ih := compG_run L I xs (k + 1) acc2 σ1 ph4 hc (fun j y acc σ ph hj hI => by
    have := hs (j + 1) y acc σ ph (by simpa using hj) (by rw [show k + (j + 1) = k + 1 + j by omega]; exact hI)
    rw [show k + (j + 1) + 1 = k + 1 + j + 1 by omega] at this
    exact this) hI
   rw [show k + 1 + xs.length = k + (x :: xs).length by simp; omega] at ih
   exact ih
  have n1 : noEx (g x σ) ph = .ok σ1 ph1 := by unfold noEx; rw [e1]
  have n2 : noEx (c σ1) ph1 = .ok t ph2 := by unfold noEx; rw [e2]
  rcases h with ⟨rfl, hI⟩ | ⟨rfl, w, ph3, e3, hL, hz, hI⟩
  ·have e : compG chk g c e L (x :: xs) σ ph = compG chk g c e L xs σ1 ph2 := by
    conv => lhs; unfold compG
    rw [if_pos (hc _ _ _ _ h0), bnd_ok n1, bnd_ok n2]
    rfl
   rw [e]
   exact next _ _ hI
  ·have n3 : noEx (e σ1) ph2 = .ok w ph3 := by unfold noEx; rw [e3]
   have e : compG chk g c e L (x :: xs) σ ph = compG chk g c e L xs σ1 (ph3.set L (.lst (acc ++ [w]))) := by
    conv => lhs; unfold compG
    rw [if_pos (hc _ _ _ _ h0), bnd_ok n1, bnd_ok n2]
    show bnd (noEx (e σ1)) _ ph2 = _
    rw [bnd_ok n3]
    exact bnd_ok (append_ref hL hz w)
   rw [e]
   exact next _ _ hI
end IL
namespace IL
open PySem L2
theorem eComp_ap (im : IM) (cap : List (Option Nat)) (g : GM) (c : TM) (e : EM) (σ : PSt) : eComp im cap g c e σ = bnd (im σ) fun r ph => bnd (compG r.2 g c e ph.length r.1 (capP cap σ)) (fun _ => pur (.ref ph.length)) (ph ++ [.lst []]) := (rfl)
theorem set_mid (ph m : PH) (o o' : PO) : (ph ++ [o] ++ m).set ph.length o' = ph ++ [o'] ++ m := by
 rw [List.append_assoc, List.set_append_right _ _ (Nat.le_refl _)]
 simp
theorem comp_run {α : Type} (as : List α) (h : α -> W) {im : IM} {cap : List (Option Nat)} {g : GM} {c : TM} {e : EM} {σ : PSt} {ph ph0 : PH} {chk : PH -> Bool} (him : im σ ph0 = .ok (as.map h, chk) ph) (hck : ∀ ph', Ex ph ph' -> chk ph' = true) (hz : as.length <= sizeLine)
  (F : α -> Option W) (S : PSt -> Prop) (h0 : S (capP cap σ))
  (step : ∀ x ∈ as, ∀ σ H, S σ -> Ex ph H -> ∃ σ1, g (h x) σ H = .ok σ1 H /\ S σ1 /\ ∃ t H1, c σ1 H = .ok t H1 /\ Ex H H1 /\ ((t = false /\ F x = none) \/ (t = true /\ ∃ w H2, e σ1 H1 = .ok w H2 /\ Ex H1 H2 /\ F x = some w))) :
  ∃ ph', eComp im cap g c e σ ph0 = .ok (.ref ph.length) ph' /\ Ex (ph ++ [.lst (as.filterMap F)]) ph' := by
 rw [eComp_ap, bnd_ok him]
 have key := compG_run (chk := chk) (g := g) (c := c) (e := e) ph.length (fun k acc σ H => S σ /\ acc = (as.take k).filterMap F /\ Ex (ph ++ [.lst acc]) H) (as.map h) 0 [] (capP cap σ) (ph ++ [.lst []])
  (fun j acc σ H hI => hck _ ((Ex.one _ _).trans hI.2.2))
  (fun j y acc σ H hj hI => by
   rw [Nat.zero_add] at hI ⊢
   obtain ⟨hS, ha, hE⟩ := hI
   rw [List.getElem?_map] at hj
   cases hx : as[j]? with
   | none => rw [hx] at hj; cases hj
   | some x =>
    rw [hx] at hj
    cases hj
    have tk : (as.take (j + 1)).filterMap F = acc ++ (F x).toList := by
     rw [List.take_add_one, hx, List.filterMap_append, ha]
     cases hF : F x <;> simp [hF]
    obtain ⟨σ1, e1, hS1, t, H1, e2, x2, h⟩ := step x (List.mem_of_getElem? hx) σ H hS ((Ex.one _ _).trans hE)
    refine ⟨σ1, H, e1, t, H1, e2, ?_⟩
    rcases h with ⟨rfl, hF⟩ | ⟨rfl, w, H2, e3, x3, hF⟩
    ·exact .inl ⟨rfl, hS1, by rw [tk, hF]; simp, hE.trans x2⟩
    ·have x4 := (hE.trans x2).trans x3
     refine .inr ⟨rfl, w, H2, e3, x4.get (get_new _ _), ?_, hS1, by rw [tk, hF]; rfl, ?_⟩
     ·have hl : acc.length <= j := by
       rw [ha]
       exact Nat.le_trans (List.length_filterMap_le _ _) (by simp; omega)
      have := (List.getElem?_eq_some_iff.mp hx).1
      omega
     ·obtain ⟨m, rfl⟩ := x4
      rw [set_mid]
      exact ⟨m, rfl⟩)
  ⟨h0, by simp, Ex.refl _⟩
 obtain ⟨acc, σ', ph', e1, _, ha, hE⟩ := key
 refine ⟨ph', ?_, ?_⟩
 ·show bnd (compG chk g c e ph.length (as.map h) (capP cap σ)) _ _ = _
  rw [bnd_ok e1]; rfl
 ·rw [Nat.zero_add, List.length_map, List.take_length] at ha
  rw [<- ha]; exact hE
theorem fm_some {α β : Type} (f : α -> β) : ∀ l : List α, l.filterMap (fun a => some (f a)) = l.map f
 | [] => rfl
 | a :: l => by
  rw [List.filterMap_cons_some (f := fun a => some (f a)) (b := f a) rfl, fm_some f l]; rfl
theorem comp_rel {α : Type} (as : List α) (h : α -> W) {im : IM} {cap : List (Option Nat)} {g : GM} {c : TM} {e : EM} {σ : PSt} {ph ph0 : PH} {chk : PH -> Bool} (him : im σ ph0 = .ok (as.map h, chk) ph) (hck : ∀ ph', Ex ph ph' -> chk ph' = true) (hz : as.length <= sizeLine)
  (R : Nat -> W -> Prop) (S : PSt -> Prop) (h0 : S (capP cap σ))
  (step : ∀ j x, as[j]? = some x -> ∀ σ H, S σ -> Ex ph H -> ∃ σ1, g (h x) σ H = .ok σ1 H /\ S σ1 /\ ∃ H1, c σ1 H = .ok true H1 /\ Ex H H1 /\ ∃ w H2, e σ1 H1 = .ok w H2 /\ Ex H1 H2 /\ R j w) :
  ∃ ws ph', eComp im cap g c e σ ph0 = .ok (.ref ph.length) ph' /\ Ex (ph ++ [.lst ws]) ph' /\ ws.length = as.length /\ ∀ j w, ws[j]? = some w -> R j w := by
 rw [eComp_ap, bnd_ok him]
 have key := compG_run (chk := chk) (g := g) (c := c) (e := e) ph.length (fun k acc σ H => S σ /\ acc.length = k /\ (∀ j w, acc[j]? = some w -> R j w) /\ Ex (ph ++ [.lst acc]) H) (as.map h) 0 [] (capP cap σ) (ph ++ [.lst []])
  (fun j acc σ H hI => hck _ ((Ex.one _ _).trans hI.2.2.2))
  (fun j y acc σ H hj hI => by
   rw [Nat.zero_add] at hI ⊢
   obtain ⟨hS, hl, ha, hE⟩ := hI
   rw [List.getElem?_map] at hj
   cases hx : as[j]? with
   | none => rw [hx] at hj; cases hj
   | some x =>
    rw [hx] at hj
    cases hj
    obtain ⟨σ1, e1, hS1, H1, e2, x2, w, H2, e3, x3, hR⟩ := step j x hx σ H hS ((Ex.one _ _).trans hE)
    have x4 := (hE.trans x2).trans x3
    refine ⟨σ1, H, e1, true, H1, e2, .inr ⟨rfl, w, H2, e3, x4.get (get_new _ _), ?_, hS1, by simp [hl], fun i u hu => ?_, ?_⟩⟩
    ·have := (List.getElem?_eq_some_iff.mp hx).1
     omega
    ·by_cases hi : i < acc.length
     ·rw [List.getElem?_append_left hi] at hu
      exact ha i u hu
     ·have hi2 : i = j := by
       have := (List.getElem?_eq_some_iff.mp hu).1
       simp at this
       omega
      subst hi2
      rw [<- hl, List.getElem?_concat_length] at hu
      cases hu
      exact hR
    ·obtain ⟨m, rfl⟩ := x4
     rw [set_mid]
     exact ⟨m, rfl⟩)
  ⟨h0, rfl, fun j w hw => by simp at hw, Ex.refl _⟩
 obtain ⟨acc, σ', ph', e1, _, hl, ha, hE⟩ := key
 refine ⟨acc, ph', ?_, hE, by rw [hl, Nat.zero_add, List.length_map], ha⟩
 show bnd (compG chk g c e ph.length (as.map h) (capP cap σ)) _ _ = _
 rw [bnd_ok e1]; rfl
theorem iBoth_ref {m : EM} {σ : PSt} {ph ph' : PH} {i : Nat} {ws : List W} (h : m σ ph = .ok (.ref i) ph') (hi : ph'[i]? = some (.lst ws)) : iBoth m σ ph = .ok (ws, fun p => decide (p[i]? = some (.lst ws))) ph' := by
 unfold iBoth
 rw [bnd_ok h]
 unfold lift bothI seqI
 simp only [hi]
theorem iR1_ap {m : AM} {σ : PSt} {ph ph' : PH} {j : Int} (h : m σ ph = .ok [.int j] ph') (h1 : -(2 ^ 62) <= j) (h2 : j < 2 ^ 62) : iR1 m σ ph = .ok (rngW 0 j.toNat, fun _ => true) ph' := by
 unfold iR1
 rw [bnd_ok h]
 unfold lift rng1
 simp only [h1, h2, and_self, if_true]
theorem rngW_get {lo : Int} {n k : Nat} {w : W} (h : (rngW lo n)[k]? = some w) : k < n /\ w = .int (lo + (k : Int)) := by
 unfold rngW at h
 rw [List.getElem?_map] at h
 cases q : (List.range n)[k]? with
 | none => rw [q] at h; cases h
 | some j =>
  rw [q] at h
  obtain ⟨hi, e⟩ := List.getElem?_eq_some_iff.mp q
  rw [List.getElem_range] at e
  subst e
  rw [List.length_range] at hi
  cases h
  exact ⟨hi, rfl⟩
theorem rngW_len (lo : Int) (n : Nat) : (rngW lo n).length = n := by unfold rngW; simp
theorem in_ref {ph : PH} {i : Nat} {ws : List W} {ds : List PyData} {x : W} {d : PyData} (h : ph[i]? = some (.lst ws)) (h1 : mapO (dat ph 40) ws = some ds) (h2 : dat ph 40 x = some d) : lift (inW x (.ref i)) ph = .ok (.bl (ds.any fun e => PyData.eqv e d)) ph := by
 unfold lift inW inD
 simp only [seqW, h, h1, h2, Option.map_some]
theorem in_tup {ph : PH} {ws : List W} {ds : List PyData} {x : W} {d : PyData} (h1 : mapO (dat ph 40) ws = some ds) (h2 : dat ph 40 x = some d) : lift (inW x (.tup ws)) ph = .ok (.bl (ds.any fun e => PyData.eqv e d)) ph := by
 unfold lift inW inD
 simp only [seqW, h1, h2, Option.map_some]
theorem eqv_s (a b : Str) : PyData.eqv (.str a) (.str b) = decide (a = b) := by
 unfold PyData.eqv; rfl
theorem eqv_i (a b : Int) : PyData.eqv (.int a) (.int b) = decide (a = b) := by
 unfold PyData.eqv; rfl
theorem eqv_t2 (a b c d : PyData) : PyData.eqv (.tuple [a, b]) (.tuple [c, d]) = (PyData.eqv a c && PyData.eqv b d) := by
 simp only [PyData.eqv, PyData.eqvAll, Bool.and_true]
theorem mapO_map {α β γ : Type} (f : β -> Option γ) (g : α -> β) (h : α -> γ) (hf : ∀ a, f (g a) = some (h a)) : ∀ l : List α, mapO f (l.map g) = some (l.map h)
 | [] => rfl
 | a :: l => by
  show mapO f (g a :: l.map g) = _
  unfold mapO
  rw [hf a, mapO_map f g h hf l]
  rfl
theorem in_lits (x : String) (ss : List String) : lift (inW (.str (Str.ofString x)) (.tup (ss.map fun s => .str (Str.ofString s)))) = pur (.bl (ss.any fun s => decide (s = x))) := by
 funext ph
 rw [in_tup (mapO_map _ _ (fun s => PyData.str (Str.ofString s)) (fun s => by simp only [dat, so, if_true]) ss) (d := .str (Str.ofString x)) (by simp only [dat, so, if_true])]
 rw [List.any_map]
 simp only [Function.comp_def, eqv_s, os_inj]
 rfl
theorem in_l2 (x a b : String) : lift (inW (.str (Str.ofString x)) (.tup [.str (Str.ofString a), .str (Str.ofString b)])) = pur (.bl (decide (a = x) || decide (b = x))) := by
 have := in_lits x [a, b]
 simp only [List.map_cons, List.map_nil, List.any_cons, List.any_nil, Bool.or_false] at this
 exact this
theorem in_l3 (x a b c : String) : lift (inW (.str (Str.ofString x)) (.tup [.str (Str.ofString a), .str (Str.ofString b), .str (Str.ofString c)])) = pur (.bl (decide (a = x) || (decide (b = x) || decide (c = x)))) := by
 have := in_lits x [a, b, c]
 simp only [List.map_cons, List.map_nil, List.any_cons, List.any_nil, Bool.or_false] at this
 exact this
theorem any_ref {ph : PH} {i : Nat} {bs : List Bool} (h : ph[i]? = some (.lst (bs.map W.bl))) : lift (anyW [.ref i]) ph = .ok (.bl (bs.any id)) ph := by
 unfold lift anyW blsW
 simp only [isL_ref h, if_true, seqW, h, Option.bind_some, mapO_map blW W.bl id (fun _ => rfl), Option.map_some, List.map_id_fun, id]
end IL
namespace IL
open PySem L2
theorem ixV_t (ws : List W) (y : W) : ixV (.tup ws) y = ixW (.tup ws) y := (rfl)
theorem ixV_f (ws : List W) (y : W) : ixV (.fl ws) y = ixW (.fl ws) y := (rfl)
theorem ixV_s (x : Str) (y : W) : ixV (.str x) y = ixW (.str x) y := (rfl)
theorem inV_t (x : W) (ws : List W) : inV x (.tup ws) = inW x (.tup ws) := (rfl)
theorem inV_f (x : W) (ws : List W) : inV x (.fl ws) = inW x (.fl ws) := (rfl)
theorem ninV_t (x : W) (ws : List W) : ninV x (.tup ws) = ninW x (.tup ws) := (rfl)
theorem mulV_1 (i : Int) (y : W) : mulV (.int i) y = mulW (.int i) y := by
 funext ph; unfold mulV; cases y <;> rfl
theorem gSubV_ap (o i : EM) (v : W) (σ : PSt) : gSubV o i v σ = bnd (o σ) fun ow => bnd (i σ) fun iw => bnd (lift (setV ow iw v)) fun _ => pur σ := (rfl)
section
variable {ph : PH} {i : Nat} {ws : List W} {kws : List (W × W)}
theorem dct_l (h : ph[i]? = some (.lst ws)) : dctAt (.ref i) ph = none := by unfold dctAt; simp only [h]
theorem dct_d (h : ph[i]? = some (.dct kws)) : dctAt (.ref i) ph = some (i, kws) := by unfold dctAt; simp only [h]
theorem ixv_ref (h : ph[i]? = some (.lst ws)) {k : Int} {w : W} (hk : atI ws k = some w) : lift (ixV (.ref i) (.int k)) ph = .ok w ph := by
 have := ix_ref h hk
 unfold lift at this ⊢
 unfold ixV
 rw [dct_l h]
 exact this
theorem inv_ref {ds : List PyData} {x : W} {d : PyData} (h : ph[i]? = some (.lst ws)) (h1 : mapO (dat ph 40) ws = some ds) (h2 : dat ph 40 x = some d) : lift (inV x (.ref i)) ph = .ok (.bl (ds.any fun e => PyData.eqv e d)) ph := by
 have := in_ref h h1 h2
 unfold lift at this ⊢
 unfold inV
 rw [dct_l h]
 exact this
theorem setv_dct (h : ph[i]? = some (.dct kws)) {k : W} (hk : okKey kws k = true) (hz : kws.length < sizeLine) (v : W) : lift (setV (.ref i) k v) ph = .ok () (ph.set i (.dct (dputW kws k v))) := by
 unfold lift setV
 simp only [dct_d h, hk, hz, and_self, if_true]
theorem setv_ref (h : ph[i]? = some (.lst ws)) {k : Int} {j : Nat} (hj : ixN ws.length k = some j) (v : W) : lift (setV (.ref i) (.int k) v) ph = .ok () (ph.set i (.lst (ws.set j v))) := by
 unfold lift setV
 rw [dct_l h]
 unfold setW
 simp only [h, hj]
theorem mulv_ref (h : ph[i]? = some (.lst ws)) {k : Int} (h1 : -(2 ^ 63) <= k) (h2 : k < 2 ^ 63) (hz : ws.length * k.toNat <= sizeLine) : lift (mulV (.ref i) (.int k)) ph = .ok (.ref ph.length) (ph ++ [.lst (List.replicate k.toNat ws).flatten]) := by
 unfold lift mulV
 simp only [h, h1, h2, hz, and_self, if_true]
end
theorem newD_ap (ph : PH) : lift newD ph = .ok (.ref ph.length) (ph ++ [.dct []]) := rfl
theorem eDct_ap (σ : PSt) : eDct σ = lift newD := (rfl)
end IL
namespace IL
open PySem L2
theorem fM_5 (b : SM) (n : Nat) (x y z u v : W) : fM b n 5 [x, y, z, u, v] = bnd (b (some x :: some y :: some z :: some u :: some v :: List.replicate (n - 5) none)) fEnd := (rfl)
theorem fM_6 (b : SM) (n : Nat) (x y z u v w : W) : fM b n 6 [x, y, z, u, v, w] = bnd (b (some x :: some y :: some z :: some u :: some v :: some w :: List.replicate (n - 6) none)) fEnd := (rfl)
theorem whN_more {t : TM} {b : SM} : ∀ (n : Nat) (σ : PSt) (ph : PH), (whN t b n σ ph).isNo = false -> whN t b (n + 1) σ ph = whN t b n σ ph
 | 0, σ, ph, h => by cases h
 | n + 1, σ, ph, h => by
  have h' : (bnd (t σ) (fun c => if c = true then bnd (b σ) fun f => match f with
   | .nx σ' => whN t b n σ'
   | .ct σ' => whN t b n σ'
   | .bk σ' => pur (.nx σ')
   | .rt w => pur (.rt w)
   else pur (.nx σ)) ph).isNo = false := h
  show bnd (t σ) (fun c => if c = true then bnd (b σ) fun f => match f with
   | .nx σ' => whN t b (n + 1) σ'
   | .ct σ' => whN t b (n + 1) σ'
   | .bk σ' => pur (.nx σ')
   | .rt w => pur (.rt w)
   else pur (.nx σ)) ph = bnd (t σ) (fun c => if c = true then bnd (b σ) fun f => match f with
   | .nx σ' => whN t b n σ'
   | .ct σ' => whN t b n σ'
   | .bk σ' => pur (.nx σ')
   | .rt w => pur (.rt w)
   else pur (.nx σ)) ph
  cases e1 : t σ ph with
  | no => unfold bnd; rw [e1]
  | ex x p => unfold bnd; rw [e1]
  | ok c p =>
   rw [bnd_ok e1] at h' ⊢
   rw [bnd_ok e1]
   cases c with
   | false => rfl
   | true =>
    simp only [if_true] at h' ⊢
    cases e2 : b σ p with
    | no => unfold bnd; rw [e2]
    | ex x q => unfold bnd; rw [e2]
    | ok f q =>
     rw [bnd_ok e2] at h' ⊢
     rw [bnd_ok e2]
     cases f with
     | nx σ' => exact whN_more n σ' q h'
     | ct σ' => exact whN_more n σ' q h'
     | bk σ' => rfl
     | rt w => rfl
theorem whN_le {t : TM} {b : SM} {n m : Nat} {σ : PSt} {ph : PH} (hm : n <= m) (h : (whN t b n σ ph).isNo = false) : whN t b m σ ph = whN t b n σ ph := by
 induction m with
 | zero =>
  have : n = 0 := by omega
  rw [this]
 | succ m ih =>
  by_cases e : n = m + 1
  ·rw [e]
  ·have := ih (by omega)
   rw [whN_more m σ ph (by rw [this]; exact h), this]
theorem sWhile_of {t : TM} {b : SM} {n : Nat} {σ : PSt} {ph ph' : PH} {f : Fl} (h : whN t b n σ ph = .ok f ph') : sWhile t b σ ph = .ok f ph' := by
 have hn : (whN t b n σ ph).isNo = false := by rw [h]; rfl
 have he : ∃ n, (whN t b n σ ph).isNo = false := ⟨n, hn⟩
 unfold sWhile
 rw [dif_pos he]
 have hc := he.choose_spec
 by_cases hle : n <= he.choose
 ·rw [whN_le hle hn, h]
 ·rw [<- whN_le (Nat.le_of_not_le hle) hc, h]
theorem while_inv {t : TM} {b : SM} (I : Nat -> PSt -> PH -> Prop) (D : PSt -> PH -> Prop)
  (step : ∀ k σ ph, I k σ ph -> (∃ ph1, t σ ph = .ok false ph1 /\ D σ ph1) \/ ∃ ph1, t σ ph = .ok true ph1 /\ ∃ f ph2, b σ ph1 = .ok f ph2 /\ ∃ σ2, (f = .nx σ2 \/ f = .ct σ2) /\ ∃ k', k' < k /\ I k' σ2 ph2) :
  ∀ k σ ph, I k σ ph -> ∃ σ' ph', sWhile t b σ ph = .ok (.nx σ') ph' /\ D σ' ph' := by
 have key : ∀ k σ ph, I k σ ph -> ∃ n σ' ph', whN t b n σ ph = .ok (.nx σ') ph' /\ D σ' ph' := by
  intro k
  induction k using Nat.strongRecOn with
  | ind k ih =>
   intro σ ph h
   rcases step k σ ph h with ⟨ph1, e1, hD⟩ | ⟨ph1, e1, f, ph2, e2, σ2, hf, k', hk, hI⟩
   ·refine ⟨1, σ, ph1, ?_, hD⟩
    show bnd (t σ) _ ph = _
    rw [bnd_ok e1]; rfl
   ·obtain ⟨n, σ', ph', e3, hD⟩ := ih k' hk σ2 ph2 hI
    refine ⟨n + 1, σ', ph', ?_, hD⟩
    show bnd (t σ) _ ph = _
    rw [bnd_ok e1]
    simp only [if_true]
    rw [bnd_ok e2]
    rcases hf with rfl | rfl <;> exact e3
 intro k σ ph h
 obtain ⟨n, σ', ph', e, hD⟩ := key k σ ph h
 exact ⟨σ', ph', sWhile_of e, hD⟩
theorem dat_i (ph : PH) (n : Nat) (i : Int) : dat ph n (.int i) = some (.int i) := by cases n <;> rfl
theorem eqv_all_self : ∀ ds : List PyData, (∀ d ∈ ds, PyData.eqv d d = true) -> PyData.eqvAll ds ds = true
 | [], _ => by unfold PyData.eqvAll; rfl
 | d :: ds, h => by
  simp only [PyData.eqvAll, h d (by simp), eqv_all_self ds (fun e he => h e (by simp [he])), Bool.and_self]
theorem mapO_mem {α β : Type} {f : α -> Option β} : ∀ {l : List α} {m : List β}, mapO f l = some m -> ∀ b ∈ m, ∃ a ∈ l, f a = some b
 | [], m, h, b, hb => by cases h; cases hb
 | a :: l, m, h, b, hb => by
  unfold mapO at h
  split at h
  ·rename_i b' m' e1 e2
   cases h
   rcases List.mem_cons.mp hb with rfl | hb
   ·exact ⟨a, by simp, e1⟩
   ·obtain ⟨c, hc, e⟩ := mapO_mem e2 b hb
    exact ⟨c, by simp [hc], e⟩
  ·cases h
theorem dat_self {ph : PH} : ∀ (n : Nat) (w : W) (d : PyData), dat ph n w = some d -> PyData.eqv d d = true := by
 intro n
 induction n with
 | zero =>
  intro w d h
  cases w <;> simp only [dat] at h <;> first | (cases h; simp [PyData.eqv]; done) | skip
  ·split at h
   ·cases h; simp [PyData.eqv]
   ·cases h
  all_goals cases h
 | succ n ih =>
  have key : ∀ (ws : List W) (ds : List PyData), mapO (dat ph n) ws = some ds -> PyData.eqvAll ds ds = true := fun ws ds h =>
   eqv_all_self ds fun d hd => let ⟨w, _, e⟩ := mapO_mem h d hd; ih w d e
  intro w d h
  cases w with
  | non => cases h; simp [PyData.eqv]
  | bl b => cases h; simp [PyData.eqv]
  | int i => cases h; simp [PyData.eqv]
  | str x =>
   simp only [dat] at h
   split at h
   ·cases h; simp [PyData.eqv]
   ·cases h
  | tup ws =>
   simp only [dat] at h
   cases q : mapO (dat ph n) ws with
   | none => rw [q] at h; cases h
   | some ds => rw [q] at h; cases h; simp only [PyData.eqv, key ws ds q]
  | fl ws =>
   simp only [dat] at h
   cases q : mapO (dat ph n) ws with
   | none => rw [q] at h; cases h
   | some ds => rw [q] at h; cases h; simp only [PyData.eqv, key ws ds q]
  | ref i =>
   simp only [dat] at h
   split at h
   ·rename_i ws hw
    cases q : mapO (dat ph n) ws with
    | none => rw [q] at h; cases h
    | some ds => rw [q] at h; cases h; simp only [PyData.eqv, key ws ds q]
   ·cases h
  | exc c ns ws => simp only [dat] at h; cases h
theorem l_neD {ph : PH} {x y : W} {b : Bool} (h : eqD ph x y = some b) : lift (neW x y) ph = .ok (.bl (!b)) ph := by
 unfold lift neW; simp only [h, Option.map_some]
theorem eqD_of {ph : PH} {x y : W} {d : PyData} (h1 : dat ph 40 x = some d) (h2 : dat ph 40 y = some d) : eqD ph x y = some true := by
 unfold eqD
 rw [h1, h2]
 simp only [dat_self 40 _ _ h1]
end IL
namespace IL
open PySem L2
def EVA0 := (And.intro (And.intro (And.intro (And.intro (And.intro (And.intro @bnd_pur (And.intro @bnd_exx @bnd_nop)) (And.intro (And.intro @bnd_assoc @bnd_ite) (And.intro @eVar_0 @eVar_s))) (And.intro (And.intro (And.intro @eC_ap @gN_ap) (And.intro @eOp_ap @eUn_ap)) (And.intro (And.intro @eT_ap @eTru_ap) (And.intro @tAndM_ap @tOrM_ap)))) (And.intro (And.intro (And.intro @tNotM_ap (And.intro @eIf_ap @sSeq_ap)) (And.intro (And.intro @sIf_ap @sRet_ap) (And.intro @sNext_ap @sExpr_ap))) (And.intro (And.intro (And.intro @sAsg_ap @eCall_ap) (And.intro @eCallB_ap @aNil_ap)) (And.intro (And.intro @aCons_ap @eTup_ap) (And.intro @eLst_ap @eIs_ap))))) (And.intro (And.intro (And.intro (And.intro @eAnd_ap (And.intro @eOr_ap @eNot_ap)) (And.intro (And.intro @eChain_ap @eMeth_ap) (And.intro @fEnd_rt @fEnd_nx))) (And.intro (And.intro (And.intro @fM_1 @fM_2) (And.intro @fM_3 @fM_4)) (And.intro (And.intro @l_add @l_sub) (And.intro @l_neg @l_lt)))) (And.intro (And.intro (And.intro (And.intro @l_le @l_gt) (And.intro @l_ge @l_int)) (And.intro (And.intro @l_intb @l_abs) (And.intro @l_max @l_min))) (And.intro (And.intro (And.intro @l_tb @l_truB) (And.intro @l_truI @l_truT)) (And.intro (And.intro @l_eqI @l_neI) (And.intro @lift_ret @pur_ap)))))) (And.intro (And.intro (And.intro (And.intro (And.intro @exx_ap (And.intro @ite_ap @decide_true)) (And.intro (And.intro @decide_false @Bool.false_eq_true) (And.intro @Bool.not_true @Bool.not_false))) (And.intro (And.intro (And.intro @l_eqL @l_neL) (And.intro @l_neB @is_i)) (And.intro (And.intro @is_b @is_n) (And.intro @is_s @is_t)))) (And.intro (And.intro (And.intro (And.intro @k_ii @k_ib) (And.intro @k_bi @k_bb)) (And.intro (And.intro @k_ni @k_si) (And.intro @k_li @k_ll))) (And.intro (And.intro (And.intro @k_tt @newT_0) (And.intro @newT_1 @newT_2)) (And.intro (And.intro @newT_3 @newT_4) (And.intro @newT_5 @ixT_0))))) (And.intro (And.intro (And.intro (And.intro @ixT_1 (And.intro @ixT_2 @ixT_3)) (And.intro (And.intro @ixT_4 @l_notN) (And.intro @l_isN @isNon_i))) (And.intro (And.intro (And.intro @isNon_n @isNon_t) (And.intro @isNon_r @fM_5)) (And.intro (And.intro @fM_6 @ixV_t) (And.intro @ixV_f @ixV_s)))) (And.intro (And.intro (And.intro (And.intro @inV_t @inV_f) (And.intro @ninV_t @mulV_1)) (And.intro (And.intro @gSubV_ap @eDct_ap) (And.intro @in_l2 @in_l3))) (And.intro (And.intro (And.intro @Bool.or_false @Bool.false_or) (And.intro @Bool.or_true @Bool.true_or)) (And.intro (And.intro @Bool.and_true @Bool.true_and) (And.intro @Bool.and_false @Bool.false_and)))))))
theorem EVA : type_of% EVA0 := EVA0
end IL
namespace IL
open PySem L2
theorem eFld_ap (c f : Str) (m : EM) (σ : PSt) : eFld c f m σ = bnd (m σ) fun w => lift (fldW c f w) := (rfl)
theorem sFldW_ap (c f : Str) (o v : EM) (σ : PSt) : sFldW c f o v σ = bnd (v σ) fun y => bnd (o σ) fun x => bnd (lift (setF c f x y)) fun _ => pur (.nx σ) := (rfl)
theorem eNew_ap (c : Str) (fm : List W -> Mo W) (σ : PSt) (ph : PH) : eNew c fm σ ph = bnd (noEx (fm [.ref ph.length])) (fun w => wantN w (pur (.ref ph.length))) (ph ++ [.obj c []]) := (rfl)
theorem eNew_ok {c : Str} {fm : List W -> Mo W} {σ : PSt} {ph ph' : PH} (h : fm [.ref ph.length] (ph ++ [.obj c []]) = .ok .non ph') : eNew c fm σ ph = .ok (.ref ph.length) ph' := by
 rw [eNew_ap]
 have : noEx (fm [.ref ph.length]) (ph ++ [.obj c []]) = .ok .non ph' := by unfold noEx; rw [h]
 rw [bnd_ok this]
 rfl
section
variable {ph : PH} {i : Nat} {c f : Str} {fs : List (Str × W)} {w y : W} {kws : List (W × W)}
theorem fld_obj (h : ph[i]? = some (.obj c fs)) (hl : fs.lookup f = some w) : lift (fldW c f (.ref i)) ph = .ok w ph := by
 unfold lift fldW; simp only [h, hl]; rfl
theorem set_obj (h : ph[i]? = some (.obj c fs)) (hz : fs.length < 1000) : lift (setF c f (.ref i) y) ph = .ok () (ph.set i (.obj c (putFW f y fs))) := by
 unfold lift setF; simp only [h]; rw [if_pos ⟨trivial, hz⟩]
theorem chk_dct (h : ph[i]? = some (.dct kws)) : lift (chkT (isDc (.ref i))) ph = .ok () ph := by
 unfold lift chkT isDc; rw [dct_d h]; rfl
theorem get_dct (h : ph[i]? = some (.dct kws)) {k z : W} (hk : okKey kws k = true) : lift (getW (.ref i) [k, z]) ph = .ok ((dgetW kws k).getD z) ph := by
 unfold lift getW; simp only [dct_d h, hk, if_true]
theorem dict_ref {ws : List W} {ps d : List (W × W)} (h : ph[i]? = some (.lst ws)) (h1 : mapO pairW ws = some ps) (h2 : fillW [] ps = some d) : lift (dictW [.ref i]) ph = .ok (.ref ph.length) (ph ++ [.dct d]) := by
 unfold lift dictW; simp only [h, h1, h2]
theorem max1_ref {ns : List Int} (h : ph[i]? = some (.lst (ns.map W.int))) (hn : ns ≠ []) : lift (max1W [.ref i]) ph = .ok (.int (maxL ns)) ph := by
 have e : intsW (.ref i) ph = some ns := by
  unfold intsW
  rw [if_pos (isL_ref h)]
  have : seqW (.ref i) ph = some (ns.map W.int) := by unfold seqW; simp only [h]
  rw [this, Option.bind_some]
  have := mapO_map inW1 W.int (fun x : Int => x) (fun _ => rfl) ns
  simpa using this
 unfold lift max1W; simp only [e, hn, if_false]
end
theorem maxUp_ge (f : Nat -> Int) : ∀ (k i : Nat), i <= k -> f i <= maxUp f k
 | 0, i, h => by
  have : i = 0 := by omega
  subst this
  exact Int.le_refl _
 | k + 1, i, h => by
  have ih := maxUp_ge f k
  unfold maxUp
  by_cases e : i = k + 1
  ·subst e
   split <;> omega
  ·have := ih i (by omega)
   split <;> omega
theorem maxL_ge {ns : List Int} {x : Int} (h : x ∈ ns) : x <= maxL ns := by
 obtain ⟨i, hi, e⟩ := List.mem_iff_getElem.mp h
 have := maxUp_ge (fun i => ns.getD i 0) (ns.length - 1) i (by omega)
 unfold maxL
 have e2 : ns.getD i 0 = x := by simp [hi, e]
 rw [e2] at this
 exact this
theorem compD_map {α : Type} (as : List α) (h : α -> W × W) (f : α -> W) {m : EM} {cap : List (Option Nat)} {g : GM} {e : EM} {σ : PSt} {ph ph0 : PH} {i : Nat} (hm : m σ ph0 = .ok (.ref i) ph) (hd : ph[i]? = some (.dct (as.map h))) (hz : as.length <= sizeLine)
  (S : PSt -> Prop) (h0 : S (capP cap σ)) (step : ∀ x ∈ as, ∀ σ H, S σ -> ∃ σ1, g (.tup [(h x).1, (h x).2]) σ H = .ok σ1 H /\ S σ1 /\ e σ1 H = .ok (f x) H) :
  eCompD m cap g cTrue e σ ph0 = .ok (.ref ph.length) (ph ++ [.lst (as.map f)]) := by
 have hi : i < ph.length := (List.getElem?_eq_some_iff.mp hd).1
 unfold eCompD
 rw [bnd_ok hm]
 simp only [dct_d hd]
 have hl : (ph.set i (.fdc (as.map h))).length = ph.length := List.length_set ..
 have key := compG_run (chk := fun _ => true) (g := g) (c := cTrue) (e := e) ph.length (fun k acc σ H => S σ /\ acc = (as.take k).map f /\ H = ph.set i (.fdc (as.map h)) ++ [.lst acc]) (itemsW (as.map h)) 0 [] (capP cap σ) (ph.set i (.fdc (as.map h)) ++ [.lst []])
  (fun _ _ _ _ _ => rfl)
  (fun j y acc σ H hj hI => by
   rw [Nat.zero_add] at hI ⊢
   obtain ⟨hS, ha, rfl⟩ := hI
   unfold itemsW at hj
   rw [List.map_map, List.getElem?_map] at hj
   cases hx : as[j]? with
   | none => rw [hx] at hj; cases hj
   | some x =>
    rw [hx] at hj
    cases hj
    obtain ⟨hjl, hjx⟩ := List.getElem?_eq_some_iff.mp hx
    obtain ⟨σ1, e1, hS1, e3⟩ := step x (hjx ▸ List.getElem_mem hjl) σ (ph.set i (.fdc (as.map h)) ++ [.lst acc]) hS
    have hacc : acc.length = j := by rw [ha, List.length_map, List.length_take]; omega
    refine ⟨σ1, _, e1, true, _, rfl, .inr ⟨rfl, f x, _, e3, ?_, by omega, hS1, ?_, ?_⟩⟩
    ·rw [<- hl]; exact get_new _ _
    ·rw [ha, List.take_add_one, hx]; simp
    ·rw [<- hl]; simp) ⟨h0, by simp, rfl⟩
 obtain ⟨acc, σ', ph', e1, _, ha, rfl⟩ := key
 have hit : (itemsW (as.map h)).length = as.length := by unfold itemsW; simp
 rw [hit, Nat.zero_add, List.take_length] at ha
 rw [bnd_ok e1]
 unfold fin_D
 have hg : (ph.set i (.fdc (as.map h)) ++ [PO.lst acc])[i]? = some (.fdc (as.map h)) := by
  rw [List.getElem?_append_left (by rw [hl]; exact hi), List.getElem?_set_self hi]
 rw [if_pos hg, List.set_append_left _ _ (by rw [hl]; exact hi), List.set_set, ha]
 have : ph.set i (PO.dct (as.map h)) = ph := by
  apply List.ext_getElem?
  intro j
  by_cases hj : i = j
  ·subst hj; rw [List.getElem?_set_self hi, hd]
  ·rw [List.getElem?_set_ne hj]
 rw [this]
theorem index_lits {ph : PH} {i j : Nat} (x : String) (ss : List String) (h : ph[i]? = some (.lst (ss.map fun s => .str (Str.ofString s)))) (hj : ss.findIdx? (fun s => decide (s = x)) = some j) : lift (indexW (.ref i) [.str (Str.ofString x)]) ph = .ok (.int (j : Int)) ph := by
 have e1 : seqW (.ref i) ph = some (ss.map fun s => W.str (Str.ofString s)) := by unfold seqW; simp only [h]
 have e2 : mapO (dat ph 40) (ss.map fun s => W.str (Str.ofString s)) = some (ss.map fun s => PyData.str (Str.ofString s)) := mapO_map _ _ _ (fun s => by simp only [dat, so, if_true]) ss
 have e3 : dat ph 40 (.str (Str.ofString x)) = some (.str (Str.ofString x)) := by simp only [dat, so, if_true]
 have e4 : ixD ph (.ref i) (.str (Str.ofString x)) = some j := by
  unfold ixD
  rw [if_pos (isL_ref h), e1, e3]
  simp only [e2, Option.bind_some]
  rw [List.findIdx?_map, <- hj]
  congr 1
  funext s
  simp only [Function.comp_def, eqv_s, os_inj]
 unfold lift indexW
 simp only [e4, Option.map_some]
end IL
namespace IL
open PySem L2
theorem l_augA (i j : Int) : lift (augA (.int i) (.int j)) = pur (.int (i + j)) := (rfl)
theorem iR3_ap {m : AM} {σ : PSt} {ph ph' : PH} {i j : Int} (h : m σ ph = .ok [.int i, .int j, .int (-1)] ph') (h1 : -(2 ^ 62) <= i) (h2 : i < 2 ^ 62) (h3 : -(2 ^ 62) <= j) (h4 : j < 2 ^ 62) : iR3 m σ ph = .ok (dwnW i (i - j).toNat, fun _ => true) ph' := by
 unfold iR3
 rw [bnd_ok h]
 have e : rngD [.int i, .int j, .int (-1)] ph' = some ((dwnW i (i - j).toNat, fun _ => true), ph') := by
  show (if _ then _ else _) = _
  rw [if_pos ⟨⟨h1, h2, h3, h4⟩, rfl⟩]
 unfold lift
 rw [e]
theorem dwnW_get {lo : Int} {n k : Nat} {w : W} (h : (dwnW lo n)[k]? = some w) : k < n /\ w = .int (lo - (k : Int)) := by
 unfold dwnW at h
 rw [List.getElem?_map] at h
 by_cases hk : k < n
 ·rw [List.getElem?_range hk] at h
  cases h
  exact ⟨hk, rfl⟩
 ·rw [List.getElem?_eq_none (by simpa using hk)] at h; cases h
theorem dwnW_len (lo : Int) (n : Nat) : (dwnW lo n).length = n := by unfold dwnW; simp
section
variable {ph : PH} {i j : Nat} {ka kb : List (W × W)} {b : Bool}
theorem eqD_dct (h : ph[i]? = some (.dct ka)) (y : W) : eqD ph (.ref i) y = none := by
 unfold eqD
 have : dat ph 40 (.ref i) = none := by unfold dat; simp only [h]
 rw [this]
theorem eqV_D {x y : W} (h : eqD ph x y = some b) : lift (eqV x y) ph = .ok (.bl b) ph := by
 unfold lift eqV eqG; simp only [h, Option.map_some]
theorem neV_dct (h : ph[i]? = some (.dct ka)) (h' : ph[j]? = some (.dct kb)) (e : eqDct ph ka kb = some b) : lift (neV (.ref i) (.ref j)) ph = .ok (.bl (!b)) ph := by
 unfold lift neV eqG0; simp only [eqD_dct h, dct_d h, dct_d h', e, Option.map_some]
theorem dictV_dct (h : ph[i]? = some (.dct ka)) (hk : ka.all (fun q => !isT q.1) = true) : lift (dictV [.ref i]) ph = .ok (.ref ph.length) (ph ++ [.dct ka]) := by
 unfold lift dictV; simp only [dct_d h, hk, if_true]
end
end IL
namespace IL.K24
open PySem PySem.Spec PyProof.Rows L2
def top (i : Nat) : Stmt := PySem.Challenge.pw_boxwright_k24_whole_order_alike.main.body.getD i (.Pass ⟨0, 0, 0, 0⟩)
abbrev s_law_cell_at : Stmt := top 16
abbrev s_law_number_by : Stmt := top 17
abbrev s_law_row_by : Stmt := top 18
abbrev s_law_fit : Stmt := top 19
abbrev s_law_deed : Stmt := top 20
abbrev s_law_box_row : Stmt := top 21
abbrev s_law_run : Stmt := top 22
abbrev s_Timing_init : Stmt := inClass (top 4) 0
abbrev s_things_read : Stmt := top 1
abbrev s_things_written : Stmt := top 2
abbrev s_wait_of : Stmt := top 3
abbrev s_timing_behind : Stmt := top 5
abbrev s_timings_of : Stmt := top 10
abbrev s_mosts_from : Stmt := top 11
abbrev s_beats_from : Stmt := top 12
abbrev s_is_outward : Stmt := top 7
abbrev s_share : Stmt := top 8
abbrev s_are_bound : Stmt := top 9
abbrev s_improved : Stmt := top 13
abbrev s_ordered : Stmt := top 14
abbrev s_law : Stmt := top 23
noncomputable def b_law_cell_at : SM := (sSeq (sIf (eT (eOp ltW (eVar 1) (eCallB lenW (aCons (eVar 0) aNil)))) (sRet (eOp ixV (eVar 0) (eVar 1))) sNext) (sRet (eC (.int (0)))))
noncomputable def f_law_cell_at : List W -> Mo W := fM b_law_cell_at 2 2
noncomputable def b_law_number_by : SM := (sSeq (sIf (eT (eOp eqW (eOp modW (eVar 0) (eC (.int (4)))) (eC (.int (3))))) (sRet (eOp ixV (eLst (aCons (eC (.int (2147483647))) (aCons (eUn negW (eC (.int (2147483648)))) (aCons (eC (.int (65536))) (aCons (eUn negW (eC (.int (1)))) (aCons (eC (.int (46341))) (aCons (eUn negW (eC (.int (65537)))) (aCons (eC (.int (1))) (aCons (eC (.int (0))) aNil))))))))) (eOp modW (eOp divW (eVar 0) (eC (.int (4)))) (eC (.int (8)))))) sNext) (sSeq (sIf (eT (eOp eqW (eOp modW (eVar 0) (eC (.int (4)))) (eC (.int (2))))) (sRet (eOp subW (eOp modW (eOp mulV (eOp divW (eVar 0) (eC (.int (4)))) (eC (.int (48271)))) (eC (.int (4294967296)))) (eC (.int (2147483648))))) sNext) (sSeq (sIf (eT (eOp eqW (eOp modW (eVar 0) (eC (.int (4)))) (eC (.int (1))))) (sRet (eOp subW (eOp modW (eOp divW (eVar 0) (eC (.int (4)))) (eC (.int (100003)))) (eC (.int (1000))))) sNext) (sRet (eOp subW (eOp modW (eOp divW (eVar 0) (eC (.int (4)))) (eC (.int (19)))) (eC (.int (6))))))))
noncomputable def f_law_number_by : List W -> Mo W := fM b_law_number_by 1 1
noncomputable def b_law_row_by : SM := (sSeq (sAsg (eOp modW (eVar 0) (eC (.int (12)))) (gN 3)) (sSeq (sAsg (eOp modW (eOp mulV (eOp divW (eVar 0) (eC (.int (12)))) (eC (.int (48271)))) (eC (.int (2147483647)))) (gN 4)) (sSeq (sAsg (eOp modW (eVar 4) (eVar 1)) (gN 5)) (sSeq (sAsg (eOp modW (eOp divW (eVar 4) (eC (.int (9)))) (eVar 1)) (gN 6)) (sSeq (sAsg (eOp modW (eOp divW (eVar 4) (eC (.int (81)))) (eVar 2)) (gN 7)) (sSeq (sIf (eT (eOp ltW (eVar 3) (eC (.int (5))))) (sSeq (sAsg (eOp ixV (eLst (aCons (eC (.str "sum")) (aCons (eC (.str "less")) (aCons (eC (.str "times")) (aCons (eC (.str "part")) (aCons (eC (.str "below")) (aCons (eC (.str "alike")) aNil))))))) (eOp modW (eOp divW (eVar 4) (eC (.int (486)))) (eC (.int (6))))) (gN 8)) (sRet (eTup (aCons (eC (.str "do")) (aCons (eVar 5) (aCons (eVar 8) (aCons (eVar 6) (aCons (eOp modW (eOp divW (eVar 4) (eC (.int (2916)))) (eVar 1)) aNil)))))))) sNext) (sSeq (sAsg (eLst (aCons (eTup (aCons (eC (.str "put")) (aCons (eVar 5) (aCons (eCall f_law_number_by (aCons (eOp divW (eVar 4) (eC (.int (9)))) aNil)) aNil)))) (aCons (eTup (aCons (eC (.str "move")) (aCons (eVar 5) (aCons (eVar 6) aNil)))) (aCons (eTup (aCons (eC (.str "pull")) (aCons (eVar 5) (aCons (eVar 7) aNil)))) (aCons (eTup (aCons (eC (.str "push")) (aCons (eVar 7) (aCons (eVar 5) aNil)))) aNil))))) (gN 9)) (sSeq (sAsg (eOp addW (eVar 9) (eLst (aCons (eTup (aCons (eC (.str "take")) (aCons (eVar 5) aNil))) (aCons (eTup (aCons (eC (.str "tell")) (aCons (eVar 5) aNil))) (aCons (eTup (aCons (eC (.str "turn")) aNil)) aNil))))) (gN 9)) (sRet (eOp ixV (eVar 9) (eOp subW (eVar 3) (eC (.int (5))))))))))))))
noncomputable def f_law_row_by : List W -> Mo W := fM b_law_row_by 10 3
noncomputable def b_law_fit : SM := (sRet (eOp subW (eVar 0) (eOp mulV (eOp divW (eOp addW (eVar 0) (eC (.int (2147483648)))) (eC (.int (4294967296)))) (eC (.int (4294967296))))))
noncomputable def f_law_fit : List W -> Mo W := fM b_law_fit 1 1
noncomputable def b_law_deed : SM := (sSeq (sIf (tOrM (eT (eOp eqW (eVar 0) (eC (.str "below")))) (eT (eOp eqW (eVar 0) (eC (.str "alike"))))) (sRet (eCallB intW (aCons (eOr (eAnd (eOp ltW (eVar 1) (eVar 2)) (eOp eqW (eVar 0) (eC (.str "below")))) (eAnd (eOp eqW (eVar 1) (eVar 2)) (eOp eqW (eVar 0) (eC (.str "alike"))))) aNil))) sNext) (sSeq (sIf (eT (eOp eqW (eVar 0) (eC (.str "part")))) (sRet (eCall f_law_fit (aCons (eOp divW (eVar 1) (eVar 2)) aNil))) sNext) (sRet (eCall f_law_fit (aCons (eOp ixV (eLst (aCons (eOp addW (eVar 1) (eVar 2)) (aCons (eOp subW (eVar 1) (eVar 2)) (aCons (eOp mulV (eVar 1) (eVar 2)) aNil)))) (eMeth isL indexW (eLst (aCons (eC (.str "sum")) (aCons (eC (.str "less")) (aCons (eC (.str "times")) aNil)))) (aCons (eVar 0) aNil))) aNil)))))
noncomputable def f_law_deed : List W -> Mo W := fM b_law_deed 3 3
noncomputable def b_law_box_row : SM := (sIf (eT (eOp eqW (eOp ixV (eVar 0) (eC (.int (0)))) (eC (.str "put")))) (sAsg (eOp ixV (eVar 0) (eC (.int (2)))) (gSubV (eVar 1) (eOp ixV (eVar 0) (eC (.int (1)))))) (sIf (eT (eOp eqW (eOp ixV (eVar 0) (eC (.int (0)))) (eC (.str "move")))) (sAsg (eMeth isDc getW (eVar 1) (aCons (eOp ixV (eVar 0) (eC (.int (2)))) (aCons (eC (.int (0))) aNil))) (gSubV (eVar 1) (eOp ixV (eVar 0) (eC (.int (1)))))) (sIf (eT (eOp eqW (eOp ixV (eVar 0) (eC (.int (0)))) (eC (.str "pull")))) (sAsg (eMeth isDc getW (eVar 2) (aCons (eOp ixV (eVar 0) (eC (.int (2)))) (aCons (eC (.int (0))) aNil))) (gSubV (eVar 1) (eOp ixV (eVar 0) (eC (.int (1)))))) (sIf (eT (eOp eqW (eOp ixV (eVar 0) (eC (.int (0)))) (eC (.str "push")))) (sAsg (eMeth isDc getW (eVar 1) (aCons (eOp ixV (eVar 0) (eC (.int (2)))) (aCons (eC (.int (0))) aNil))) (gSubV (eVar 2) (eOp ixV (eVar 0) (eC (.int (1)))))) (sAsg (eCall f_law_deed (aCons (eOp ixV (eVar 0) (eC (.int (2)))) (aCons (eMeth isDc getW (eVar 1) (aCons (eOp ixV (eVar 0) (eC (.int (3)))) (aCons (eC (.int (0))) aNil))) (aCons (eMeth isDc getW (eVar 1) (aCons (eOp ixV (eVar 0) (eC (.int (4)))) (aCons (eC (.int (0))) aNil))) aNil)))) (gSubV (eVar 1) (eOp ixV (eVar 0) (eC (.int (1))))))))))
noncomputable def f_law_box_row : List W -> Mo W := fM b_law_box_row 3 3
noncomputable def b_law_run : SM := (sSeq (sAsg (eLst aNil) (gN 5)) (sSeq (sAsg (eC (.int (0))) (gN 6)) (sSeq (sFor (iBoth (eVar 0)) (gN 7) (sSeq (sIf (tAndM (eT (eOp eqW (eOp ixV (eVar 7) (eC (.int (0)))) (eC (.str "turn")))) (eT (eOp eqW (eVar 4) (eC (.int (0)))))) (sRet (eTup (aCons (eC (.str "dry")) (aCons (eVar 5) (aCons (eVar 6) aNil))))) sNext) (sSeq (sIf (tAndM (eT (eOp eqW (eOp ixV (eVar 7) (eC (.int (0)))) (eC (.str "do")))) (tAndM (eT (eOp eqW (eOp ixV (eVar 7) (eC (.int (2)))) (eC (.str "part")))) (eT (eOp eqW (eMeth isDc getW (eVar 1) (aCons (eOp ixV (eVar 7) (eC (.int (4)))) (aCons (eC (.int (0))) aNil))) (eC (.int (0))))))) (sRet (eTup (aCons (eC (.str "nought")) (aCons (eVar 5) (aCons (eVar 6) aNil))))) sNext) (sIf (eT (eOp eqW (eOp ixV (eVar 7) (eC (.int (0)))) (eC (.str "turn")))) (sAsg (eOp subW (eVar 4) (eC (.int (1)))) (gN 4)) (sIf (eT (eOp eqW (eOp ixV (eVar 7) (eC (.int (0)))) (eC (.str "take")))) (sSeq (sAsg (eOp ixV (eOp addW (eVar 3) (eOp mulV (eLst (aCons (eC (.int (0))) aNil)) (eOp addW (eVar 6) (eC (.int (1)))))) (eVar 6)) (gSubV (eVar 1) (eOp ixV (eVar 7) (eC (.int (1)))))) (sAsg (eOp addW (eVar 6) (eC (.int (1)))) (gN 6))) (sIf (eT (eOp eqW (eOp ixV (eVar 7) (eC (.int (0)))) (eC (.str "tell")))) (sExpr (eMeth isL appendW (eVar 5) (aCons (eMeth isDc getW (eVar 1) (aCons (eOp ixV (eVar 7) (eC (.int (1)))) (aCons (eC (.int (0))) aNil))) aNil))) (sExpr (eCall f_law_box_row (aCons (eVar 7) (aCons (eVar 1) (aCons (eVar 2) aNil))))))))))) (sRet (eTup (aCons (eC (.str "done")) (aCons (eVar 5) (aCons (eVar 6) (aCons (eVar 1) (aCons (eVar 2) aNil))))))))))
noncomputable def f_law_run : List W -> Mo W := fM b_law_run 8 5
noncomputable def b_Timing_init : SM := (sSeq (sFldW "Timing" "next_beat" (eVar 0) (eC (.int (0)))) (sSeq (sFldW "Timing" "waits" (eVar 0) eDct) (sFldW "Timing" "most" (eVar 0) (eC (.int (0))))))
noncomputable def f_Timing_init : List W -> Mo W := fM b_Timing_init 1 1
noncomputable def b_things_read : SM := (sSeq (sIf (eT (eOp eqW (eOp ixV (eVar 0) (eC (.int (0)))) (eC (.str "do")))) (sRet (eLst (aCons (eTup (aCons (eC (.str "box")) (aCons (eOp ixV (eVar 0) (eC (.int (3)))) aNil))) (aCons (eTup (aCons (eC (.str "box")) (aCons (eOp ixV (eVar 0) (eC (.int (4)))) aNil))) aNil)))) sNext) (sSeq (sIf (eT (eOp eqW (eOp ixV (eVar 0) (eC (.int (0)))) (eC (.str "tell")))) (sRet (eLst (aCons (eTup (aCons (eC (.str "box")) (aCons (eOp ixV (eVar 0) (eC (.int (1)))) aNil))) aNil))) sNext) (sSeq (sIf (eT (eOp inV (eOp ixV (eVar 0) (eC (.int (0)))) (eTup (aCons (eC (.str "move")) (aCons (eC (.str "push")) aNil))))) (sRet (eLst (aCons (eTup (aCons (eC (.str "box")) (aCons (eOp ixV (eVar 0) (eC (.int (2)))) aNil))) aNil))) sNext) (sSeq (sIf (eT (eOp eqW (eOp ixV (eVar 0) (eC (.int (0)))) (eC (.str "pull")))) (sRet (eLst (aCons (eTup (aCons (eC (.str "slot")) (aCons (eOp ixV (eVar 0) (eC (.int (2)))) aNil))) aNil))) sNext) (sRet (eLst aNil))))))
noncomputable def f_things_read : List W -> Mo W := fM b_things_read 1 1
noncomputable def b_things_written : SM := (sSeq (sIf (eT (eOp inV (eOp ixV (eVar 0) (eC (.int (0)))) (eTup (aCons (eC (.str "tell")) (aCons (eC (.str "turn")) aNil))))) (sRet (eLst aNil)) sNext) (sSeq (sIf (eT (eOp eqW (eOp ixV (eVar 0) (eC (.int (0)))) (eC (.str "push")))) (sRet (eLst (aCons (eTup (aCons (eC (.str "slot")) (aCons (eOp ixV (eVar 0) (eC (.int (1)))) aNil))) aNil))) sNext) (sRet (eLst (aCons (eTup (aCons (eC (.str "box")) (aCons (eOp ixV (eVar 0) (eC (.int (1)))) aNil))) aNil)))))
noncomputable def f_things_written : List W -> Mo W := fM b_things_written 1 1
noncomputable def b_wait_of : SM := (sSeq (sIf (eT (eOp eqW (eOp ixV (eVar 0) (eC (.int (0)))) (eC (.str "take")))) (sRet (eC (.int (2)))) sNext) (sSeq (sIf (eT (eOp eqW (eOp ixV (eVar 0) (eC (.int (0)))) (eC (.str "pull")))) (sRet (eC (.int (3)))) sNext) (sSeq (sIf (tAndM (eT (eOp eqW (eOp ixV (eVar 0) (eC (.int (0)))) (eC (.str "do")))) (eT (eOp eqW (eOp ixV (eVar 0) (eC (.int (2)))) (eC (.str "times"))))) (sRet (eC (.int (3)))) sNext) (sSeq (sIf (tAndM (eT (eOp eqW (eOp ixV (eVar 0) (eC (.int (0)))) (eC (.str "do")))) (eT (eOp eqW (eOp ixV (eVar 0) (eC (.int (2)))) (eC (.str "part"))))) (sRet (eC (.int (5)))) sNext) (sRet (eC (.int (1))))))))
noncomputable def f_wait_of : List W -> Mo W := fM b_wait_of 1 1
noncomputable def b_timing_behind : SM := (sSeq (sAsg (eCallB max1W (aCons (eOp addW (eComp (iBoth (eOp addW (eCall f_things_read (aCons (eVar 1) aNil)) (eCall f_things_written (aCons (eVar 1) aNil)))) [none, some 0] (gN 0) cTrue (eMeth isDc getW (eFld "Timing" "waits" (eVar 1)) (aCons (eVar 0) (aCons (eC (.int (0))) aNil)))) (eLst (aCons (eC (.int (0))) aNil))) aNil)) (gN 2)) (sSeq (sAsg (eNew "Timing" f_Timing_init) (gN 3)) (sSeq (sFldW "Timing" "next_beat" (eVar 3) (eOp addW (eOp addW (eFld "Timing" "next_beat" (eVar 0)) (eVar 2)) (eC (.int (1))))) (sSeq (sFldW "Timing" "most" (eVar 3) (eCallB max2W (aCons (eFld "Timing" "most" (eVar 0)) (aCons (eOp addW (eOp addW (eFld "Timing" "next_beat" (eVar 0)) (eVar 2)) (eCall f_wait_of (aCons (eVar 1) aNil))) aNil)))) (sSeq (sAsg (eCompD (eFld "Timing" "waits" (eVar 0)) [none, none, some 2] (gLen 2 [(gN 0), (gN 1)]) cTrue (eTup (aCons (eVar 0) (aCons (eOp subW (eOp subW (eVar 1) (eVar 2)) (eC (.int (1)))) aNil)))) (gN 4)) (sSeq (sExpr (eMeth isL extendW (eVar 4) (aCons (eComp (iBoth (eCall f_things_written (aCons (eVar 1) aNil))) [none, some 1] (gN 0) cTrue (eTup (aCons (eVar 0) (aCons (eOp subW (eCall f_wait_of (aCons (eVar 1) aNil)) (eC (.int (1)))) aNil)))) aNil))) (sSeq (sFldW "Timing" "waits" (eVar 3) (eCallB dictW (aCons (eComp (iBoth (eVar 4)) [none, none] (gLen 2 [(gN 0), (gN 1)]) (eT (eOp gtW (eVar 1) (eC (.int (0))))) (eTup (aCons (eVar 0) (aCons (eVar 1) aNil)))) aNil))) (sRet (eVar 3)))))))))
noncomputable def f_timing_behind : List W -> Mo W := fM b_timing_behind 5 2
noncomputable def b_timings_of : SM := (sSeq (sAsg (eLst (aCons (eNew "Timing" f_Timing_init) aNil)) (gN 1)) (sSeq (sFor (iBoth (eVar 0)) (gN 2) (sExpr (eMeth isL appendW (eVar 1) (aCons (eCall f_timing_behind (aCons (eOp ixV (eVar 1) (eUn negW (eC (.int (1))))) (aCons (eVar 2) aNil))) aNil)))) (sRet (eVar 1))))
noncomputable def f_timings_of : List W -> Mo W := fM b_timings_of 3 1
noncomputable def b_mosts_from : SM := (sSeq (sAsg (eComp (iBoth (eVar 1)) [none] (gN 0) cTrue (eC (.int (0)))) (gN 2)) (sSeq (sFor (iR3 (aCons (eOp subW (eCallB lenW (aCons (eVar 0) aNil)) (eC (.int (1)))) (aCons (eUn negW (eC (.int (1)))) (aCons (eUn negW (eC (.int (1)))) aNil)))) (gN 3) (sSeq (sAsg (eOp subW (eFld "Timing" "next_beat" (eOp ixV (eVar 1) (eOp addW (eVar 3) (eC (.int (1)))))) (eC (.int (1)))) (gN 4)) (sAsg (eCallB max2W (aCons (eOp ixV (eVar 2) (eOp addW (eVar 3) (eC (.int (1))))) (aCons (eOp addW (eVar 4) (eCall f_wait_of (aCons (eOp ixV (eVar 0) (eVar 3)) aNil))) aNil))) (gSubV (eVar 2) (eVar 3))))) (sRet (eVar 2))))
noncomputable def f_mosts_from : List W -> Mo W := fM b_mosts_from 5 2
noncomputable def b_beats_from : SM := (sSeq (sWhile (tAndM (eT (eOp ltW (eVar 4) (eCallB lenW (aCons (eVar 0) aNil)))) (eT (eOp neV (eFld "Timing" "waits" (eVar 3)) (eFld "Timing" "waits" (eOp ixV (eVar 1) (eVar 4)))))) (sSeq (sAsg (eCall f_timing_behind (aCons (eVar 3) (aCons (eOp ixV (eVar 0) (eVar 4)) aNil))) (gN 3)) (sAsg (eOp augA (eVar 4) (eC (.int (1)))) (gN 4)))) (sSeq (sIf (eT (eOp eqW (eVar 4) (eCallB lenW (aCons (eVar 0) aNil)))) (sRet (eFld "Timing" "most" (eVar 3))) sNext) (sRet (eCallB max2W (aCons (eFld "Timing" "most" (eVar 3)) (aCons (eOp subW (eOp addW (eOp ixV (eVar 2) (eVar 4)) (eFld "Timing" "next_beat" (eVar 3))) (eFld "Timing" "next_beat" (eOp ixV (eVar 1) (eVar 4)))) aNil))))))
noncomputable def f_beats_from : List W -> Mo W := fM b_beats_from 5 5
noncomputable def b_is_outward : SM := (sRet (eOr (eOp inV (eOp ixV (eVar 0) (eC (.int (0)))) (eTup (aCons (eC (.str "take")) (aCons (eC (.str "tell")) (aCons (eC (.str "turn")) aNil))))) (eAnd (eOp eqW (eOp ixV (eVar 0) (eC (.int (0)))) (eC (.str "do"))) (eOp eqW (eOp ixV (eVar 0) (eC (.int (2)))) (eC (.str "part"))))))
noncomputable def f_is_outward : List W -> Mo W := fM b_is_outward 1 1
noncomputable def b_share : SM := (sRet (eCallB anyW (aCons (eComp (iBoth (eVar 0)) [none, some 1] (gN 0) cTrue (eOp inV (eVar 0) (eVar 1))) aNil)))
noncomputable def f_share : List W -> Mo W := fM b_share 2 2
noncomputable def b_are_bound : SM := (sSeq (sIf (tAndM (eTru (eCall f_is_outward (aCons (eVar 0) aNil))) (eTru (eCall f_is_outward (aCons (eVar 1) aNil)))) (sRet (eC (.bl true))) sNext) (sSeq (sIf (eTru (eCall f_share (aCons (eCall f_things_written (aCons (eVar 0) aNil)) (aCons (eOp addW (eCall f_things_read (aCons (eVar 1) aNil)) (eCall f_things_written (aCons (eVar 1) aNil))) aNil)))) (sRet (eC (.bl true))) sNext) (sRet (eCall f_share (aCons (eCall f_things_written (aCons (eVar 1) aNil)) (aCons (eCall f_things_read (aCons (eVar 0) aNil)) aNil))))))
noncomputable def f_are_bound : List W -> Mo W := fM b_are_bound 2 2
noncomputable def b_improved : SM := (sSeq (sAsg (eCall f_timings_of (aCons (eVar 0) aNil)) (gN 1)) (sSeq (sAsg (eCall f_mosts_from (aCons (eVar 0) (aCons (eVar 1) aNil))) (gN 2)) (sSeq (sAsg (eCallB listW (aCons (eVar 0) aNil)) (gN 3)) (sSeq (sAsg (eFld "Timing" "most" (eOp ixV (eVar 1) (eUn negW (eC (.int (1)))))) (gN 4)) (sSeq (sAsg (eNew "Timing" f_Timing_init) (gN 5)) (sSeq (sFor (iR1 (aCons (eOp subW (eCallB lenW (aCons (eVar 0) aNil)) (eC (.int (1)))) aNil)) (gN 6) (sSeq (sAsg (eOp ixV (eVar 3) (eVar 6)) (gN 7)) (sSeq (sAsg (eOp ixV (eVar 3) (eOp addW (eVar 6) (eC (.int (1))))) (gN 8)) (sSeq (sAsg (eCall f_timing_behind (aCons (eCall f_timing_behind (aCons (eVar 5) (aCons (eVar 8) aNil))) (aCons (eVar 7) aNil))) (gN 9)) (sSeq (sAsg (eCall f_beats_from (aCons (eVar 0) (aCons (eVar 1) (aCons (eVar 2) (aCons (eVar 9) (aCons (eOp addW (eVar 6) (eC (.int (2)))) aNil)))))) (gN 10)) (sSeq (sIf (tAndM (eT (eOp ltW (eVar 10) (eVar 4))) (tNotM (eTru (eCall f_are_bound (aCons (eVar 7) (aCons (eVar 8) aNil)))))) (sSeq (sAsg (eVar 8) (gSubV (eVar 3) (eVar 6))) (sSeq (sAsg (eVar 7) (gSubV (eVar 3) (eOp addW (eVar 6) (eC (.int (1)))))) (sAsg (eVar 10) (gN 4)))) sNext) (sAsg (eCall f_timing_behind (aCons (eVar 5) (aCons (eOp ixV (eVar 3) (eVar 6)) aNil))) (gN 5)))))))) (sRet (eVar 3))))))))
noncomputable def f_improved : List W -> Mo W := fM b_improved 11 1
noncomputable def b_ordered : SM := (sSeq (sAsg (eCallB listW (aCons (eVar 0) aNil)) (gN 1)) (sSeq (sAsg (eCall f_improved (aCons (eVar 1) aNil)) (gN 2)) (sSeq (sWhile (eT (eOp neW (eVar 2) (eVar 1))) (sSeq (sAsg (eVar 2) (gN 1)) (sAsg (eCall f_improved (aCons (eVar 1) aNil)) (gN 2)))) (sRet (eVar 1)))))
noncomputable def f_ordered : List W -> Mo W := fM b_ordered 3 1
noncomputable def b_law : SM := (sSeq (sAsg (eOp modW (eCall f_law_cell_at (aCons (eVar 0) (aCons (eC (.int (0))) aNil))) (eC (.int (13)))) (gN 1)) (sSeq (sIf (eT (eOp eqW (eOp modW (eOp divW (eCall f_law_cell_at (aCons (eVar 0) (aCons (eC (.int (0))) aNil))) (eC (.int (13)))) (eC (.int (9)))) (eC (.int (1))))) (sAsg (eOp addW (eC (.int (13))) (eOp modW (eOp divW (eCall f_law_cell_at (aCons (eVar 0) (aCons (eC (.int (0))) aNil))) (eC (.int (117)))) (eC (.int (12))))) (gN 1)) sNext) (sSeq (sAsg (eOp addW (eC (.int (2))) (eOp modW (eCall f_law_cell_at (aCons (eVar 0) (aCons (eC (.int (1))) aNil))) (eC (.int (8))))) (gN 2)) (sSeq (sAsg (eOp addW (eC (.int (1))) (eOp modW (eOp divW (eCall f_law_cell_at (aCons (eVar 0) (aCons (eC (.int (1))) aNil))) (eC (.int (8)))) (eC (.int (12))))) (gN 3)) (sSeq (sIf (eT (eOp eqW (eOp modW (eOp divW (eCall f_law_cell_at (aCons (eVar 0) (aCons (eC (.int (1))) aNil))) (eC (.int (96)))) (eC (.int (3)))) (eC (.int (1))))) (sSeq (sAsg (eC (.int (2))) (gN 2)) (sAsg (eC (.int (1))) (gN 3))) sNext) (sSeq (sAsg (eComp (iR1 (aCons (eVar 1) aNil)) [none, some 2, some 3, some 0] (gN 0) cTrue (eCall f_law_row_by (aCons (eOp addW (eCall f_law_cell_at (aCons (eVar 3) (aCons (eOp addW (eC (.int (2))) (eVar 0)) aNil))) (eOp mulV (eC (.int (7))) (eOp divW (eVar 0) (eC (.int (13)))))) (aCons (eVar 1) (aCons (eVar 2) aNil))))) (gN 4)) (sSeq (sAsg (eComp (iR1 (aCons (eOp modW (eCall f_law_cell_at (aCons (eVar 0) (aCons (eC (.int (14))) aNil))) (eC (.int (6)))) aNil)) [none, some 0] (gN 0) cTrue (eCall f_law_number_by (aCons (eCall f_law_cell_at (aCons (eVar 1) (aCons (eOp addW (eC (.int (15))) (eVar 0)) aNil))) aNil))) (gN 5)) (sSeq (sAsg (eOp modW (eOp divW (eCall f_law_cell_at (aCons (eVar 0) (aCons (eC (.int (14))) aNil))) (eC (.int (6)))) (eC (.int (4)))) (gN 6)) (sSeq (sAsg eDct (gN 7)) (sSeq (sAsg eDct (gN 8)) (sSeq (sFor (iR1 (aCons (eVar 2) aNil)) (gN 9) (sAsg (eCall f_law_number_by (aCons (eCall f_law_cell_at (aCons (eVar 0) (aCons (eOp addW (eC (.int (20))) (eVar 9)) aNil))) aNil)) (gSubV (eVar 7) (eVar 9)))) (sSeq (sFor (iR1 (aCons (eVar 3) aNil)) (gN 9) (sAsg (eCall f_law_number_by (aCons (eCall f_law_cell_at (aCons (eVar 0) (aCons (eOp addW (eC (.int (29))) (eVar 9)) aNil))) aNil)) (gSubV (eVar 8) (eVar 9)))) (sSeq (sAsg (eCall f_law_run (aCons (eVar 4) (aCons (eCallB dictV (aCons (eVar 7) aNil)) (aCons (eCallB dictV (aCons (eVar 8) aNil)) (aCons (eVar 5) (aCons (eVar 6) aNil)))))) (gN 10)) (sRet (eOp eqV (eCall f_law_run (aCons (eCall f_ordered (aCons (eCallB listW (aCons (eVar 4) aNil)) aNil)) (aCons (eCallB dictV (aCons (eVar 7) aNil)) (aCons (eCallB dictV (aCons (eVar 8) aNil)) (aCons (eVar 5) (aCons (eVar 6) aNil)))))) (eVar 10))))))))))))))))
noncomputable def f_law : List W -> Mo W := fM b_law 11 1
set_option genInjectivity false in
structure Tx (K : PySem.W.Frag) (mg : Str -> Option Value) where
 a_law_cell_at : Addr
 d_law_cell_at : FuncData
 F_law_cell_at : Fun K "_law_cell_at" "_law_cell_at" s_law_cell_at a_law_cell_at d_law_cell_at
 m_law_cell_at : mg "_law_cell_at" = some (.ref a_law_cell_at)
 b_law_cell_at : Binds K d_law_cell_at ["_law_script", "_law_k"] []
 a_law_number_by : Addr
 d_law_number_by : FuncData
 F_law_number_by : Fun K "_law_number_by" "_law_number_by" s_law_number_by a_law_number_by d_law_number_by
 m_law_number_by : mg "_law_number_by" = some (.ref a_law_number_by)
 b_law_number_by : Binds K d_law_number_by ["_law_cell"] []
 a_law_row_by : Addr
 d_law_row_by : FuncData
 F_law_row_by : Fun K "_law_row_by" "_law_row_by" s_law_row_by a_law_row_by d_law_row_by
 m_law_row_by : mg "_law_row_by" = some (.ref a_law_row_by)
 b_law_row_by : Binds K d_law_row_by ["_law_cell", "_law_boxes", "_law_slots"] []
 a_law_fit : Addr
 d_law_fit : FuncData
 F_law_fit : Fun K "_law_fit" "_law_fit" s_law_fit a_law_fit d_law_fit
 m_law_fit : mg "_law_fit" = some (.ref a_law_fit)
 b_law_fit : Binds K d_law_fit ["_law_number"] []
 a_law_deed : Addr
 d_law_deed : FuncData
 F_law_deed : Fun K "_law_deed" "_law_deed" s_law_deed a_law_deed d_law_deed
 m_law_deed : mg "_law_deed" = some (.ref a_law_deed)
 b_law_deed : Binds K d_law_deed ["_law_word", "_law_one", "_law_other"] []
 a_law_box_row : Addr
 d_law_box_row : FuncData
 F_law_box_row : Fun K "_law_box_row" "_law_box_row" s_law_box_row a_law_box_row d_law_box_row
 m_law_box_row : mg "_law_box_row" = some (.ref a_law_box_row)
 b_law_box_row : Binds K d_law_box_row ["_law_row", "_law_boxes", "_law_slots"] []
 a_law_run : Addr
 d_law_run : FuncData
 F_law_run : Fun K "_law_run" "_law_run" s_law_run a_law_run d_law_run
 m_law_run : mg "_law_run" = some (.ref a_law_run)
 b_law_run : Binds K d_law_run ["_law_rows", "_law_boxes", "_law_slots", "_law_inputs", "_law_turns"] []
 a_Timing_init : Addr
 d_Timing_init : FuncData
 F_Timing_init : Fun K "__init__" "Timing.__init__" s_Timing_init a_Timing_init d_Timing_init
 b_Timing_init : Binds K d_Timing_init ["self"] []
 a_things_read : Addr
 d_things_read : FuncData
 F_things_read : Fun K "things_read" "things_read" s_things_read a_things_read d_things_read
 m_things_read : mg "things_read" = some (.ref a_things_read)
 b_things_read : Binds K d_things_read ["row"] []
 a_things_written : Addr
 d_things_written : FuncData
 F_things_written : Fun K "things_written" "things_written" s_things_written a_things_written d_things_written
 m_things_written : mg "things_written" = some (.ref a_things_written)
 b_things_written : Binds K d_things_written ["row"] []
 a_wait_of : Addr
 d_wait_of : FuncData
 F_wait_of : Fun K "wait_of" "wait_of" s_wait_of a_wait_of d_wait_of
 m_wait_of : mg "wait_of" = some (.ref a_wait_of)
 b_wait_of : Binds K d_wait_of ["row"] []
 a_timing_behind : Addr
 d_timing_behind : FuncData
 F_timing_behind : Fun K "timing_behind" "timing_behind" s_timing_behind a_timing_behind d_timing_behind
 m_timing_behind : mg "timing_behind" = some (.ref a_timing_behind)
 b_timing_behind : Binds K d_timing_behind ["timing", "row"] []
 a_timings_of : Addr
 d_timings_of : FuncData
 F_timings_of : Fun K "timings_of" "timings_of" s_timings_of a_timings_of d_timings_of
 m_timings_of : mg "timings_of" = some (.ref a_timings_of)
 b_timings_of : Binds K d_timings_of ["rows"] []
 a_mosts_from : Addr
 d_mosts_from : FuncData
 F_mosts_from : Fun K "mosts_from" "mosts_from" s_mosts_from a_mosts_from d_mosts_from
 m_mosts_from : mg "mosts_from" = some (.ref a_mosts_from)
 b_mosts_from : Binds K d_mosts_from ["rows", "timings"] []
 a_beats_from : Addr
 d_beats_from : FuncData
 F_beats_from : Fun K "beats_from" "beats_from" s_beats_from a_beats_from d_beats_from
 m_beats_from : mg "beats_from" = some (.ref a_beats_from)
 b_beats_from : Binds K d_beats_from ["rows", "timings", "mosts", "timing", "place"] []
 a_is_outward : Addr
 d_is_outward : FuncData
 F_is_outward : Fun K "is_outward" "is_outward" s_is_outward a_is_outward d_is_outward
 m_is_outward : mg "is_outward" = some (.ref a_is_outward)
 b_is_outward : Binds K d_is_outward ["row"] []
 a_share : Addr
 d_share : FuncData
 F_share : Fun K "share" "share" s_share a_share d_share
 m_share : mg "share" = some (.ref a_share)
 b_share : Binds K d_share ["some", "others"] []
 a_are_bound : Addr
 d_are_bound : FuncData
 F_are_bound : Fun K "are_bound" "are_bound" s_are_bound a_are_bound d_are_bound
 m_are_bound : mg "are_bound" = some (.ref a_are_bound)
 b_are_bound : Binds K d_are_bound ["one", "other"] []
 a_improved : Addr
 d_improved : FuncData
 F_improved : Fun K "improved" "improved" s_improved a_improved d_improved
 m_improved : mg "improved" = some (.ref a_improved)
 b_improved : Binds K d_improved ["rows"] []
 a_ordered : Addr
 d_ordered : FuncData
 F_ordered : Fun K "ordered" "ordered" s_ordered a_ordered d_ordered
 m_ordered : mg "ordered" = some (.ref a_ordered)
 b_ordered : Binds K d_ordered ["rows"] []
 a_law : Addr
 d_law : FuncData
 F_law : Fun K "law" "law" s_law a_law d_law
 m_law : mg "law" = some (.ref a_law)
 b_law : Binds K d_law ["_law_script"] []
 n_any : mg "any" = none
 n_dict : mg "dict" = none
 n_int : mg "int" = none
 n_len : mg "len" = none
 n_list : mg "list" = none
 n_max : mg "max" = none
 n_range : mg "range" = none
 k_Timing : Addr
 ns_Timing : PySem.W.nsIn K mainGlobals "Timing" = some (some (.ref k_Timing))
 mc_Timing : mg "Timing" = some (.ref k_Timing)
 cl_Timing : Cls K k_Timing
 mk_Timing : Mk K k_Timing a_Timing_init
 na_Timing_most : NoAttr K k_Timing "most"
 na_Timing_next_beat : NoAttr K k_Timing "next_beat"
 na_Timing_waits : NoAttr K k_Timing "waits"
theorem blkG {X : Cx} {N N' : List Str} {sc scope : Scope} {k : Nat} {tg : Expr} {g : GM} (B : Bd X N sc k) (T : Tx X.K X.mg) (hc : ∀ y ∈ scope.names, y.2 ≠ .cell) (nd : N'.Nodup) (h : ∀ {Y : Cx}, Bd Y N' scope k -> Tx Y.K Y.mg -> JG Y tg g) (cl : List (Str × Addr)) (C : Addr) (s₀ : Shared) (H₀ : Hp) (ex : List Addr) : JG (blk X N' scope cl C s₀ H₀ ex) tg g := h (B.blk hc nd) T
theorem blkF {X : Cx} {N N' : List Str} {sc scope : Scope} {k : Nat} {ifs : List Expr} {t : TM} (B : Bd X N sc k) (T : Tx X.K X.mg) (hc : ∀ y ∈ scope.names, y.2 ≠ .cell) (nd : N'.Nodup) (h : ∀ {Y : Cx}, Bd Y N' scope k -> Tx Y.K Y.mg -> JF Y ifs t) (cl : List (Str × Addr)) (C : Addr) (s₀ : Shared) (H₀ : Hp) (ex : List Addr) : JF (blk X N' scope cl C s₀ H₀ ex) ifs t := h (B.blk hc nd) T
theorem blkE {X : Cx} {N N' : List Str} {sc scope : Scope} {k : Nat} {e : Expr} {m : EM} (B : Bd X N sc k) (T : Tx X.K X.mg) (hc : ∀ y ∈ scope.names, y.2 ≠ .cell) (nd : N'.Nodup) (h : ∀ {Y : Cx}, Bd Y N' scope k -> Tx Y.K Y.mg -> JE Y e m) (cl : List (Str × Addr)) (C : Addr) (s₀ : Shared) (H₀ : Hp) (ex : List Addr) : JE (blk X N' scope cl C s₀ H₀ ex) e m := h (B.blk hc nd) T
theorem nk_law_script : nmOk "_law_script" = true := by decide +kernel
theorem nk_law_k : nmOk "_law_k" = true := by decide +kernel
theorem nk_law_cell : nmOk "_law_cell" = true := by decide +kernel
theorem nk_law_boxes : nmOk "_law_boxes" = true := by decide +kernel
theorem nk_law_slots : nmOk "_law_slots" = true := by decide +kernel
theorem nk_law_kind : nmOk "_law_kind" = true := by decide +kernel
theorem nk_law_more : nmOk "_law_more" = true := by decide +kernel
theorem nk_law_one : nmOk "_law_one" = true := by decide +kernel
theorem nk_law_other : nmOk "_law_other" = true := by decide +kernel
theorem nk_law_slot : nmOk "_law_slot" = true := by decide +kernel
theorem nk_law_word : nmOk "_law_word" = true := by decide +kernel
theorem nk_law_some : nmOk "_law_some" = true := by decide +kernel
theorem nk_law_number : nmOk "_law_number" = true := by decide +kernel
theorem nk_law_row : nmOk "_law_row" = true := by decide +kernel
theorem nk_law_rows : nmOk "_law_rows" = true := by decide +kernel
theorem nk_law_inputs : nmOk "_law_inputs" = true := by decide +kernel
theorem nk_law_turns : nmOk "_law_turns" = true := by decide +kernel
theorem nk_law_told : nmOk "_law_told" = true := by decide +kernel
theorem nk_law_taken : nmOk "_law_taken" = true := by decide +kernel
theorem nk_self : nmOk "self" = true := by decide +kernel
theorem nk_row : nmOk "row" = true := by decide +kernel
theorem nk_timing : nmOk "timing" = true := by decide +kernel
theorem nk_stall : nmOk "stall" = true := by decide +kernel
theorem nk_behind : nmOk "behind" = true := by decide +kernel
theorem nk_waits : nmOk "waits" = true := by decide +kernel
theorem nk_thing : nmOk "thing" = true := by decide +kernel
theorem nk_wait : nmOk "wait" = true := by decide +kernel
theorem nk_rows : nmOk "rows" = true := by decide +kernel
theorem nk_timings : nmOk "timings" = true := by decide +kernel
theorem nk_mosts : nmOk "mosts" = true := by decide +kernel
theorem nk_place : nmOk "place" = true := by decide +kernel
theorem nk_begin : nmOk "begin" = true := by decide +kernel
theorem nk_some : nmOk "some" = true := by decide +kernel
theorem nk_others : nmOk "others" = true := by decide +kernel
theorem nk_one : nmOk "one" = true := by decide +kernel
theorem nk_other : nmOk "other" = true := by decide +kernel
theorem nk_told : nmOk "told" = true := by decide +kernel
theorem nk_fewest : nmOk "fewest" = true := by decide +kernel
theorem nk_exchanged : nmOk "exchanged" = true := by decide +kernel
theorem nk_needed : nmOk "needed" = true := by decide +kernel
theorem nk_fewer : nmOk "fewer" = true := by decide +kernel
theorem nk_law_many : nmOk "_law_many" = true := by decide +kernel
theorem nk_law_first : nmOk "_law_first" = true := by decide +kernel
theorem nk_law_second : nmOk "_law_second" = true := by decide +kernel
theorem nk_law_due : nmOk "_law_due" = true := by decide +kernel
theorem vis_law_cell_at_0 : Vis (defScope s_law_cell_at) "_law_script" := .inl (by decide +kernel)
theorem vis_law_cell_at_1 : Vis (defScope s_law_cell_at) "_law_k" := .inl (by decide +kernel)
theorem gl_law_cell_at_len : (defScope s_law_cell_at).names.lookup ("len" : Str) = some .globalImplicit := by decide +kernel
theorem vis_law_number_by_0 : Vis (defScope s_law_number_by) "_law_cell" := .inl (by decide +kernel)
theorem vis_law_row_by_0 : Vis (defScope s_law_row_by) "_law_cell" := .inl (by decide +kernel)
theorem vis_law_row_by_1 : Vis (defScope s_law_row_by) "_law_boxes" := .inl (by decide +kernel)
theorem vis_law_row_by_2 : Vis (defScope s_law_row_by) "_law_slots" := .inl (by decide +kernel)
theorem vis_law_row_by_3 : Vis (defScope s_law_row_by) "_law_kind" := .inl (by decide +kernel)
theorem loc_law_row_by_3 : Loc (defScope s_law_row_by) "_law_kind" := .inl (by decide +kernel)
theorem vis_law_row_by_4 : Vis (defScope s_law_row_by) "_law_more" := .inl (by decide +kernel)
theorem loc_law_row_by_4 : Loc (defScope s_law_row_by) "_law_more" := .inl (by decide +kernel)
theorem vis_law_row_by_5 : Vis (defScope s_law_row_by) "_law_one" := .inl (by decide +kernel)
theorem loc_law_row_by_5 : Loc (defScope s_law_row_by) "_law_one" := .inl (by decide +kernel)
theorem vis_law_row_by_6 : Vis (defScope s_law_row_by) "_law_other" := .inl (by decide +kernel)
theorem loc_law_row_by_6 : Loc (defScope s_law_row_by) "_law_other" := .inl (by decide +kernel)
theorem vis_law_row_by_7 : Vis (defScope s_law_row_by) "_law_slot" := .inl (by decide +kernel)
theorem loc_law_row_by_7 : Loc (defScope s_law_row_by) "_law_slot" := .inl (by decide +kernel)
theorem vis_law_row_by_8 : Vis (defScope s_law_row_by) "_law_word" := .inl (by decide +kernel)
theorem loc_law_row_by_8 : Loc (defScope s_law_row_by) "_law_word" := .inl (by decide +kernel)
theorem vis_law_row_by_9 : Vis (defScope s_law_row_by) "_law_some" := .inl (by decide +kernel)
theorem loc_law_row_by_9 : Loc (defScope s_law_row_by) "_law_some" := .inl (by decide +kernel)
theorem gl_law_row_by_law_number_by : (defScope s_law_row_by).names.lookup ("_law_number_by" : Str) = some .globalImplicit := by decide +kernel
theorem vis_law_fit_0 : Vis (defScope s_law_fit) "_law_number" := .inl (by decide +kernel)
theorem vis_law_deed_0 : Vis (defScope s_law_deed) "_law_word" := .inl (by decide +kernel)
theorem vis_law_deed_1 : Vis (defScope s_law_deed) "_law_one" := .inl (by decide +kernel)
theorem vis_law_deed_2 : Vis (defScope s_law_deed) "_law_other" := .inl (by decide +kernel)
theorem gl_law_deed_int : (defScope s_law_deed).names.lookup ("int" : Str) = some .globalImplicit := by decide +kernel
theorem gl_law_deed_law_fit : (defScope s_law_deed).names.lookup ("_law_fit" : Str) = some .globalImplicit := by decide +kernel
theorem vis_law_box_row_0 : Vis (defScope s_law_box_row) "_law_row" := .inl (by decide +kernel)
theorem vis_law_box_row_1 : Vis (defScope s_law_box_row) "_law_boxes" := .inl (by decide +kernel)
theorem vis_law_box_row_2 : Vis (defScope s_law_box_row) "_law_slots" := .inl (by decide +kernel)
theorem gl_law_box_row_law_deed : (defScope s_law_box_row).names.lookup ("_law_deed" : Str) = some .globalImplicit := by decide +kernel
theorem vis_law_run_0 : Vis (defScope s_law_run) "_law_rows" := .inl (by decide +kernel)
theorem vis_law_run_1 : Vis (defScope s_law_run) "_law_boxes" := .inl (by decide +kernel)
theorem vis_law_run_2 : Vis (defScope s_law_run) "_law_slots" := .inl (by decide +kernel)
theorem vis_law_run_3 : Vis (defScope s_law_run) "_law_inputs" := .inl (by decide +kernel)
theorem vis_law_run_4 : Vis (defScope s_law_run) "_law_turns" := .inl (by decide +kernel)
theorem loc_law_run_4 : Loc (defScope s_law_run) "_law_turns" := .inl (by decide +kernel)
theorem vis_law_run_5 : Vis (defScope s_law_run) "_law_told" := .inl (by decide +kernel)
theorem loc_law_run_5 : Loc (defScope s_law_run) "_law_told" := .inl (by decide +kernel)
theorem vis_law_run_6 : Vis (defScope s_law_run) "_law_taken" := .inl (by decide +kernel)
theorem loc_law_run_6 : Loc (defScope s_law_run) "_law_taken" := .inl (by decide +kernel)
theorem vis_law_run_7 : Vis (defScope s_law_run) "_law_row" := .inl (by decide +kernel)
theorem loc_law_run_7 : Loc (defScope s_law_run) "_law_row" := .inl (by decide +kernel)
theorem gl_law_run_law_box_row : (defScope s_law_run).names.lookup ("_law_box_row" : Str) = some .globalImplicit := by decide +kernel
theorem vis_Timing_init_0 : Vis (defScope s_Timing_init) "self" := .inl (by decide +kernel)
theorem vis_things_read_0 : Vis (defScope s_things_read) "row" := .inl (by decide +kernel)
theorem vis_things_written_0 : Vis (defScope s_things_written) "row" := .inl (by decide +kernel)
theorem vis_wait_of_0 : Vis (defScope s_wait_of) "row" := .inl (by decide +kernel)
theorem vis_timing_behind_0 : Vis (defScope s_timing_behind) "timing" := .inr (.inl (by decide +kernel))
theorem vis_timing_behind_1 : Vis (defScope s_timing_behind) "row" := .inr (.inl (by decide +kernel))
theorem vis_timing_behind_2 : Vis (defScope s_timing_behind) "stall" := .inr (.inl (by decide +kernel))
theorem loc_timing_behind_2 : Loc (defScope s_timing_behind) "stall" := .inr (by decide +kernel)
theorem vis_timing_behind_3 : Vis (defScope s_timing_behind) "behind" := .inl (by decide +kernel)
theorem loc_timing_behind_3 : Loc (defScope s_timing_behind) "behind" := .inl (by decide +kernel)
theorem vis_timing_behind_4 : Vis (defScope s_timing_behind) "waits" := .inl (by decide +kernel)
theorem gl_timing_behind_things_read : (defScope s_timing_behind).names.lookup ("things_read" : Str) = some .globalImplicit := by decide +kernel
theorem gl_timing_behind_things_written : (defScope s_timing_behind).names.lookup ("things_written" : Str) = some .globalImplicit := by decide +kernel
theorem gl_timing_behind_max : (defScope s_timing_behind).names.lookup ("max" : Str) = some .globalImplicit := by decide +kernel
theorem gl_timing_behind_Timing : (defScope s_timing_behind).names.lookup ("Timing" : Str) = some .globalImplicit := by decide +kernel
theorem gl_timing_behind_wait_of : (defScope s_timing_behind).names.lookup ("wait_of" : Str) = some .globalImplicit := by decide +kernel
theorem gl_timing_behind_dict : (defScope s_timing_behind).names.lookup ("dict" : Str) = some .globalImplicit := by decide +kernel
theorem vis_timings_of_0 : Vis (defScope s_timings_of) "rows" := .inl (by decide +kernel)
theorem vis_timings_of_1 : Vis (defScope s_timings_of) "timings" := .inl (by decide +kernel)
theorem loc_timings_of_1 : Loc (defScope s_timings_of) "timings" := .inl (by decide +kernel)
theorem vis_timings_of_2 : Vis (defScope s_timings_of) "row" := .inl (by decide +kernel)
theorem loc_timings_of_2 : Loc (defScope s_timings_of) "row" := .inl (by decide +kernel)
theorem gl_timings_of_Timing : (defScope s_timings_of).names.lookup ("Timing" : Str) = some .globalImplicit := by decide +kernel
theorem gl_timings_of_timing_behind : (defScope s_timings_of).names.lookup ("timing_behind" : Str) = some .globalImplicit := by decide +kernel
theorem vis_mosts_from_0 : Vis (defScope s_mosts_from) "rows" := .inl (by decide +kernel)
theorem vis_mosts_from_1 : Vis (defScope s_mosts_from) "timings" := .inl (by decide +kernel)
theorem vis_mosts_from_2 : Vis (defScope s_mosts_from) "mosts" := .inl (by decide +kernel)
theorem vis_mosts_from_3 : Vis (defScope s_mosts_from) "place" := .inl (by decide +kernel)
theorem loc_mosts_from_3 : Loc (defScope s_mosts_from) "place" := .inl (by decide +kernel)
theorem vis_mosts_from_4 : Vis (defScope s_mosts_from) "begin" := .inl (by decide +kernel)
theorem loc_mosts_from_4 : Loc (defScope s_mosts_from) "begin" := .inl (by decide +kernel)
theorem gl_mosts_from_len : (defScope s_mosts_from).names.lookup ("len" : Str) = some .globalImplicit := by decide +kernel
theorem gl_mosts_from_range : (defScope s_mosts_from).names.lookup ("range" : Str) = some .globalImplicit := by decide +kernel
theorem gl_mosts_from_wait_of : (defScope s_mosts_from).names.lookup ("wait_of" : Str) = some .globalImplicit := by decide +kernel
theorem gl_mosts_from_max : (defScope s_mosts_from).names.lookup ("max" : Str) = some .globalImplicit := by decide +kernel
theorem vis_beats_from_0 : Vis (defScope s_beats_from) "rows" := .inl (by decide +kernel)
theorem vis_beats_from_1 : Vis (defScope s_beats_from) "timings" := .inl (by decide +kernel)
theorem vis_beats_from_2 : Vis (defScope s_beats_from) "mosts" := .inl (by decide +kernel)
theorem vis_beats_from_3 : Vis (defScope s_beats_from) "timing" := .inl (by decide +kernel)
theorem loc_beats_from_3 : Loc (defScope s_beats_from) "timing" := .inl (by decide +kernel)
theorem vis_beats_from_4 : Vis (defScope s_beats_from) "place" := .inl (by decide +kernel)
theorem loc_beats_from_4 : Loc (defScope s_beats_from) "place" := .inl (by decide +kernel)
theorem gl_beats_from_len : (defScope s_beats_from).names.lookup ("len" : Str) = some .globalImplicit := by decide +kernel
theorem gl_beats_from_timing_behind : (defScope s_beats_from).names.lookup ("timing_behind" : Str) = some .globalImplicit := by decide +kernel
theorem gl_beats_from_max : (defScope s_beats_from).names.lookup ("max" : Str) = some .globalImplicit := by decide +kernel
theorem vis_is_outward_0 : Vis (defScope s_is_outward) "row" := .inl (by decide +kernel)
theorem vis_share_0 : Vis (defScope s_share) "some" := .inl (by decide +kernel)
theorem gl_share_any : (defScope s_share).names.lookup ("any" : Str) = some .globalImplicit := by decide +kernel
theorem vis_are_bound_0 : Vis (defScope s_are_bound) "one" := .inl (by decide +kernel)
theorem vis_are_bound_1 : Vis (defScope s_are_bound) "other" := .inl (by decide +kernel)
theorem gl_are_bound_is_outward : (defScope s_are_bound).names.lookup ("is_outward" : Str) = some .globalImplicit := by decide +kernel
theorem gl_are_bound_things_read : (defScope s_are_bound).names.lookup ("things_read" : Str) = some .globalImplicit := by decide +kernel
theorem gl_are_bound_things_written : (defScope s_are_bound).names.lookup ("things_written" : Str) = some .globalImplicit := by decide +kernel
theorem gl_are_bound_share : (defScope s_are_bound).names.lookup ("share" : Str) = some .globalImplicit := by decide +kernel
theorem vis_improved_0 : Vis (defScope s_improved) "rows" := .inl (by decide +kernel)
theorem vis_improved_1 : Vis (defScope s_improved) "timings" := .inl (by decide +kernel)
theorem loc_improved_1 : Loc (defScope s_improved) "timings" := .inl (by decide +kernel)
theorem vis_improved_2 : Vis (defScope s_improved) "mosts" := .inl (by decide +kernel)
theorem loc_improved_2 : Loc (defScope s_improved) "mosts" := .inl (by decide +kernel)
theorem vis_improved_3 : Vis (defScope s_improved) "told" := .inl (by decide +kernel)
theorem loc_improved_3 : Loc (defScope s_improved) "told" := .inl (by decide +kernel)
theorem vis_improved_4 : Vis (defScope s_improved) "fewest" := .inl (by decide +kernel)
theorem loc_improved_4 : Loc (defScope s_improved) "fewest" := .inl (by decide +kernel)
theorem vis_improved_5 : Vis (defScope s_improved) "timing" := .inl (by decide +kernel)
theorem loc_improved_5 : Loc (defScope s_improved) "timing" := .inl (by decide +kernel)
theorem vis_improved_6 : Vis (defScope s_improved) "place" := .inl (by decide +kernel)
theorem loc_improved_6 : Loc (defScope s_improved) "place" := .inl (by decide +kernel)
theorem vis_improved_7 : Vis (defScope s_improved) "one" := .inl (by decide +kernel)
theorem loc_improved_7 : Loc (defScope s_improved) "one" := .inl (by decide +kernel)
theorem vis_improved_8 : Vis (defScope s_improved) "other" := .inl (by decide +kernel)
theorem loc_improved_8 : Loc (defScope s_improved) "other" := .inl (by decide +kernel)
theorem vis_improved_9 : Vis (defScope s_improved) "exchanged" := .inl (by decide +kernel)
theorem loc_improved_9 : Loc (defScope s_improved) "exchanged" := .inl (by decide +kernel)
theorem vis_improved_10 : Vis (defScope s_improved) "needed" := .inl (by decide +kernel)
theorem loc_improved_10 : Loc (defScope s_improved) "needed" := .inl (by decide +kernel)
theorem gl_improved_timings_of : (defScope s_improved).names.lookup ("timings_of" : Str) = some .globalImplicit := by decide +kernel
theorem gl_improved_mosts_from : (defScope s_improved).names.lookup ("mosts_from" : Str) = some .globalImplicit := by decide +kernel
theorem gl_improved_list : (defScope s_improved).names.lookup ("list" : Str) = some .globalImplicit := by decide +kernel
theorem gl_improved_Timing : (defScope s_improved).names.lookup ("Timing" : Str) = some .globalImplicit := by decide +kernel
theorem gl_improved_len : (defScope s_improved).names.lookup ("len" : Str) = some .globalImplicit := by decide +kernel
theorem gl_improved_range : (defScope s_improved).names.lookup ("range" : Str) = some .globalImplicit := by decide +kernel
theorem gl_improved_timing_behind : (defScope s_improved).names.lookup ("timing_behind" : Str) = some .globalImplicit := by decide +kernel
theorem gl_improved_beats_from : (defScope s_improved).names.lookup ("beats_from" : Str) = some .globalImplicit := by decide +kernel
theorem gl_improved_are_bound : (defScope s_improved).names.lookup ("are_bound" : Str) = some .globalImplicit := by decide +kernel
theorem vis_ordered_0 : Vis (defScope s_ordered) "rows" := .inl (by decide +kernel)
theorem vis_ordered_1 : Vis (defScope s_ordered) "told" := .inl (by decide +kernel)
theorem loc_ordered_1 : Loc (defScope s_ordered) "told" := .inl (by decide +kernel)
theorem vis_ordered_2 : Vis (defScope s_ordered) "fewer" := .inl (by decide +kernel)
theorem loc_ordered_2 : Loc (defScope s_ordered) "fewer" := .inl (by decide +kernel)
theorem gl_ordered_list : (defScope s_ordered).names.lookup ("list" : Str) = some .globalImplicit := by decide +kernel
theorem gl_ordered_improved : (defScope s_ordered).names.lookup ("improved" : Str) = some .globalImplicit := by decide +kernel
theorem vis_law_0 : Vis (defScope s_law) "_law_script" := .inr (.inl (by decide +kernel))
theorem vis_law_1 : Vis (defScope s_law) "_law_many" := .inl (by decide +kernel)
theorem loc_law_1 : Loc (defScope s_law) "_law_many" := .inl (by decide +kernel)
theorem vis_law_2 : Vis (defScope s_law) "_law_boxes" := .inr (.inl (by decide +kernel))
theorem loc_law_2 : Loc (defScope s_law) "_law_boxes" := .inr (by decide +kernel)
theorem vis_law_3 : Vis (defScope s_law) "_law_slots" := .inr (.inl (by decide +kernel))
theorem loc_law_3 : Loc (defScope s_law) "_law_slots" := .inr (by decide +kernel)
theorem vis_law_4 : Vis (defScope s_law) "_law_rows" := .inl (by decide +kernel)
theorem vis_law_5 : Vis (defScope s_law) "_law_inputs" := .inl (by decide +kernel)
theorem vis_law_6 : Vis (defScope s_law) "_law_turns" := .inl (by decide +kernel)
theorem loc_law_6 : Loc (defScope s_law) "_law_turns" := .inl (by decide +kernel)
theorem vis_law_7 : Vis (defScope s_law) "_law_first" := .inl (by decide +kernel)
theorem loc_law_7 : Loc (defScope s_law) "_law_first" := .inl (by decide +kernel)
theorem vis_law_8 : Vis (defScope s_law) "_law_second" := .inl (by decide +kernel)
theorem loc_law_8 : Loc (defScope s_law) "_law_second" := .inl (by decide +kernel)
theorem vis_law_9 : Vis (defScope s_law) "_law_k" := .inl (by decide +kernel)
theorem loc_law_9 : Loc (defScope s_law) "_law_k" := .inl (by decide +kernel)
theorem vis_law_10 : Vis (defScope s_law) "_law_due" := .inl (by decide +kernel)
theorem loc_law_10 : Loc (defScope s_law) "_law_due" := .inl (by decide +kernel)
theorem gl_law_law_cell_at : (defScope s_law).names.lookup ("_law_cell_at" : Str) = some .globalImplicit := by decide +kernel
theorem gl_law_range : (defScope s_law).names.lookup ("range" : Str) = some .globalImplicit := by decide +kernel
theorem gl_law_law_number_by : (defScope s_law).names.lookup ("_law_number_by" : Str) = some .globalImplicit := by decide +kernel
theorem gl_law_dict : (defScope s_law).names.lookup ("dict" : Str) = some .globalImplicit := by decide +kernel
theorem gl_law_law_run : (defScope s_law).names.lookup ("_law_run" : Str) = some .globalImplicit := by decide +kernel
theorem gl_law_list : (defScope s_law).names.lookup ("list" : Str) = some .globalImplicit := by decide +kernel
theorem gl_law_ordered : (defScope s_law).names.lookup ("ordered" : Str) = some .globalImplicit := by decide +kernel
section
variable {P : Program} {w : World} {K : PySem.W.Frag} {mg : Str -> Option Value} {base : Heap}
theorem sc_law_cell_at : FnScope ["_law_script", "_law_k"] ["_law_script", "_law_k"] (defScope s_law_cell_at) := ⟨rfl, rfl, rfl, by decide +kernel, rfl, by decide +kernel, by decide +kernel⟩
theorem body_law_cell_at {X : Cx} (T : Tx X.K X.mg) (B : Bd X ["_law_script", "_law_k"] (defScope s_law_cell_at) 0) (hF : TopF X) (hsc : X.env.scope = defScope s_law_cell_at) : JB X (defBody s_law_cell_at) b_law_cell_at :=
 have v0 {p : Pos} : JE X (.Name "_law_script" p) (eVar 0) := B.jv 0 rfl vis_law_cell_at_0 nk_law_script
 have v1 {p : Pos} : JE X (.Name "_law_k" p) (eVar 1) := B.jv 1 rfl vis_law_cell_at_1 nk_law_k
 (jb_cons (js_if (jt_cmp cp_lt v1 (je_blt rfl (by decide +kernel) (by decide +kernel) call_lenW lenW_i (B.gl _ gl_law_cell_at_len) T.n_len PySem.boot_len (ja_c rfl v0 ja_nil))) (jb_one (js_ret (B.ixV v0 v1))) jb_nil) (jb_one (js_ret je_int)))
theorem ok_law_cell_at (T : Tx K mg) : FnOk P w K mg base (CXW P w) 1 T.a_law_cell_at T.d_law_cell_at ["_law_script", "_law_k"] (spM K mg 2 (fM b_law_cell_at 2 2)) := fun_ilT rfl rfl T.F_law_cell_at sc_law_cell_at fun {X} h1 h2 h3 h4 h5 B hF hsc => by subst h3 h4; exact body_law_cell_at T B hF hsc
theorem sc_law_number_by : FnScope ["_law_cell"] ["_law_cell"] (defScope s_law_number_by) := ⟨rfl, rfl, rfl, by decide +kernel, rfl, by decide +kernel, by decide +kernel⟩
theorem body_law_number_by {X : Cx} (T : Tx X.K X.mg) (B : Bd X ["_law_cell"] (defScope s_law_number_by) 0) (hF : TopF X) (hsc : X.env.scope = defScope s_law_number_by) : JB X (defBody s_law_number_by) b_law_number_by :=
 have v0 {p : Pos} : JE X (.Name "_law_cell" p) (eVar 0) := B.jv 0 rfl vis_law_number_by_0 nk_law_cell
 (jb_cons (js_if (jt_cmp B.eq (je_mod v0 je_int) je_int) (jb_one (js_ret (B.ixV (je_lst (ja_c rfl je_int (ja_c rfl (je_neg je_int) (ja_c rfl je_int (ja_c rfl (je_neg je_int) (ja_c rfl je_int (ja_c rfl (je_neg je_int) (ja_c rfl je_int (ja_c rfl je_int ja_nil))))))))) (je_mod (je_div v0 je_int) je_int)))) jb_nil) (jb_cons (js_if (jt_cmp B.eq (je_mod v0 je_int) je_int) (jb_one (js_ret (je_sub (je_mod (je_mulV (je_div v0 je_int) je_int) je_int) je_int))) jb_nil) (jb_cons (js_if (jt_cmp B.eq (je_mod v0 je_int) je_int) (jb_one (js_ret (je_sub (je_mod (je_div v0 je_int) je_int) je_int))) jb_nil) (jb_one (js_ret (je_sub (je_mod (je_div v0 je_int) je_int) je_int))))))
theorem ok_law_number_by (T : Tx K mg) : FnOk P w K mg base (CXW P w) 1 T.a_law_number_by T.d_law_number_by ["_law_cell"] (spM K mg 1 (fM b_law_number_by 1 1)) := fun_ilT rfl rfl T.F_law_number_by sc_law_number_by fun {X} h1 h2 h3 h4 h5 B hF hsc => by subst h3 h4; exact body_law_number_by T B hF hsc
theorem sc_law_row_by : FnScope ["_law_cell", "_law_boxes", "_law_slots", "_law_kind", "_law_more", "_law_one", "_law_other", "_law_slot", "_law_word", "_law_some"] ["_law_cell", "_law_boxes", "_law_slots"] (defScope s_law_row_by) := ⟨rfl, rfl, rfl, by decide +kernel, rfl, by decide +kernel, by decide +kernel⟩
theorem body_law_row_by {X : Cx} (T : Tx X.K X.mg) (B : Bd X ["_law_cell", "_law_boxes", "_law_slots", "_law_kind", "_law_more", "_law_one", "_law_other", "_law_slot", "_law_word", "_law_some"] (defScope s_law_row_by) 1) (hF : TopF X) (hsc : X.env.scope = defScope s_law_row_by) : JB X (defBody s_law_row_by) b_law_row_by :=
 have v0 {p : Pos} : JE X (.Name "_law_cell" p) (eVar 0) := B.jv 0 rfl vis_law_row_by_0 nk_law_cell
 have v1 {p : Pos} : JE X (.Name "_law_boxes" p) (eVar 1) := B.jv 1 rfl vis_law_row_by_1 nk_law_boxes
 have v2 {p : Pos} : JE X (.Name "_law_slots" p) (eVar 2) := B.jv 2 rfl vis_law_row_by_2 nk_law_slots
 have v3 {p : Pos} : JE X (.Name "_law_kind" p) (eVar 3) := B.jv 3 rfl vis_law_row_by_3 nk_law_kind
 have v4 {p : Pos} : JE X (.Name "_law_more" p) (eVar 4) := B.jv 4 rfl vis_law_row_by_4 nk_law_more
 have v5 {p : Pos} : JE X (.Name "_law_one" p) (eVar 5) := B.jv 5 rfl vis_law_row_by_5 nk_law_one
 have v6 {p : Pos} : JE X (.Name "_law_other" p) (eVar 6) := B.jv 6 rfl vis_law_row_by_6 nk_law_other
 have v7 {p : Pos} : JE X (.Name "_law_slot" p) (eVar 7) := B.jv 7 rfl vis_law_row_by_7 nk_law_slot
 have v8 {p : Pos} : JE X (.Name "_law_word" p) (eVar 8) := B.jv 8 rfl vis_law_row_by_8 nk_law_word
 have v9 {p : Pos} : JE X (.Name "_law_some" p) (eVar 9) := B.jv 9 rfl vis_law_row_by_9 nk_law_some
 (jb_cons (B.jset 3 rfl loc_law_row_by_3 rfl (je_mod v0 je_int)) (jb_cons (B.jset 4 rfl loc_law_row_by_4 rfl (je_mod (je_mulV (je_div v0 je_int) je_int) je_int)) (jb_cons (B.jset 5 rfl loc_law_row_by_5 rfl (je_mod v4 v1)) (jb_cons (B.jset 6 rfl loc_law_row_by_6 rfl (je_mod (je_div v4 je_int) v1)) (jb_cons (B.jset 7 rfl loc_law_row_by_7 rfl (je_mod (je_div v4 je_int) v2)) (jb_cons (js_if (jt_cmp cp_lt v3 je_int) (jb_cons (B.jset 8 rfl loc_law_row_by_8 rfl (B.ixV (je_lst (ja_c rfl je_str (ja_c rfl je_str (ja_c rfl je_str (ja_c rfl je_str (ja_c rfl je_str (ja_c rfl je_str ja_nil))))))) (je_mod (je_div v4 je_int) je_int))) (jb_one (js_ret (je_tup (ja_c rfl je_str (ja_c rfl v5 (ja_c rfl v8 (ja_c rfl v6 (ja_c rfl (je_mod (je_div v4 je_int) v1) ja_nil))))))))) jb_nil) (jb_cons (B.jset 9 rfl loc_law_row_by_9 rfl (je_lst (ja_c rfl (je_tup (ja_c rfl je_str (ja_c rfl v5 (ja_c rfl (je_cal rfl (by decide +kernel) (ok_law_number_by T) fM_len (B.room.mono (by decide)) (B.gl _ gl_law_row_by_law_number_by) T.m_law_number_by T.F_law_number_by.kp T.b_law_number_by (ja_c rfl (je_div v4 je_int) ja_nil)) ja_nil)))) (ja_c rfl (je_tup (ja_c rfl je_str (ja_c rfl v5 (ja_c rfl v6 ja_nil)))) (ja_c rfl (je_tup (ja_c rfl je_str (ja_c rfl v5 (ja_c rfl v7 ja_nil)))) (ja_c rfl (je_tup (ja_c rfl je_str (ja_c rfl v7 (ja_c rfl v5 ja_nil)))) ja_nil)))))) (jb_cons (B.jset 9 rfl loc_law_row_by_9 rfl (je_add v9 (je_lst (ja_c rfl (je_tup (ja_c rfl je_str (ja_c rfl v5 ja_nil))) (ja_c rfl (je_tup (ja_c rfl je_str (ja_c rfl v5 ja_nil))) (ja_c rfl (je_tup (ja_c rfl je_str ja_nil)) ja_nil)))))) (jb_one (js_ret (B.ixV v9 (je_sub v3 je_int))))))))))))
theorem ok_law_row_by (T : Tx K mg) : FnOk P w K mg base (CXW P w) 2 T.a_law_row_by T.d_law_row_by ["_law_cell", "_law_boxes", "_law_slots"] (spM K mg 3 (fM b_law_row_by 10 3)) := fun_ilT rfl rfl T.F_law_row_by sc_law_row_by fun {X} h1 h2 h3 h4 h5 B hF hsc => by subst h3 h4; exact body_law_row_by T B hF hsc
theorem sc_law_fit : FnScope ["_law_number"] ["_law_number"] (defScope s_law_fit) := ⟨rfl, rfl, rfl, by decide +kernel, rfl, by decide +kernel, by decide +kernel⟩
theorem body_law_fit {X : Cx} (T : Tx X.K X.mg) (B : Bd X ["_law_number"] (defScope s_law_fit) 0) (hF : TopF X) (hsc : X.env.scope = defScope s_law_fit) : JB X (defBody s_law_fit) b_law_fit :=
 have v0 {p : Pos} : JE X (.Name "_law_number" p) (eVar 0) := B.jv 0 rfl vis_law_fit_0 nk_law_number
 (jb_one (js_ret (je_sub v0 (je_mulV (je_div (je_add v0 je_int) je_int) je_int))))
theorem ok_law_fit (T : Tx K mg) : FnOk P w K mg base (CXW P w) 1 T.a_law_fit T.d_law_fit ["_law_number"] (spM K mg 1 (fM b_law_fit 1 1)) := fun_ilT rfl rfl T.F_law_fit sc_law_fit fun {X} h1 h2 h3 h4 h5 B hF hsc => by subst h3 h4; exact body_law_fit T B hF hsc
theorem sc_law_deed : FnScope ["_law_word", "_law_one", "_law_other"] ["_law_word", "_law_one", "_law_other"] (defScope s_law_deed) := ⟨rfl, rfl, rfl, by decide +kernel, rfl, by decide +kernel, by decide +kernel⟩
theorem body_law_deed {X : Cx} (T : Tx X.K X.mg) (B : Bd X ["_law_word", "_law_one", "_law_other"] (defScope s_law_deed) 1) (hF : TopF X) (hsc : X.env.scope = defScope s_law_deed) : JB X (defBody s_law_deed) b_law_deed :=
 have v0 {p : Pos} : JE X (.Name "_law_word" p) (eVar 0) := B.jv 0 rfl vis_law_deed_0 nk_law_word
 have v1 {p : Pos} : JE X (.Name "_law_one" p) (eVar 1) := B.jv 1 rfl vis_law_deed_1 nk_law_one
 have v2 {p : Pos} : JE X (.Name "_law_other" p) (eVar 2) := B.jv 2 rfl vis_law_deed_2 nk_law_other
 (jb_cons (js_if (jt_w (jw_or (jt_cmp B.eq v0 je_str) (jw_one (jt_cmp B.eq v0 je_str)))) (jb_one (js_ret (je_typ rfl (by decide +kernel) (by decide +kernel) call_int1 intW_i (B.gl _ gl_law_deed_int) T.n_int PyProof.Rows.boot_int (ja_c rfl (je_or (je_and (je_cmp cp_lt v1 v2) (je_one (je_cmp B.eq v0 je_str))) (je_one (je_and (je_cmp B.eq v1 v2) (je_one (je_cmp B.eq v0 je_str))))) ja_nil)))) jb_nil) (jb_cons (js_if (jt_cmp B.eq v0 je_str) (jb_one (js_ret (je_cal rfl (by decide +kernel) (ok_law_fit T) fM_len (B.room.mono (by decide)) (B.gl _ gl_law_deed_law_fit) T.m_law_fit T.F_law_fit.kp T.b_law_fit (ja_c rfl (je_div v1 v2) ja_nil)))) jb_nil) (jb_one (js_ret (je_cal rfl (by decide +kernel) (ok_law_fit T) fM_len (B.room.mono (by decide)) (B.gl _ gl_law_deed_law_fit) T.m_law_fit T.F_law_fit.kp T.b_law_fit (ja_c rfl (B.ixV (je_lst (ja_c rfl (je_add v1 v2) (ja_c rfl (je_sub v1 v2) (ja_c rfl (je_mulV v1 v2) ja_nil)))) (je_mth rfl rfl PySem.F.plainAttrs_list PySem.F.slot_list_index PySem.F.type_list_index (mt_index B.room.units) isL_i indexW_i (je_lst (ja_c rfl je_str (ja_c rfl je_str (ja_c rfl je_str ja_nil)))) (ja_c rfl v0 ja_nil))) ja_nil))))))
theorem ok_law_deed (T : Tx K mg) : FnOk P w K mg base (CXW P w) 2 T.a_law_deed T.d_law_deed ["_law_word", "_law_one", "_law_other"] (spM K mg 3 (fM b_law_deed 3 3)) := fun_ilT rfl rfl T.F_law_deed sc_law_deed fun {X} h1 h2 h3 h4 h5 B hF hsc => by subst h3 h4; exact body_law_deed T B hF hsc
theorem sc_law_box_row : FnScope ["_law_row", "_law_boxes", "_law_slots"] ["_law_row", "_law_boxes", "_law_slots"] (defScope s_law_box_row) := ⟨rfl, rfl, rfl, by decide +kernel, rfl, by decide +kernel, by decide +kernel⟩
theorem body_law_box_row {X : Cx} (T : Tx X.K X.mg) (B : Bd X ["_law_row", "_law_boxes", "_law_slots"] (defScope s_law_box_row) 2) (hF : TopF X) (hsc : X.env.scope = defScope s_law_box_row) : JB X (defBody s_law_box_row) b_law_box_row :=
 have v0 {p : Pos} : JE X (.Name "_law_row" p) (eVar 0) := B.jv 0 rfl vis_law_box_row_0 nk_law_row
 have v1 {p : Pos} : JE X (.Name "_law_boxes" p) (eVar 1) := B.jv 1 rfl vis_law_box_row_1 nk_law_boxes
 have v2 {p : Pos} : JE X (.Name "_law_slots" p) (eVar 2) := B.jv 2 rfl vis_law_box_row_2 nk_law_slots
 (jb_one (js_if (jt_cmp B.eq (B.ixV v0 je_int) je_str) (jb_one (js_asg (B.ixV v0 je_int) (B.jg_subV v1 (B.ixV v0 je_int)))) (jb_one (js_if (jt_cmp B.eq (B.ixV v0 je_int) je_str) (jb_one (js_asg (je_mth rfl rfl PySem.F.plainAttrs_dict PySem.F.slot_dict_get PySem.F.type_dict_get (mt_get (hu_of B.room)) isDc_i getW_i v1 (ja_c rfl (B.ixV v0 je_int) (ja_c rfl je_int ja_nil))) (B.jg_subV v1 (B.ixV v0 je_int)))) (jb_one (js_if (jt_cmp B.eq (B.ixV v0 je_int) je_str) (jb_one (js_asg (je_mth rfl rfl PySem.F.plainAttrs_dict PySem.F.slot_dict_get PySem.F.type_dict_get (mt_get (hu_of B.room)) isDc_i getW_i v2 (ja_c rfl (B.ixV v0 je_int) (ja_c rfl je_int ja_nil))) (B.jg_subV v1 (B.ixV v0 je_int)))) (jb_one (js_if (jt_cmp B.eq (B.ixV v0 je_int) je_str) (jb_one (js_asg (je_mth rfl rfl PySem.F.plainAttrs_dict PySem.F.slot_dict_get PySem.F.type_dict_get (mt_get (hu_of B.room)) isDc_i getW_i v1 (ja_c rfl (B.ixV v0 je_int) (ja_c rfl je_int ja_nil))) (B.jg_subV v2 (B.ixV v0 je_int)))) (jb_one (js_asg (je_cal rfl (by decide +kernel) (ok_law_deed T) fM_len (B.room.mono (by decide)) (B.gl _ gl_law_box_row_law_deed) T.m_law_deed T.F_law_deed.kp T.b_law_deed (ja_c rfl (B.ixV v0 je_int) (ja_c rfl (je_mth rfl rfl PySem.F.plainAttrs_dict PySem.F.slot_dict_get PySem.F.type_dict_get (mt_get (hu_of B.room)) isDc_i getW_i v1 (ja_c rfl (B.ixV v0 je_int) (ja_c rfl je_int ja_nil))) (ja_c rfl (je_mth rfl rfl PySem.F.plainAttrs_dict PySem.F.slot_dict_get PySem.F.type_dict_get (mt_get (hu_of B.room)) isDc_i getW_i v1 (ja_c rfl (B.ixV v0 je_int) (ja_c rfl je_int ja_nil))) ja_nil)))) (B.jg_subV v1 (B.ixV v0 je_int))))))))))))
theorem ok_law_box_row (T : Tx K mg) : FnOk P w K mg base (CXW P w) 3 T.a_law_box_row T.d_law_box_row ["_law_row", "_law_boxes", "_law_slots"] (spM K mg 3 (fM b_law_box_row 3 3)) := fun_ilT rfl rfl T.F_law_box_row sc_law_box_row fun {X} h1 h2 h3 h4 h5 B hF hsc => by subst h3 h4; exact body_law_box_row T B hF hsc
theorem sc_law_run : FnScope ["_law_rows", "_law_boxes", "_law_slots", "_law_inputs", "_law_turns", "_law_told", "_law_taken", "_law_row"] ["_law_rows", "_law_boxes", "_law_slots", "_law_inputs", "_law_turns"] (defScope s_law_run) := ⟨rfl, rfl, rfl, by decide +kernel, rfl, by decide +kernel, by decide +kernel⟩
theorem body_law_run {X : Cx} (T : Tx X.K X.mg) (B : Bd X ["_law_rows", "_law_boxes", "_law_slots", "_law_inputs", "_law_turns", "_law_told", "_law_taken", "_law_row"] (defScope s_law_run) 3) (hF : TopF X) (hsc : X.env.scope = defScope s_law_run) : JB X (defBody s_law_run) b_law_run :=
 have v0 {p : Pos} : JE X (.Name "_law_rows" p) (eVar 0) := B.jv 0 rfl vis_law_run_0 nk_law_rows
 have v1 {p : Pos} : JE X (.Name "_law_boxes" p) (eVar 1) := B.jv 1 rfl vis_law_run_1 nk_law_boxes
 have v2 {p : Pos} : JE X (.Name "_law_slots" p) (eVar 2) := B.jv 2 rfl vis_law_run_2 nk_law_slots
 have v3 {p : Pos} : JE X (.Name "_law_inputs" p) (eVar 3) := B.jv 3 rfl vis_law_run_3 nk_law_inputs
 have v4 {p : Pos} : JE X (.Name "_law_turns" p) (eVar 4) := B.jv 4 rfl vis_law_run_4 nk_law_turns
 have v5 {p : Pos} : JE X (.Name "_law_told" p) (eVar 5) := B.jv 5 rfl vis_law_run_5 nk_law_told
 have v6 {p : Pos} : JE X (.Name "_law_taken" p) (eVar 6) := B.jv 6 rfl vis_law_run_6 nk_law_taken
 have v7 {p : Pos} : JE X (.Name "_law_row" p) (eVar 7) := B.jv 7 rfl vis_law_run_7 nk_law_row
 (jb_cons (B.jset 5 rfl loc_law_run_5 rfl (je_lst ja_nil)) (jb_cons (B.jset 6 rfl loc_law_run_6 rfl je_int) (jb_cons (B.jfor (ji_both v0) (B.jname 7 rfl loc_law_run_7) (jb_cons (js_if (jt_w (jw_and (jt_cmp B.eq (B.ixV v7 je_int) je_str) (jw_one (jt_cmp B.eq v4 je_int)))) (jb_one (js_ret (je_tup (ja_c rfl je_str (ja_c rfl v5 (ja_c rfl v6 ja_nil)))))) jb_nil) (jb_cons (js_if (jt_w (jw_and (jt_cmp B.eq (B.ixV v7 je_int) je_str) (jw_and (jt_cmp B.eq (B.ixV v7 je_int) je_str) (jw_one (jt_cmp B.eq (je_mth rfl rfl PySem.F.plainAttrs_dict PySem.F.slot_dict_get PySem.F.type_dict_get (mt_get (hu_of B.room)) isDc_i getW_i v1 (ja_c rfl (B.ixV v7 je_int) (ja_c rfl je_int ja_nil))) je_int))))) (jb_one (js_ret (je_tup (ja_c rfl je_str (ja_c rfl v5 (ja_c rfl v6 ja_nil)))))) jb_nil) (jb_one (js_if (jt_cmp B.eq (B.ixV v7 je_int) je_str) (jb_one (B.jset 4 rfl loc_law_run_4 rfl (je_sub v4 je_int))) (jb_one (js_if (jt_cmp B.eq (B.ixV v7 je_int) je_str) (jb_cons (js_asg (B.ixV (je_add v3 (je_mulV (je_lst (ja_c rfl je_int ja_nil)) (je_add v6 je_int))) v6) (B.jg_subV v1 (B.ixV v7 je_int))) (jb_one (B.jset 6 rfl loc_law_run_6 rfl (je_add v6 je_int)))) (jb_one (js_if (jt_cmp B.eq (B.ixV v7 je_int) je_str) (jb_one (js_expr rfl (je_mth rfl rfl PySem.F.plainAttrs_list PySem.F.slot_list_append PySem.F.type_list_append mt_append isL_i appendW_i v5 (ja_c rfl (je_mth rfl rfl PySem.F.plainAttrs_dict PySem.F.slot_dict_get PySem.F.type_dict_get (mt_get (hu_of B.room)) isDc_i getW_i v1 (ja_c rfl (B.ixV v7 je_int) (ja_c rfl je_int ja_nil))) ja_nil)))) (jb_one (js_expr rfl (je_cal rfl (by decide +kernel) (ok_law_box_row T) fM_len (B.room.mono (by decide)) (B.gl _ gl_law_run_law_box_row) T.m_law_box_row T.F_law_box_row.kp T.b_law_box_row (ja_c rfl v7 (ja_c rfl v1 (ja_c rfl v2 ja_nil))))))))))))))) (jb_one (js_ret (je_tup (ja_c rfl je_str (ja_c rfl v5 (ja_c rfl v6 (ja_c rfl v1 (ja_c rfl v2 ja_nil)))))))))))
theorem ok_law_run (T : Tx K mg) : FnOk P w K mg base (CXW P w) 4 T.a_law_run T.d_law_run ["_law_rows", "_law_boxes", "_law_slots", "_law_inputs", "_law_turns"] (spM K mg 5 (fM b_law_run 8 5)) := fun_ilT rfl rfl T.F_law_run sc_law_run fun {X} h1 h2 h3 h4 h5 B hF hsc => by subst h3 h4; exact body_law_run T B hF hsc
theorem sc_Timing_init : FnScope ["self"] ["self"] (defScope s_Timing_init) := ⟨rfl, rfl, rfl, by decide +kernel, rfl, by decide +kernel, by decide +kernel⟩
theorem body_Timing_init {X : Cx} (T : Tx X.K X.mg) (B : Bd X ["self"] (defScope s_Timing_init) 0) (hF : TopF X) (hsc : X.env.scope = defScope s_Timing_init) : JB X (defBody s_Timing_init) b_Timing_init :=
 have v0 {p : Pos} : JE X (.Name "self" p) (eVar 0) := B.jv 0 rfl vis_Timing_init_0 nk_self
 (jb_cons (js_fld T.ns_Timing T.cl_Timing T.na_Timing_next_beat rfl v0 je_int) (jb_cons (js_fld T.ns_Timing T.cl_Timing T.na_Timing_waits rfl v0 je_dct) (jb_one (js_fld T.ns_Timing T.cl_Timing T.na_Timing_most rfl v0 je_int))))
theorem ok_Timing_init (T : Tx K mg) : FnOk P w K mg base (CXW P w) 1 T.a_Timing_init T.d_Timing_init ["self"] (spM K mg 1 (fM b_Timing_init 1 1)) := fun_ilT rfl rfl T.F_Timing_init sc_Timing_init fun {X} h1 h2 h3 h4 h5 B hF hsc => by subst h3 h4; exact body_Timing_init T B hF hsc
theorem sc_things_read : FnScope ["row"] ["row"] (defScope s_things_read) := ⟨rfl, rfl, rfl, by decide +kernel, rfl, by decide +kernel, by decide +kernel⟩
theorem body_things_read {X : Cx} (T : Tx X.K X.mg) (B : Bd X ["row"] (defScope s_things_read) 0) (hF : TopF X) (hsc : X.env.scope = defScope s_things_read) : JB X (defBody s_things_read) b_things_read :=
 have v0 {p : Pos} : JE X (.Name "row" p) (eVar 0) := B.jv 0 rfl vis_things_read_0 nk_row
 (jb_cons (js_if (jt_cmp B.eq (B.ixV v0 je_int) je_str) (jb_one (js_ret (je_lst (ja_c rfl (je_tup (ja_c rfl je_str (ja_c rfl (B.ixV v0 je_int) ja_nil))) (ja_c rfl (je_tup (ja_c rfl je_str (ja_c rfl (B.ixV v0 je_int) ja_nil))) ja_nil))))) jb_nil) (jb_cons (js_if (jt_cmp B.eq (B.ixV v0 je_int) je_str) (jb_one (js_ret (je_lst (ja_c rfl (je_tup (ja_c rfl je_str (ja_c rfl (B.ixV v0 je_int) ja_nil))) ja_nil)))) jb_nil) (jb_cons (js_if (jt_cmp (B.inV_ (by with_unfolding_all rfl)) (B.ixV v0 je_int) (je_tup (ja_c rfl je_str (ja_c rfl je_str ja_nil)))) (jb_one (js_ret (je_lst (ja_c rfl (je_tup (ja_c rfl je_str (ja_c rfl (B.ixV v0 je_int) ja_nil))) ja_nil)))) jb_nil) (jb_cons (js_if (jt_cmp B.eq (B.ixV v0 je_int) je_str) (jb_one (js_ret (je_lst (ja_c rfl (je_tup (ja_c rfl je_str (ja_c rfl (B.ixV v0 je_int) ja_nil))) ja_nil)))) jb_nil) (jb_one (js_ret (je_lst ja_nil)))))))
theorem ok_things_read (T : Tx K mg) : FnOk P w K mg base (CXW P w) 1 T.a_things_read T.d_things_read ["row"] (spM K mg 1 (fM b_things_read 1 1)) := fun_ilT rfl rfl T.F_things_read sc_things_read fun {X} h1 h2 h3 h4 h5 B hF hsc => by subst h3 h4; exact body_things_read T B hF hsc
theorem sc_things_written : FnScope ["row"] ["row"] (defScope s_things_written) := ⟨rfl, rfl, rfl, by decide +kernel, rfl, by decide +kernel, by decide +kernel⟩
theorem body_things_written {X : Cx} (T : Tx X.K X.mg) (B : Bd X ["row"] (defScope s_things_written) 0) (hF : TopF X) (hsc : X.env.scope = defScope s_things_written) : JB X (defBody s_things_written) b_things_written :=
 have v0 {p : Pos} : JE X (.Name "row" p) (eVar 0) := B.jv 0 rfl vis_things_written_0 nk_row
 (jb_cons (js_if (jt_cmp (B.inV_ (by with_unfolding_all rfl)) (B.ixV v0 je_int) (je_tup (ja_c rfl je_str (ja_c rfl je_str ja_nil)))) (jb_one (js_ret (je_lst ja_nil))) jb_nil) (jb_cons (js_if (jt_cmp B.eq (B.ixV v0 je_int) je_str) (jb_one (js_ret (je_lst (ja_c rfl (je_tup (ja_c rfl je_str (ja_c rfl (B.ixV v0 je_int) ja_nil))) ja_nil)))) jb_nil) (jb_one (js_ret (je_lst (ja_c rfl (je_tup (ja_c rfl je_str (ja_c rfl (B.ixV v0 je_int) ja_nil))) ja_nil))))))
theorem ok_things_written (T : Tx K mg) : FnOk P w K mg base (CXW P w) 1 T.a_things_written T.d_things_written ["row"] (spM K mg 1 (fM b_things_written 1 1)) := fun_ilT rfl rfl T.F_things_written sc_things_written fun {X} h1 h2 h3 h4 h5 B hF hsc => by subst h3 h4; exact body_things_written T B hF hsc
theorem sc_wait_of : FnScope ["row"] ["row"] (defScope s_wait_of) := ⟨rfl, rfl, rfl, by decide +kernel, rfl, by decide +kernel, by decide +kernel⟩
theorem body_wait_of {X : Cx} (T : Tx X.K X.mg) (B : Bd X ["row"] (defScope s_wait_of) 0) (hF : TopF X) (hsc : X.env.scope = defScope s_wait_of) : JB X (defBody s_wait_of) b_wait_of :=
 have v0 {p : Pos} : JE X (.Name "row" p) (eVar 0) := B.jv 0 rfl vis_wait_of_0 nk_row
 (jb_cons (js_if (jt_cmp B.eq (B.ixV v0 je_int) je_str) (jb_one (js_ret je_int)) jb_nil) (jb_cons (js_if (jt_cmp B.eq (B.ixV v0 je_int) je_str) (jb_one (js_ret je_int)) jb_nil) (jb_cons (js_if (jt_w (jw_and (jt_cmp B.eq (B.ixV v0 je_int) je_str) (jw_one (jt_cmp B.eq (B.ixV v0 je_int) je_str)))) (jb_one (js_ret je_int)) jb_nil) (jb_cons (js_if (jt_w (jw_and (jt_cmp B.eq (B.ixV v0 je_int) je_str) (jw_one (jt_cmp B.eq (B.ixV v0 je_int) je_str)))) (jb_one (js_ret je_int)) jb_nil) (jb_one (js_ret je_int))))))
theorem ok_wait_of (T : Tx K mg) : FnOk P w K mg base (CXW P w) 1 T.a_wait_of T.d_wait_of ["row"] (spM K mg 1 (fM b_wait_of 1 1)) := fun_ilT rfl rfl T.F_wait_of sc_wait_of fun {X} h1 h2 h3 h4 h5 B hF hsc => by subst h3 h4; exact body_wait_of T B hF hsc
theorem sc_timing_behind : FnScope ["timing", "row", "stall", "behind", "waits"] ["timing", "row"] (defScope s_timing_behind) := ⟨rfl, rfl, rfl, by decide +kernel, rfl, by decide +kernel, by decide +kernel⟩
theorem body_timing_behind {X : Cx} (T : Tx X.K X.mg) (B : Bd X ["timing", "row", "stall", "behind", "waits"] (defScope s_timing_behind) 2) (hF : TopF X) (hsc : X.env.scope = defScope s_timing_behind) : JB X (defBody s_timing_behind) b_timing_behind :=
 have v0 {p : Pos} : JE X (.Name "timing" p) (eVar 0) := B.jv 0 rfl vis_timing_behind_0 nk_timing
 have v1 {p : Pos} : JE X (.Name "row" p) (eVar 1) := B.jv 1 rfl vis_timing_behind_1 nk_row
 have v2 {p : Pos} : JE X (.Name "stall" p) (eVar 2) := B.jv 2 rfl vis_timing_behind_2 nk_stall
 have v3 {p : Pos} : JE X (.Name "behind" p) (eVar 3) := B.jv 3 rfl vis_timing_behind_3 nk_behind
 have v4 {p : Pos} : JE X (.Name "waits" p) (eVar 4) := B.jv 4 rfl vis_timing_behind_4 nk_waits
 (jb_cons (B.jset 2 rfl loc_timing_behind_2 rfl (je_blt rfl (by decide +kernel) (by decide +kernel) (call_max_l B.calm) max1W_i (B.gl _ gl_timing_behind_max) T.n_max PyProof.Rows.boot_max (ja_c rfl (je_add (je_comp B.calm (N' := ["thing", "timing"]) (Bd.cap B.hN hsc (by decide +kernel)) (ji_both (je_add (je_cal rfl (by decide +kernel) (ok_things_read T) fM_len (B.room.mono (by decide)) (B.gl _ gl_timing_behind_things_read) T.m_things_read T.F_things_read.kp T.b_things_read (ja_c rfl v1 ja_nil)) (je_cal rfl (by decide +kernel) (ok_things_written T) fM_len (B.room.mono (by decide)) (B.gl _ gl_timing_behind_things_written) T.m_things_written T.F_things_written.kp T.b_things_written (ja_c rfl v1 ja_nil)))) (blkG B T (by decide +kernel) (by decide +kernel) fun {X} B T => (B.jname 0 rfl (.inl rfl))) (blkF B T (by decide +kernel) (by decide +kernel) fun {X} B T => jf_nil) (blkE B T (by decide +kernel) (by decide +kernel) fun {X} B T => (je_mth rfl rfl PySem.F.plainAttrs_dict PySem.F.slot_dict_get PySem.F.type_dict_get (mt_get (hu_of B.room)) isDc_i getW_i (je_fld T.ns_Timing T.cl_Timing T.na_Timing_waits (B.jv 1 rfl (.inr (.inr rfl)) nk_timing)) (ja_c rfl (B.jv 0 rfl (.inl rfl) nk_thing) (ja_c rfl je_int ja_nil))))) (je_lst (ja_c rfl je_int ja_nil))) ja_nil))) (jb_cons (B.jset 3 rfl loc_timing_behind_3 rfl (je_new T.ns_Timing T.mk_Timing (ok_Timing_init T) (B.room.mono (by decide)) (B.gl _ gl_timing_behind_Timing) T.mc_Timing T.b_Timing_init (by decide +kernel))) (jb_cons (js_fld T.ns_Timing T.cl_Timing T.na_Timing_next_beat rfl v3 (je_add (je_add (je_fld T.ns_Timing T.cl_Timing T.na_Timing_next_beat v0) v2) je_int)) (jb_cons (js_fld T.ns_Timing T.cl_Timing T.na_Timing_most rfl v3 (je_blt rfl (by decide +kernel) (by decide +kernel) (call_max2 B.calm) max2W_i (B.gl _ gl_timing_behind_max) T.n_max PyProof.Rows.boot_max (ja_c rfl (je_fld T.ns_Timing T.cl_Timing T.na_Timing_most v0) (ja_c rfl (je_add (je_add (je_fld T.ns_Timing T.cl_Timing T.na_Timing_next_beat v0) v2) (je_cal rfl (by decide +kernel) (ok_wait_of T) fM_len (B.room.mono (by decide)) (B.gl _ gl_timing_behind_wait_of) T.m_wait_of T.F_wait_of.kp T.b_wait_of (ja_c rfl v1 ja_nil))) ja_nil)))) (jb_cons (js_compD (i := 4) (by rw [B.hN]; exact B.nd) (by rw [B.hN]; rfl) (by rw [hsc]; decide +kernel) B.calm (N' := ["thing", "wait", "stall"]) (Bd.cap B.hN hsc (by decide +kernel)) (je_fld T.ns_Timing T.cl_Timing T.na_Timing_waits v0) (blkG B T (by decide +kernel) (by decide +kernel) fun {X} B T => (jg_tup B.calm (jgs_cons (B.jname 0 rfl (.inl rfl)) (jgs_cons (B.jname 1 rfl (.inl rfl)) jgs_nil)))) (blkF B T (by decide +kernel) (by decide +kernel) fun {X} B T => jf_nil) (blkE B T (by decide +kernel) (by decide +kernel) fun {X} B T => (je_tup (ja_c rfl (B.jv 0 rfl (.inl rfl) nk_thing) (ja_c rfl (je_sub (je_sub (B.jv 1 rfl (.inl rfl) nk_wait) (B.jv 2 rfl (.inr (.inr rfl)) nk_stall)) je_int) ja_nil)))) (swaps_yes (by rw [hsc]; rfl) (by rw [hsc]; decide +kernel) rfl (by decide +kernel))) (jb_cons (js_expr rfl (je_mth rfl rfl PySem.F.plainAttrs_list PySem.F.slot_list_extend PySem.F.type_list_extend mt_extend isL_i extendW_i v4 (ja_c rfl (je_comp B.calm (N' := ["thing", "row"]) (Bd.cap B.hN hsc (by decide +kernel)) (ji_both (je_cal rfl (by decide +kernel) (ok_things_written T) fM_len (B.room.mono (by decide)) (B.gl _ gl_timing_behind_things_written) T.m_things_written T.F_things_written.kp T.b_things_written (ja_c rfl v1 ja_nil))) (blkG B T (by decide +kernel) (by decide +kernel) fun {X} B T => (B.jname 0 rfl (.inl rfl))) (blkF B T (by decide +kernel) (by decide +kernel) fun {X} B T => jf_nil) (blkE B T (by decide +kernel) (by decide +kernel) fun {X} B T => (je_tup (ja_c rfl (B.jv 0 rfl (.inl rfl) nk_thing) (ja_c rfl (je_sub (je_cal rfl (by decide +kernel) (ok_wait_of T) fM_len (B.room.mono (by decide)) (B.gl _ rfl) T.m_wait_of T.F_wait_of.kp T.b_wait_of (ja_c rfl (B.jv 1 rfl (.inr (.inr rfl)) nk_row) ja_nil)) je_int) ja_nil))))) ja_nil))) (jb_cons (js_fld T.ns_Timing T.cl_Timing T.na_Timing_waits rfl v3 (je_typ rfl (by decide +kernel) (by decide +kernel) (call_dict B.calm B.room.units) dictW_i (B.gl _ gl_timing_behind_dict) T.n_dict PyProof.Rows.boot_dict (ja_c rfl (je_comp B.calm (N' := ["thing", "wait"]) (Bd.cap B.hN hsc (by decide +kernel)) (ji_both v4) (blkG B T (by decide +kernel) (by decide +kernel) fun {X} B T => (jg_tup B.calm (jgs_cons (B.jname 0 rfl (.inl rfl)) (jgs_cons (B.jname 1 rfl (.inl rfl)) jgs_nil)))) (blkF B T (by decide +kernel) (by decide +kernel) fun {X} B T => (jf_one (jt_cmp cp_gt (B.jv 1 rfl (.inl rfl) nk_wait) je_int))) (blkE B T (by decide +kernel) (by decide +kernel) fun {X} B T => (je_tup (ja_c rfl (B.jv 0 rfl (.inl rfl) nk_thing) (ja_c rfl (B.jv 1 rfl (.inl rfl) nk_wait) ja_nil))))) ja_nil))) (jb_one (js_ret v3)))))))))
theorem ok_timing_behind (T : Tx K mg) : FnOk P w K mg base (CXW P w) 3 T.a_timing_behind T.d_timing_behind ["timing", "row"] (spM K mg 2 (fM b_timing_behind 5 2)) := fun_ilT rfl rfl T.F_timing_behind sc_timing_behind fun {X} h1 h2 h3 h4 h5 B hF hsc => by subst h3 h4; exact body_timing_behind T B hF hsc
theorem sc_timings_of : FnScope ["rows", "timings", "row"] ["rows"] (defScope s_timings_of) := ⟨rfl, rfl, rfl, by decide +kernel, rfl, by decide +kernel, by decide +kernel⟩
theorem body_timings_of {X : Cx} (T : Tx X.K X.mg) (B : Bd X ["rows", "timings", "row"] (defScope s_timings_of) 3) (hF : TopF X) (hsc : X.env.scope = defScope s_timings_of) : JB X (defBody s_timings_of) b_timings_of :=
 have v0 {p : Pos} : JE X (.Name "rows" p) (eVar 0) := B.jv 0 rfl vis_timings_of_0 nk_rows
 have v1 {p : Pos} : JE X (.Name "timings" p) (eVar 1) := B.jv 1 rfl vis_timings_of_1 nk_timings
 have v2 {p : Pos} : JE X (.Name "row" p) (eVar 2) := B.jv 2 rfl vis_timings_of_2 nk_row
 (jb_cons (B.jset 1 rfl loc_timings_of_1 rfl (je_lst (ja_c rfl (je_new T.ns_Timing T.mk_Timing (ok_Timing_init T) (B.room.mono (by decide)) (B.gl _ gl_timings_of_Timing) T.mc_Timing T.b_Timing_init (by decide +kernel)) ja_nil))) (jb_cons (B.jfor (ji_both v0) (B.jname 2 rfl loc_timings_of_2) (jb_one (js_expr rfl (je_mth rfl rfl PySem.F.plainAttrs_list PySem.F.slot_list_append PySem.F.type_list_append mt_append isL_i appendW_i v1 (ja_c rfl (je_cal rfl (by decide +kernel) (ok_timing_behind T) fM_len (B.room.mono (by decide)) (B.gl _ gl_timings_of_timing_behind) T.m_timing_behind T.F_timing_behind.kp T.b_timing_behind (ja_c rfl (B.ixV v1 (je_neg je_int)) (ja_c rfl v2 ja_nil))) ja_nil))))) (jb_one (js_ret v1))))
theorem ok_timings_of (T : Tx K mg) : FnOk P w K mg base (CXW P w) 4 T.a_timings_of T.d_timings_of ["rows"] (spM K mg 1 (fM b_timings_of 3 1)) := fun_ilT rfl rfl T.F_timings_of sc_timings_of fun {X} h1 h2 h3 h4 h5 B hF hsc => by subst h3 h4; exact body_timings_of T B hF hsc
theorem sc_mosts_from : FnScope ["rows", "timings", "mosts", "place", "begin"] ["rows", "timings"] (defScope s_mosts_from) := ⟨rfl, rfl, rfl, by decide +kernel, rfl, by decide +kernel, by decide +kernel⟩
theorem body_mosts_from {X : Cx} (T : Tx X.K X.mg) (B : Bd X ["rows", "timings", "mosts", "place", "begin"] (defScope s_mosts_from) 1) (hF : TopF X) (hsc : X.env.scope = defScope s_mosts_from) : JB X (defBody s_mosts_from) b_mosts_from :=
 have v0 {p : Pos} : JE X (.Name "rows" p) (eVar 0) := B.jv 0 rfl vis_mosts_from_0 nk_rows
 have v1 {p : Pos} : JE X (.Name "timings" p) (eVar 1) := B.jv 1 rfl vis_mosts_from_1 nk_timings
 have v2 {p : Pos} : JE X (.Name "mosts" p) (eVar 2) := B.jv 2 rfl vis_mosts_from_2 nk_mosts
 have v3 {p : Pos} : JE X (.Name "place" p) (eVar 3) := B.jv 3 rfl vis_mosts_from_3 nk_place
 have v4 {p : Pos} : JE X (.Name "begin" p) (eVar 4) := B.jv 4 rfl vis_mosts_from_4 nk_begin
 (jb_cons (js_comp (i := 2) (by rw [B.hN]; exact B.nd) (by rw [B.hN]; rfl) (by rw [hsc]; decide +kernel) B.calm (N' := ["timing"]) (Bd.cap B.hN hsc (by decide +kernel)) (ji_both v1) (blkG B T (by decide +kernel) (by decide +kernel) fun {X} B T => (B.jname 0 rfl (.inl rfl))) (blkF B T (by decide +kernel) (by decide +kernel) fun {X} B T => jf_nil) (blkE B T (by decide +kernel) (by decide +kernel) fun {X} B T => je_int) (swaps_yes (by rw [hsc]; rfl) (by rw [hsc]; decide +kernel) rfl (by decide +kernel))) (jb_cons (B.jfor (ji_range3 (B.gl _ gl_mosts_from_range) T.n_range rfl rfl rfl (ja_c rfl (je_sub (je_blt rfl (by decide +kernel) (by decide +kernel) call_lenW lenW_i (B.gl _ gl_mosts_from_len) T.n_len PySem.boot_len (ja_c rfl v0 ja_nil)) je_int) (ja_c rfl (je_neg je_int) (ja_c rfl (je_neg je_int) ja_nil)))) (B.jname 3 rfl loc_mosts_from_3) (jb_cons (B.jset 4 rfl loc_mosts_from_4 rfl (je_sub (je_fld T.ns_Timing T.cl_Timing T.na_Timing_next_beat (B.ixV v1 (je_add v3 je_int))) je_int)) (jb_one (js_asg (je_blt rfl (by decide +kernel) (by decide +kernel) (call_max2 B.calm) max2W_i (B.gl _ gl_mosts_from_max) T.n_max PyProof.Rows.boot_max (ja_c rfl (B.ixV v2 (je_add v3 je_int)) (ja_c rfl (je_add v4 (je_cal rfl (by decide +kernel) (ok_wait_of T) fM_len (B.room.mono (by decide)) (B.gl _ gl_mosts_from_wait_of) T.m_wait_of T.F_wait_of.kp T.b_wait_of (ja_c rfl (B.ixV v0 v3) ja_nil))) ja_nil))) (B.jg_subV v2 v3))))) (jb_one (js_ret v2))))
theorem ok_mosts_from (T : Tx K mg) : FnOk P w K mg base (CXW P w) 2 T.a_mosts_from T.d_mosts_from ["rows", "timings"] (spM K mg 2 (fM b_mosts_from 5 2)) := fun_ilT rfl rfl T.F_mosts_from sc_mosts_from fun {X} h1 h2 h3 h4 h5 B hF hsc => by subst h3 h4; exact body_mosts_from T B hF hsc
theorem sc_beats_from : FnScope ["rows", "timings", "mosts", "timing", "place"] ["rows", "timings", "mosts", "timing", "place"] (defScope s_beats_from) := ⟨rfl, rfl, rfl, by decide +kernel, rfl, by decide +kernel, by decide +kernel⟩
theorem body_beats_from {X : Cx} (T : Tx X.K X.mg) (B : Bd X ["rows", "timings", "mosts", "timing", "place"] (defScope s_beats_from) 3) (hF : TopF X) (hsc : X.env.scope = defScope s_beats_from) : JB X (defBody s_beats_from) b_beats_from :=
 have v0 {p : Pos} : JE X (.Name "rows" p) (eVar 0) := B.jv 0 rfl vis_beats_from_0 nk_rows
 have v1 {p : Pos} : JE X (.Name "timings" p) (eVar 1) := B.jv 1 rfl vis_beats_from_1 nk_timings
 have v2 {p : Pos} : JE X (.Name "mosts" p) (eVar 2) := B.jv 2 rfl vis_beats_from_2 nk_mosts
 have v3 {p : Pos} : JE X (.Name "timing" p) (eVar 3) := B.jv 3 rfl vis_beats_from_3 nk_timing
 have v4 {p : Pos} : JE X (.Name "place" p) (eVar 4) := B.jv 4 rfl vis_beats_from_4 nk_place
 (jb_cons (B.jwhile (jt_w (jw_and (jt_cmp cp_lt v4 (je_blt rfl (by decide +kernel) (by decide +kernel) call_lenW lenW_i (B.gl _ gl_beats_from_len) T.n_len PySem.boot_len (ja_c rfl v0 ja_nil))) (jw_one (jt_cmp B.neV_ (je_fld T.ns_Timing T.cl_Timing T.na_Timing_waits v3) (je_fld T.ns_Timing T.cl_Timing T.na_Timing_waits (B.ixV v1 v4)))))) (jb_cons (B.jset 3 rfl loc_beats_from_3 rfl (je_cal rfl (by decide +kernel) (ok_timing_behind T) fM_len (B.room.mono (by decide)) (B.gl _ gl_beats_from_timing_behind) T.m_timing_behind T.F_timing_behind.kp T.b_timing_behind (ja_c rfl v3 (ja_c rfl (B.ixV v0 v4) ja_nil)))) (jb_one (B.jaugA 4 rfl loc_beats_from_4 je_int)))) (jb_cons (js_if (jt_cmp B.eq v4 (je_blt rfl (by decide +kernel) (by decide +kernel) call_lenW lenW_i (B.gl _ gl_beats_from_len) T.n_len PySem.boot_len (ja_c rfl v0 ja_nil))) (jb_one (js_ret (je_fld T.ns_Timing T.cl_Timing T.na_Timing_most v3))) jb_nil) (jb_one (js_ret (je_blt rfl (by decide +kernel) (by decide +kernel) (call_max2 B.calm) max2W_i (B.gl _ gl_beats_from_max) T.n_max PyProof.Rows.boot_max (ja_c rfl (je_fld T.ns_Timing T.cl_Timing T.na_Timing_most v3) (ja_c rfl (je_sub (je_add (B.ixV v2 v4) (je_fld T.ns_Timing T.cl_Timing T.na_Timing_next_beat v3)) (je_fld T.ns_Timing T.cl_Timing T.na_Timing_next_beat (B.ixV v1 v4))) ja_nil)))))))
theorem ok_beats_from (T : Tx K mg) : FnOk P w K mg base (CXW P w) 4 T.a_beats_from T.d_beats_from ["rows", "timings", "mosts", "timing", "place"] (spM K mg 5 (fM b_beats_from 5 5)) := fun_ilT rfl rfl T.F_beats_from sc_beats_from fun {X} h1 h2 h3 h4 h5 B hF hsc => by subst h3 h4; exact body_beats_from T B hF hsc
theorem sc_is_outward : FnScope ["row"] ["row"] (defScope s_is_outward) := ⟨rfl, rfl, rfl, by decide +kernel, rfl, by decide +kernel, by decide +kernel⟩
theorem body_is_outward {X : Cx} (T : Tx X.K X.mg) (B : Bd X ["row"] (defScope s_is_outward) 0) (hF : TopF X) (hsc : X.env.scope = defScope s_is_outward) : JB X (defBody s_is_outward) b_is_outward :=
 have v0 {p : Pos} : JE X (.Name "row" p) (eVar 0) := B.jv 0 rfl vis_is_outward_0 nk_row
 (jb_one (js_ret (je_or (je_cmp (B.inV_ (by with_unfolding_all rfl)) (B.ixV v0 je_int) (je_tup (ja_c rfl je_str (ja_c rfl je_str (ja_c rfl je_str ja_nil))))) (je_one (je_and (je_cmp B.eq (B.ixV v0 je_int) je_str) (je_one (je_cmp B.eq (B.ixV v0 je_int) je_str)))))))
theorem ok_is_outward (T : Tx K mg) : FnOk P w K mg base (CXW P w) 1 T.a_is_outward T.d_is_outward ["row"] (spM K mg 1 (fM b_is_outward 1 1)) := fun_ilT rfl rfl T.F_is_outward sc_is_outward fun {X} h1 h2 h3 h4 h5 B hF hsc => by subst h3 h4; exact body_is_outward T B hF hsc
theorem sc_share : FnScope ["some", "others"] ["some", "others"] (defScope s_share) := ⟨rfl, rfl, rfl, by decide +kernel, rfl, by decide +kernel, by decide +kernel⟩
theorem body_share {X : Cx} (T : Tx X.K X.mg) (B : Bd X ["some", "others"] (defScope s_share) 0) (hF : TopF X) (hsc : X.env.scope = defScope s_share) : JB X (defBody s_share) b_share :=
 have v0 {p : Pos} : JE X (.Name "some" p) (eVar 0) := B.jv 0 rfl vis_share_0 nk_some
 (jb_one (js_ret (je_blt rfl (by decide +kernel) (by decide +kernel) (call_any_l B.calm) anyW_i (B.gl _ gl_share_any) T.n_any PyProof.Rows.boot_any (ja_c rfl (je_comp B.calm (N' := ["thing", "others"]) (Bd.cap B.hN hsc (by decide +kernel)) (ji_both v0) (blkG B T (by decide +kernel) (by decide +kernel) fun {X} B T => (B.jname 0 rfl (.inl rfl))) (blkF B T (by decide +kernel) (by decide +kernel) fun {X} B T => jf_nil) (blkE B T (by decide +kernel) (by decide +kernel) fun {X} B T => (je_cmp (B.inV_ (by with_unfolding_all rfl)) (B.jv 0 rfl (.inl rfl) nk_thing) (B.jv 1 rfl (.inr (.inr rfl)) nk_others)))) ja_nil))))
theorem ok_share (T : Tx K mg) : FnOk P w K mg base (CXW P w) 1 T.a_share T.d_share ["some", "others"] (spM K mg 2 (fM b_share 2 2)) := fun_ilT rfl rfl T.F_share sc_share fun {X} h1 h2 h3 h4 h5 B hF hsc => by subst h3 h4; exact body_share T B hF hsc
theorem sc_are_bound : FnScope ["one", "other"] ["one", "other"] (defScope s_are_bound) := ⟨rfl, rfl, rfl, by decide +kernel, rfl, by decide +kernel, by decide +kernel⟩
theorem body_are_bound {X : Cx} (T : Tx X.K X.mg) (B : Bd X ["one", "other"] (defScope s_are_bound) 1) (hF : TopF X) (hsc : X.env.scope = defScope s_are_bound) : JB X (defBody s_are_bound) b_are_bound :=
 have v0 {p : Pos} : JE X (.Name "one" p) (eVar 0) := B.jv 0 rfl vis_are_bound_0 nk_one
 have v1 {p : Pos} : JE X (.Name "other" p) (eVar 1) := B.jv 1 rfl vis_are_bound_1 nk_other
 (jb_cons (js_if (jt_w (jw_and (jt_tru rfl (je_cal rfl (by decide +kernel) (ok_is_outward T) fM_len (B.room.mono (by decide)) (B.gl _ gl_are_bound_is_outward) T.m_is_outward T.F_is_outward.kp T.b_is_outward (ja_c rfl v0 ja_nil))) (jw_one (jt_tru rfl (je_cal rfl (by decide +kernel) (ok_is_outward T) fM_len (B.room.mono (by decide)) (B.gl _ gl_are_bound_is_outward) T.m_is_outward T.F_is_outward.kp T.b_is_outward (ja_c rfl v1 ja_nil)))))) (jb_one (js_ret je_bl)) jb_nil) (jb_cons (js_if (jt_tru rfl (je_cal rfl (by decide +kernel) (ok_share T) fM_len (B.room.mono (by decide)) (B.gl _ gl_are_bound_share) T.m_share T.F_share.kp T.b_share (ja_c rfl (je_cal rfl (by decide +kernel) (ok_things_written T) fM_len (B.room.mono (by decide)) (B.gl _ gl_are_bound_things_written) T.m_things_written T.F_things_written.kp T.b_things_written (ja_c rfl v0 ja_nil)) (ja_c rfl (je_add (je_cal rfl (by decide +kernel) (ok_things_read T) fM_len (B.room.mono (by decide)) (B.gl _ gl_are_bound_things_read) T.m_things_read T.F_things_read.kp T.b_things_read (ja_c rfl v1 ja_nil)) (je_cal rfl (by decide +kernel) (ok_things_written T) fM_len (B.room.mono (by decide)) (B.gl _ gl_are_bound_things_written) T.m_things_written T.F_things_written.kp T.b_things_written (ja_c rfl v1 ja_nil))) ja_nil)))) (jb_one (js_ret je_bl)) jb_nil) (jb_one (js_ret (je_cal rfl (by decide +kernel) (ok_share T) fM_len (B.room.mono (by decide)) (B.gl _ gl_are_bound_share) T.m_share T.F_share.kp T.b_share (ja_c rfl (je_cal rfl (by decide +kernel) (ok_things_written T) fM_len (B.room.mono (by decide)) (B.gl _ gl_are_bound_things_written) T.m_things_written T.F_things_written.kp T.b_things_written (ja_c rfl v1 ja_nil)) (ja_c rfl (je_cal rfl (by decide +kernel) (ok_things_read T) fM_len (B.room.mono (by decide)) (B.gl _ gl_are_bound_things_read) T.m_things_read T.F_things_read.kp T.b_things_read (ja_c rfl v0 ja_nil)) ja_nil)))))))
theorem ok_are_bound (T : Tx K mg) : FnOk P w K mg base (CXW P w) 2 T.a_are_bound T.d_are_bound ["one", "other"] (spM K mg 2 (fM b_are_bound 2 2)) := fun_ilT rfl rfl T.F_are_bound sc_are_bound fun {X} h1 h2 h3 h4 h5 B hF hsc => by subst h3 h4; exact body_are_bound T B hF hsc
theorem sc_improved : FnScope ["rows", "timings", "mosts", "told", "fewest", "timing", "place", "one", "other", "exchanged", "needed"] ["rows"] (defScope s_improved) := ⟨rfl, rfl, rfl, by decide +kernel, rfl, by decide +kernel, by decide +kernel⟩
theorem body_improved {X : Cx} (T : Tx X.K X.mg) (B : Bd X ["rows", "timings", "mosts", "told", "fewest", "timing", "place", "one", "other", "exchanged", "needed"] (defScope s_improved) 4) (hF : TopF X) (hsc : X.env.scope = defScope s_improved) : JB X (defBody s_improved) b_improved :=
 have v0 {p : Pos} : JE X (.Name "rows" p) (eVar 0) := B.jv 0 rfl vis_improved_0 nk_rows
 have v1 {p : Pos} : JE X (.Name "timings" p) (eVar 1) := B.jv 1 rfl vis_improved_1 nk_timings
 have v2 {p : Pos} : JE X (.Name "mosts" p) (eVar 2) := B.jv 2 rfl vis_improved_2 nk_mosts
 have v3 {p : Pos} : JE X (.Name "told" p) (eVar 3) := B.jv 3 rfl vis_improved_3 nk_told
 have v4 {p : Pos} : JE X (.Name "fewest" p) (eVar 4) := B.jv 4 rfl vis_improved_4 nk_fewest
 have v5 {p : Pos} : JE X (.Name "timing" p) (eVar 5) := B.jv 5 rfl vis_improved_5 nk_timing
 have v6 {p : Pos} : JE X (.Name "place" p) (eVar 6) := B.jv 6 rfl vis_improved_6 nk_place
 have v7 {p : Pos} : JE X (.Name "one" p) (eVar 7) := B.jv 7 rfl vis_improved_7 nk_one
 have v8 {p : Pos} : JE X (.Name "other" p) (eVar 8) := B.jv 8 rfl vis_improved_8 nk_other
 have v9 {p : Pos} : JE X (.Name "exchanged" p) (eVar 9) := B.jv 9 rfl vis_improved_9 nk_exchanged
 have v10 {p : Pos} : JE X (.Name "needed" p) (eVar 10) := B.jv 10 rfl vis_improved_10 nk_needed
 (jb_cons (B.jset 1 rfl loc_improved_1 rfl (je_cal rfl (by decide +kernel) (ok_timings_of T) fM_len (B.room.mono (by decide)) (B.gl _ gl_improved_timings_of) T.m_timings_of T.F_timings_of.kp T.b_timings_of (ja_c rfl v0 ja_nil))) (jb_cons (B.jset 2 rfl loc_improved_2 rfl (je_cal rfl (by decide +kernel) (ok_mosts_from T) fM_len (B.room.mono (by decide)) (B.gl _ gl_improved_mosts_from) T.m_mosts_from T.F_mosts_from.kp T.b_mosts_from (ja_c rfl v0 (ja_c rfl v1 ja_nil)))) (jb_cons (B.jset 3 rfl loc_improved_3 rfl (je_typ rfl (by decide +kernel) (by decide +kernel) call_list_of listW_i (B.gl _ gl_improved_list) T.n_list PyProof.Rows.boot_list (ja_c rfl v0 ja_nil))) (jb_cons (B.jset 4 rfl loc_improved_4 rfl (je_fld T.ns_Timing T.cl_Timing T.na_Timing_most (B.ixV v1 (je_neg je_int)))) (jb_cons (B.jset 5 rfl loc_improved_5 rfl (je_new T.ns_Timing T.mk_Timing (ok_Timing_init T) (B.room.mono (by decide)) (B.gl _ gl_improved_Timing) T.mc_Timing T.b_Timing_init (by decide +kernel))) (jb_cons (B.jfor (ji_range1 (B.gl _ gl_improved_range) T.n_range rfl (ja_c rfl (je_sub (je_blt rfl (by decide +kernel) (by decide +kernel) call_lenW lenW_i (B.gl _ gl_improved_len) T.n_len PySem.boot_len (ja_c rfl v0 ja_nil)) je_int) ja_nil)) (B.jname 6 rfl loc_improved_6) (jb_cons (B.jset 7 rfl loc_improved_7 rfl (B.ixV v3 v6)) (jb_cons (B.jset 8 rfl loc_improved_8 rfl (B.ixV v3 (je_add v6 je_int))) (jb_cons (B.jset 9 rfl loc_improved_9 rfl (je_cal rfl (by decide +kernel) (ok_timing_behind T) fM_len (B.room.mono (by decide)) (B.gl _ gl_improved_timing_behind) T.m_timing_behind T.F_timing_behind.kp T.b_timing_behind (ja_c rfl (je_cal rfl (by decide +kernel) (ok_timing_behind T) fM_len (B.room.mono (by decide)) (B.gl _ gl_improved_timing_behind) T.m_timing_behind T.F_timing_behind.kp T.b_timing_behind (ja_c rfl v5 (ja_c rfl v8 ja_nil))) (ja_c rfl v7 ja_nil)))) (jb_cons (B.jset 10 rfl loc_improved_10 rfl (je_cal rfl (by decide +kernel) (ok_beats_from T) fM_len (B.room.mono (by decide)) (B.gl _ gl_improved_beats_from) T.m_beats_from T.F_beats_from.kp T.b_beats_from (ja_c rfl v0 (ja_c rfl v1 (ja_c rfl v2 (ja_c rfl v9 (ja_c rfl (je_add v6 je_int) ja_nil))))))) (jb_cons (js_if (jt_w (jw_and (jt_cmp cp_lt v10 v4) (jw_one (jt_not (jt_tru rfl (je_cal rfl (by decide +kernel) (ok_are_bound T) fM_len (B.room.mono (by decide)) (B.gl _ gl_improved_are_bound) T.m_are_bound T.F_are_bound.kp T.b_are_bound (ja_c rfl v7 (ja_c rfl v8 ja_nil)))))))) (jb_cons (js_asg v8 (B.jg_subV v3 v6)) (jb_cons (js_asg v7 (B.jg_subV v3 (je_add v6 je_int))) (jb_one (B.jset 4 rfl loc_improved_4 rfl v10)))) jb_nil) (jb_one (B.jset 5 rfl loc_improved_5 rfl (je_cal rfl (by decide +kernel) (ok_timing_behind T) fM_len (B.room.mono (by decide)) (B.gl _ gl_improved_timing_behind) T.m_timing_behind T.F_timing_behind.kp T.b_timing_behind (ja_c rfl v5 (ja_c rfl (B.ixV v3 v6) ja_nil))))))))))) (jb_one (js_ret v3))))))))
theorem ok_improved (T : Tx K mg) : FnOk P w K mg base (CXW P w) 5 T.a_improved T.d_improved ["rows"] (spM K mg 1 (fM b_improved 11 1)) := fun_ilT rfl rfl T.F_improved sc_improved fun {X} h1 h2 h3 h4 h5 B hF hsc => by subst h3 h4; exact body_improved T B hF hsc
theorem sc_ordered : FnScope ["rows", "told", "fewer"] ["rows"] (defScope s_ordered) := ⟨rfl, rfl, rfl, by decide +kernel, rfl, by decide +kernel, by decide +kernel⟩
theorem body_ordered {X : Cx} (T : Tx X.K X.mg) (B : Bd X ["rows", "told", "fewer"] (defScope s_ordered) 5) (hF : TopF X) (hsc : X.env.scope = defScope s_ordered) : JB X (defBody s_ordered) b_ordered :=
 have v0 {p : Pos} : JE X (.Name "rows" p) (eVar 0) := B.jv 0 rfl vis_ordered_0 nk_rows
 have v1 {p : Pos} : JE X (.Name "told" p) (eVar 1) := B.jv 1 rfl vis_ordered_1 nk_told
 have v2 {p : Pos} : JE X (.Name "fewer" p) (eVar 2) := B.jv 2 rfl vis_ordered_2 nk_fewer
 (jb_cons (B.jset 1 rfl loc_ordered_1 rfl (je_typ rfl (by decide +kernel) (by decide +kernel) call_list_of listW_i (B.gl _ gl_ordered_list) T.n_list PyProof.Rows.boot_list (ja_c rfl v0 ja_nil))) (jb_cons (B.jset 2 rfl loc_ordered_2 rfl (je_cal rfl (by decide +kernel) (ok_improved T) fM_len (B.room.mono (by decide)) (B.gl _ gl_ordered_improved) T.m_improved T.F_improved.kp T.b_improved (ja_c rfl v1 ja_nil))) (jb_cons (B.jwhile (jt_cmp B.ne v2 v1) (jb_cons (B.jset 1 rfl loc_ordered_1 rfl v2) (jb_one (B.jset 2 rfl loc_ordered_2 rfl (je_cal rfl (by decide +kernel) (ok_improved T) fM_len (B.room.mono (by decide)) (B.gl _ gl_ordered_improved) T.m_improved T.F_improved.kp T.b_improved (ja_c rfl v1 ja_nil)))))) (jb_one (js_ret v1)))))
theorem ok_ordered (T : Tx K mg) : FnOk P w K mg base (CXW P w) 6 T.a_ordered T.d_ordered ["rows"] (spM K mg 1 (fM b_ordered 3 1)) := fun_ilT rfl rfl T.F_ordered sc_ordered fun {X} h1 h2 h3 h4 h5 B hF hsc => by subst h3 h4; exact body_ordered T B hF hsc
theorem sc_law : FnScope ["_law_script", "_law_many", "_law_boxes", "_law_slots", "_law_rows", "_law_inputs", "_law_turns", "_law_first", "_law_second", "_law_k", "_law_due"] ["_law_script"] (defScope s_law) := ⟨rfl, rfl, rfl, by decide +kernel, rfl, by decide +kernel, by decide +kernel⟩
theorem body_law {X : Cx} (T : Tx X.K X.mg) (B : Bd X ["_law_script", "_law_many", "_law_boxes", "_law_slots", "_law_rows", "_law_inputs", "_law_turns", "_law_first", "_law_second", "_law_k", "_law_due"] (defScope s_law) 6) (hF : TopF X) (hsc : X.env.scope = defScope s_law) : JB X (defBody s_law) b_law :=
 have v0 {p : Pos} : JE X (.Name "_law_script" p) (eVar 0) := B.jv 0 rfl vis_law_0 nk_law_script
 have v1 {p : Pos} : JE X (.Name "_law_many" p) (eVar 1) := B.jv 1 rfl vis_law_1 nk_law_many
 have v2 {p : Pos} : JE X (.Name "_law_boxes" p) (eVar 2) := B.jv 2 rfl vis_law_2 nk_law_boxes
 have v3 {p : Pos} : JE X (.Name "_law_slots" p) (eVar 3) := B.jv 3 rfl vis_law_3 nk_law_slots
 have v4 {p : Pos} : JE X (.Name "_law_rows" p) (eVar 4) := B.jv 4 rfl vis_law_4 nk_law_rows
 have v5 {p : Pos} : JE X (.Name "_law_inputs" p) (eVar 5) := B.jv 5 rfl vis_law_5 nk_law_inputs
 have v6 {p : Pos} : JE X (.Name "_law_turns" p) (eVar 6) := B.jv 6 rfl vis_law_6 nk_law_turns
 have v7 {p : Pos} : JE X (.Name "_law_first" p) (eVar 7) := B.jv 7 rfl vis_law_7 nk_law_first
 have v8 {p : Pos} : JE X (.Name "_law_second" p) (eVar 8) := B.jv 8 rfl vis_law_8 nk_law_second
 have v9 {p : Pos} : JE X (.Name "_law_k" p) (eVar 9) := B.jv 9 rfl vis_law_9 nk_law_k
 have v10 {p : Pos} : JE X (.Name "_law_due" p) (eVar 10) := B.jv 10 rfl vis_law_10 nk_law_due
 (jb_cons (B.jset 1 rfl loc_law_1 rfl (je_mod (je_cal rfl (by decide +kernel) (ok_law_cell_at T) fM_len (B.room.mono (by decide)) (B.gl _ gl_law_law_cell_at) T.m_law_cell_at T.F_law_cell_at.kp T.b_law_cell_at (ja_c rfl v0 (ja_c rfl je_int ja_nil))) je_int)) (jb_cons (js_if (jt_cmp B.eq (je_mod (je_div (je_cal rfl (by decide +kernel) (ok_law_cell_at T) fM_len (B.room.mono (by decide)) (B.gl _ gl_law_law_cell_at) T.m_law_cell_at T.F_law_cell_at.kp T.b_law_cell_at (ja_c rfl v0 (ja_c rfl je_int ja_nil))) je_int) je_int) je_int) (jb_one (B.jset 1 rfl loc_law_1 rfl (je_add je_int (je_mod (je_div (je_cal rfl (by decide +kernel) (ok_law_cell_at T) fM_len (B.room.mono (by decide)) (B.gl _ gl_law_law_cell_at) T.m_law_cell_at T.F_law_cell_at.kp T.b_law_cell_at (ja_c rfl v0 (ja_c rfl je_int ja_nil))) je_int) je_int)))) jb_nil) (jb_cons (B.jset 2 rfl loc_law_2 rfl (je_add je_int (je_mod (je_cal rfl (by decide +kernel) (ok_law_cell_at T) fM_len (B.room.mono (by decide)) (B.gl _ gl_law_law_cell_at) T.m_law_cell_at T.F_law_cell_at.kp T.b_law_cell_at (ja_c rfl v0 (ja_c rfl je_int ja_nil))) je_int))) (jb_cons (B.jset 3 rfl loc_law_3 rfl (je_add je_int (je_mod (je_div (je_cal rfl (by decide +kernel) (ok_law_cell_at T) fM_len (B.room.mono (by decide)) (B.gl _ gl_law_law_cell_at) T.m_law_cell_at T.F_law_cell_at.kp T.b_law_cell_at (ja_c rfl v0 (ja_c rfl je_int ja_nil))) je_int) je_int))) (jb_cons (js_if (jt_cmp B.eq (je_mod (je_div (je_cal rfl (by decide +kernel) (ok_law_cell_at T) fM_len (B.room.mono (by decide)) (B.gl _ gl_law_law_cell_at) T.m_law_cell_at T.F_law_cell_at.kp T.b_law_cell_at (ja_c rfl v0 (ja_c rfl je_int ja_nil))) je_int) je_int) je_int) (jb_cons (B.jset 2 rfl loc_law_2 rfl je_int) (jb_one (B.jset 3 rfl loc_law_3 rfl je_int))) jb_nil) (jb_cons (js_comp (i := 4) (by rw [B.hN]; exact B.nd) (by rw [B.hN]; rfl) (by rw [hsc]; decide +kernel) B.calm (N' := ["_law_k", "_law_boxes", "_law_slots", "_law_script"]) (Bd.cap B.hN hsc (by decide +kernel)) (ji_range1 (B.gl _ gl_law_range) T.n_range rfl (ja_c rfl v1 ja_nil)) (blkG B T (by decide +kernel) (by decide +kernel) fun {X} B T => (B.jname 0 rfl (.inl rfl))) (blkF B T (by decide +kernel) (by decide +kernel) fun {X} B T => jf_nil) (blkE B T (by decide +kernel) (by decide +kernel) fun {X} B T => (je_cal rfl (by decide +kernel) (ok_law_row_by T) fM_len (B.room.mono (by decide)) (B.gl _ rfl) T.m_law_row_by T.F_law_row_by.kp T.b_law_row_by (ja_c rfl (je_add (je_cal rfl (by decide +kernel) (ok_law_cell_at T) fM_len (B.room.mono (by decide)) (B.gl _ rfl) T.m_law_cell_at T.F_law_cell_at.kp T.b_law_cell_at (ja_c rfl (B.jv 3 rfl (.inr (.inr rfl)) nk_law_script) (ja_c rfl (je_add je_int (B.jv 0 rfl (.inl rfl) nk_law_k)) ja_nil))) (je_mulV je_int (je_div (B.jv 0 rfl (.inl rfl) nk_law_k) je_int))) (ja_c rfl (B.jv 1 rfl (.inr (.inr rfl)) nk_law_boxes) (ja_c rfl (B.jv 2 rfl (.inr (.inr rfl)) nk_law_slots) ja_nil))))) (swaps_yes (by rw [hsc]; rfl) (by rw [hsc]; decide +kernel) rfl (by decide +kernel))) (jb_cons (js_comp (i := 5) (by rw [B.hN]; exact B.nd) (by rw [B.hN]; rfl) (by rw [hsc]; decide +kernel) B.calm (N' := ["_law_k", "_law_script"]) (Bd.cap B.hN hsc (by decide +kernel)) (ji_range1 (B.gl _ gl_law_range) T.n_range rfl (ja_c rfl (je_mod (je_cal rfl (by decide +kernel) (ok_law_cell_at T) fM_len (B.room.mono (by decide)) (B.gl _ gl_law_law_cell_at) T.m_law_cell_at T.F_law_cell_at.kp T.b_law_cell_at (ja_c rfl v0 (ja_c rfl je_int ja_nil))) je_int) ja_nil)) (blkG B T (by decide +kernel) (by decide +kernel) fun {X} B T => (B.jname 0 rfl (.inl rfl))) (blkF B T (by decide +kernel) (by decide +kernel) fun {X} B T => jf_nil) (blkE B T (by decide +kernel) (by decide +kernel) fun {X} B T => (je_cal rfl (by decide +kernel) (ok_law_number_by T) fM_len (B.room.mono (by decide)) (B.gl _ rfl) T.m_law_number_by T.F_law_number_by.kp T.b_law_number_by (ja_c rfl (je_cal rfl (by decide +kernel) (ok_law_cell_at T) fM_len (B.room.mono (by decide)) (B.gl _ rfl) T.m_law_cell_at T.F_law_cell_at.kp T.b_law_cell_at (ja_c rfl (B.jv 1 rfl (.inr (.inr rfl)) nk_law_script) (ja_c rfl (je_add je_int (B.jv 0 rfl (.inl rfl) nk_law_k)) ja_nil))) ja_nil))) (swaps_yes (by rw [hsc]; rfl) (by rw [hsc]; decide +kernel) rfl (by decide +kernel))) (jb_cons (B.jset 6 rfl loc_law_6 rfl (je_mod (je_div (je_cal rfl (by decide +kernel) (ok_law_cell_at T) fM_len (B.room.mono (by decide)) (B.gl _ gl_law_law_cell_at) T.m_law_cell_at T.F_law_cell_at.kp T.b_law_cell_at (ja_c rfl v0 (ja_c rfl je_int ja_nil))) je_int) je_int)) (jb_cons (B.jset 7 rfl loc_law_7 rfl je_dct) (jb_cons (B.jset 8 rfl loc_law_8 rfl je_dct) (jb_cons (B.jfor (ji_range1 (B.gl _ gl_law_range) T.n_range rfl (ja_c rfl v2 ja_nil)) (B.jname 9 rfl loc_law_9) (jb_one (js_asg (je_cal rfl (by decide +kernel) (ok_law_number_by T) fM_len (B.room.mono (by decide)) (B.gl _ gl_law_law_number_by) T.m_law_number_by T.F_law_number_by.kp T.b_law_number_by (ja_c rfl (je_cal rfl (by decide +kernel) (ok_law_cell_at T) fM_len (B.room.mono (by decide)) (B.gl _ gl_law_law_cell_at) T.m_law_cell_at T.F_law_cell_at.kp T.b_law_cell_at (ja_c rfl v0 (ja_c rfl (je_add je_int v9) ja_nil))) ja_nil)) (B.jg_subV v7 v9)))) (jb_cons (B.jfor (ji_range1 (B.gl _ gl_law_range) T.n_range rfl (ja_c rfl v3 ja_nil)) (B.jname 9 rfl loc_law_9) (jb_one (js_asg (je_cal rfl (by decide +kernel) (ok_law_number_by T) fM_len (B.room.mono (by decide)) (B.gl _ gl_law_law_number_by) T.m_law_number_by T.F_law_number_by.kp T.b_law_number_by (ja_c rfl (je_cal rfl (by decide +kernel) (ok_law_cell_at T) fM_len (B.room.mono (by decide)) (B.gl _ gl_law_law_cell_at) T.m_law_cell_at T.F_law_cell_at.kp T.b_law_cell_at (ja_c rfl v0 (ja_c rfl (je_add je_int v9) ja_nil))) ja_nil)) (B.jg_subV v8 v9)))) (jb_cons (B.jset 10 rfl loc_law_10 rfl (je_cal rfl (by decide +kernel) (ok_law_run T) fM_len (B.room.mono (by decide)) (B.gl _ gl_law_law_run) T.m_law_run T.F_law_run.kp T.b_law_run (ja_c rfl v4 (ja_c rfl (je_typ rfl (by decide +kernel) (by decide +kernel) (CallR.or (call_dict B.calm B.room.units) call_dictC) dictV_i (B.gl _ gl_law_dict) T.n_dict PyProof.Rows.boot_dict (ja_c rfl v7 ja_nil)) (ja_c rfl (je_typ rfl (by decide +kernel) (by decide +kernel) (CallR.or (call_dict B.calm B.room.units) call_dictC) dictV_i (B.gl _ gl_law_dict) T.n_dict PyProof.Rows.boot_dict (ja_c rfl v8 ja_nil)) (ja_c rfl v5 (ja_c rfl v6 ja_nil))))))) (jb_one (js_ret (je_cmp B.eqV_ (je_cal rfl (by decide +kernel) (ok_law_run T) fM_len (B.room.mono (by decide)) (B.gl _ gl_law_law_run) T.m_law_run T.F_law_run.kp T.b_law_run (ja_c rfl (je_cal rfl (by decide +kernel) (ok_ordered T) fM_len (B.room.mono (by decide)) (B.gl _ gl_law_ordered) T.m_ordered T.F_ordered.kp T.b_ordered (ja_c rfl (je_typ rfl (by decide +kernel) (by decide +kernel) call_list_of listW_i (B.gl _ gl_law_list) T.n_list PyProof.Rows.boot_list (ja_c rfl v4 ja_nil)) ja_nil)) (ja_c rfl (je_typ rfl (by decide +kernel) (by decide +kernel) (CallR.or (call_dict B.calm B.room.units) call_dictC) dictV_i (B.gl _ gl_law_dict) T.n_dict PyProof.Rows.boot_dict (ja_c rfl v7 ja_nil)) (ja_c rfl (je_typ rfl (by decide +kernel) (by decide +kernel) (CallR.or (call_dict B.calm B.room.units) call_dictC) dictV_i (B.gl _ gl_law_dict) T.n_dict PyProof.Rows.boot_dict (ja_c rfl v8 ja_nil)) (ja_c rfl v5 (ja_c rfl v6 ja_nil)))))) v10))))))))))))))))
theorem ok_law (T : Tx K mg) : FnOk P w K mg base (CXW P w) 7 T.a_law T.d_law ["_law_script"] (spM K mg 1 (fM b_law 11 1)) := fun_ilT rfl rfl T.F_law sc_law fun {X} h1 h2 h3 h4 h5 B hF hsc => by subst h3 h4; exact body_law T B hF hsc
end
theorem all_mk {l : PySem.W.OpenLaw} {w : World} {K : PySem.W.Frag} {h : Heap} {mg : Str -> Option Value} {fa : Addr} (KX : K.In h) (G : h.Ns mainGlobals mg) (hfa : mg "law" = some (.ref fa))
  {f_law_cell_at_ : Addr} {od_law_cell_at an_law_cell_at : Option Addr} {sl_law_cell_at : Array (Option Value)} {oc_law_cell_at kV_law_cell_at dc_law_cell_at pm_law_cell_at cd_law_cell_at ct_law_cell_at : Value}
  {f_law_number_by_ : Addr} {od_law_number_by an_law_number_by : Option Addr} {sl_law_number_by : Array (Option Value)} {oc_law_number_by kV_law_number_by dc_law_number_by pm_law_number_by cd_law_number_by ct_law_number_by : Value}
  {f_law_row_by_ : Addr} {od_law_row_by an_law_row_by : Option Addr} {sl_law_row_by : Array (Option Value)} {oc_law_row_by kV_law_row_by dc_law_row_by pm_law_row_by cd_law_row_by ct_law_row_by : Value}
  {f_law_fit_ : Addr} {od_law_fit an_law_fit : Option Addr} {sl_law_fit : Array (Option Value)} {oc_law_fit kV_law_fit dc_law_fit pm_law_fit cd_law_fit ct_law_fit : Value}
  {f_law_deed_ : Addr} {od_law_deed an_law_deed : Option Addr} {sl_law_deed : Array (Option Value)} {oc_law_deed kV_law_deed dc_law_deed pm_law_deed cd_law_deed ct_law_deed : Value}
  {f_law_box_row_ : Addr} {od_law_box_row an_law_box_row : Option Addr} {sl_law_box_row : Array (Option Value)} {oc_law_box_row kV_law_box_row dc_law_box_row pm_law_box_row cd_law_box_row ct_law_box_row : Value}
  {f_law_run_ : Addr} {od_law_run an_law_run : Option Addr} {sl_law_run : Array (Option Value)} {oc_law_run kV_law_run dc_law_run pm_law_run cd_law_run ct_law_run : Value}
  {f_Timing_init_ : Addr} {od_Timing_init an_Timing_init : Option Addr} {sl_Timing_init : Array (Option Value)} {oc_Timing_init kV_Timing_init dc_Timing_init pm_Timing_init cd_Timing_init ct_Timing_init : Value}
  {f_things_read_ : Addr} {od_things_read an_things_read : Option Addr} {sl_things_read : Array (Option Value)} {oc_things_read kV_things_read dc_things_read pm_things_read cd_things_read ct_things_read : Value}
  {f_things_written_ : Addr} {od_things_written an_things_written : Option Addr} {sl_things_written : Array (Option Value)} {oc_things_written kV_things_written dc_things_written pm_things_written cd_things_written ct_things_written : Value}
  {f_wait_of_ : Addr} {od_wait_of an_wait_of : Option Addr} {sl_wait_of : Array (Option Value)} {oc_wait_of kV_wait_of dc_wait_of pm_wait_of cd_wait_of ct_wait_of : Value}
  {f_timing_behind_ : Addr} {od_timing_behind an_timing_behind : Option Addr} {sl_timing_behind : Array (Option Value)} {oc_timing_behind kV_timing_behind dc_timing_behind pm_timing_behind cd_timing_behind ct_timing_behind : Value}
  {f_timings_of_ : Addr} {od_timings_of an_timings_of : Option Addr} {sl_timings_of : Array (Option Value)} {oc_timings_of kV_timings_of dc_timings_of pm_timings_of cd_timings_of ct_timings_of : Value}
  {f_mosts_from_ : Addr} {od_mosts_from an_mosts_from : Option Addr} {sl_mosts_from : Array (Option Value)} {oc_mosts_from kV_mosts_from dc_mosts_from pm_mosts_from cd_mosts_from ct_mosts_from : Value}
  {f_beats_from_ : Addr} {od_beats_from an_beats_from : Option Addr} {sl_beats_from : Array (Option Value)} {oc_beats_from kV_beats_from dc_beats_from pm_beats_from cd_beats_from ct_beats_from : Value}
  {f_is_outward_ : Addr} {od_is_outward an_is_outward : Option Addr} {sl_is_outward : Array (Option Value)} {oc_is_outward kV_is_outward dc_is_outward pm_is_outward cd_is_outward ct_is_outward : Value}
  {f_share_ : Addr} {od_share an_share : Option Addr} {sl_share : Array (Option Value)} {oc_share kV_share dc_share pm_share cd_share ct_share : Value}
  {f_are_bound_ : Addr} {od_are_bound an_are_bound : Option Addr} {sl_are_bound : Array (Option Value)} {oc_are_bound kV_are_bound dc_are_bound pm_are_bound cd_are_bound ct_are_bound : Value}
  {f_improved_ : Addr} {od_improved an_improved : Option Addr} {sl_improved : Array (Option Value)} {oc_improved kV_improved dc_improved pm_improved cd_improved ct_improved : Value}
  {f_ordered_ : Addr} {od_ordered an_ordered : Option Addr} {sl_ordered : Array (Option Value)} {oc_ordered kV_ordered dc_ordered pm_ordered cd_ordered ct_ordered : Value}
  {f_law_ : Addr} {od_law an_law : Option Addr} {sl_law : Array (Option Value)} {oc_law kV_law dc_law pm_law cd_law ct_law : Value}
  {q_Timing : Addr}
  (a_law_cell_at : PySem.W.nsIn K mainGlobals "_law_cell_at" = some (some (.ref f_law_cell_at_)))
  (l_law_cell_at : K.lookup f_law_cell_at_ = some ⟨oc_law_cell_at, od_law_cell_at, .func (PySem.W.fnOf "_law_cell_at" "_law_cell_at" (defArgs s_law_cell_at) (defBody s_law_cell_at) (defScope s_law_cell_at) .none kV_law_cell_at dc_law_cell_at pm_law_cell_at an_law_cell_at cd_law_cell_at ct_law_cell_at), sl_law_cell_at⟩)
  (c_law_cell_at : PySem.W.codeIn K cd_law_cell_at "_law_cell_at" = true)
  (k_law_cell_at : PySem.W.keepIn K (.ref f_law_cell_at_) = true)
  (a_law_number_by : PySem.W.nsIn K mainGlobals "_law_number_by" = some (some (.ref f_law_number_by_)))
  (l_law_number_by : K.lookup f_law_number_by_ = some ⟨oc_law_number_by, od_law_number_by, .func (PySem.W.fnOf "_law_number_by" "_law_number_by" (defArgs s_law_number_by) (defBody s_law_number_by) (defScope s_law_number_by) .none kV_law_number_by dc_law_number_by pm_law_number_by an_law_number_by cd_law_number_by ct_law_number_by), sl_law_number_by⟩)
  (c_law_number_by : PySem.W.codeIn K cd_law_number_by "_law_number_by" = true)
  (k_law_number_by : PySem.W.keepIn K (.ref f_law_number_by_) = true)
  (a_law_row_by : PySem.W.nsIn K mainGlobals "_law_row_by" = some (some (.ref f_law_row_by_)))
  (l_law_row_by : K.lookup f_law_row_by_ = some ⟨oc_law_row_by, od_law_row_by, .func (PySem.W.fnOf "_law_row_by" "_law_row_by" (defArgs s_law_row_by) (defBody s_law_row_by) (defScope s_law_row_by) .none kV_law_row_by dc_law_row_by pm_law_row_by an_law_row_by cd_law_row_by ct_law_row_by), sl_law_row_by⟩)
  (c_law_row_by : PySem.W.codeIn K cd_law_row_by "_law_row_by" = true)
  (k_law_row_by : PySem.W.keepIn K (.ref f_law_row_by_) = true)
  (a_law_fit : PySem.W.nsIn K mainGlobals "_law_fit" = some (some (.ref f_law_fit_)))
  (l_law_fit : K.lookup f_law_fit_ = some ⟨oc_law_fit, od_law_fit, .func (PySem.W.fnOf "_law_fit" "_law_fit" (defArgs s_law_fit) (defBody s_law_fit) (defScope s_law_fit) .none kV_law_fit dc_law_fit pm_law_fit an_law_fit cd_law_fit ct_law_fit), sl_law_fit⟩)
  (c_law_fit : PySem.W.codeIn K cd_law_fit "_law_fit" = true)
  (k_law_fit : PySem.W.keepIn K (.ref f_law_fit_) = true)
  (a_law_deed : PySem.W.nsIn K mainGlobals "_law_deed" = some (some (.ref f_law_deed_)))
  (l_law_deed : K.lookup f_law_deed_ = some ⟨oc_law_deed, od_law_deed, .func (PySem.W.fnOf "_law_deed" "_law_deed" (defArgs s_law_deed) (defBody s_law_deed) (defScope s_law_deed) .none kV_law_deed dc_law_deed pm_law_deed an_law_deed cd_law_deed ct_law_deed), sl_law_deed⟩)
  (c_law_deed : PySem.W.codeIn K cd_law_deed "_law_deed" = true)
  (k_law_deed : PySem.W.keepIn K (.ref f_law_deed_) = true)
  (a_law_box_row : PySem.W.nsIn K mainGlobals "_law_box_row" = some (some (.ref f_law_box_row_)))
  (l_law_box_row : K.lookup f_law_box_row_ = some ⟨oc_law_box_row, od_law_box_row, .func (PySem.W.fnOf "_law_box_row" "_law_box_row" (defArgs s_law_box_row) (defBody s_law_box_row) (defScope s_law_box_row) .none kV_law_box_row dc_law_box_row pm_law_box_row an_law_box_row cd_law_box_row ct_law_box_row), sl_law_box_row⟩)
  (c_law_box_row : PySem.W.codeIn K cd_law_box_row "_law_box_row" = true)
  (k_law_box_row : PySem.W.keepIn K (.ref f_law_box_row_) = true)
  (a_law_run : PySem.W.nsIn K mainGlobals "_law_run" = some (some (.ref f_law_run_)))
  (l_law_run : K.lookup f_law_run_ = some ⟨oc_law_run, od_law_run, .func (PySem.W.fnOf "_law_run" "_law_run" (defArgs s_law_run) (defBody s_law_run) (defScope s_law_run) .none kV_law_run dc_law_run pm_law_run an_law_run cd_law_run ct_law_run), sl_law_run⟩)
  (c_law_run : PySem.W.codeIn K cd_law_run "_law_run" = true)
  (k_law_run : PySem.W.keepIn K (.ref f_law_run_) = true)
  (a_Timing_init : PySem.W.findIn K (.ref q_Timing) "__init__" = some (some (.ref f_Timing_init_)))
  (i_Timing_init : PySem.W.isFn K (.ref f_Timing_init_) = true)
  (l_Timing_init : K.lookup f_Timing_init_ = some ⟨oc_Timing_init, od_Timing_init, .func (PySem.W.fnOf "__init__" "Timing.__init__" (defArgs s_Timing_init) (defBody s_Timing_init) (defScope s_Timing_init) .none kV_Timing_init dc_Timing_init pm_Timing_init an_Timing_init cd_Timing_init ct_Timing_init), sl_Timing_init⟩)
  (c_Timing_init : PySem.W.codeIn K cd_Timing_init "Timing.__init__" = true)
  (k_Timing_init : PySem.W.keepIn K (.ref f_Timing_init_) = true)
  (a_things_read : PySem.W.nsIn K mainGlobals "things_read" = some (some (.ref f_things_read_)))
  (l_things_read : K.lookup f_things_read_ = some ⟨oc_things_read, od_things_read, .func (PySem.W.fnOf "things_read" "things_read" (defArgs s_things_read) (defBody s_things_read) (defScope s_things_read) .none kV_things_read dc_things_read pm_things_read an_things_read cd_things_read ct_things_read), sl_things_read⟩)
  (c_things_read : PySem.W.codeIn K cd_things_read "things_read" = true)
  (k_things_read : PySem.W.keepIn K (.ref f_things_read_) = true)
  (a_things_written : PySem.W.nsIn K mainGlobals "things_written" = some (some (.ref f_things_written_)))
  (l_things_written : K.lookup f_things_written_ = some ⟨oc_things_written, od_things_written, .func (PySem.W.fnOf "things_written" "things_written" (defArgs s_things_written) (defBody s_things_written) (defScope s_things_written) .none kV_things_written dc_things_written pm_things_written an_things_written cd_things_written ct_things_written), sl_things_written⟩)
  (c_things_written : PySem.W.codeIn K cd_things_written "things_written" = true)
  (k_things_written : PySem.W.keepIn K (.ref f_things_written_) = true)
  (a_wait_of : PySem.W.nsIn K mainGlobals "wait_of" = some (some (.ref f_wait_of_)))
  (l_wait_of : K.lookup f_wait_of_ = some ⟨oc_wait_of, od_wait_of, .func (PySem.W.fnOf "wait_of" "wait_of" (defArgs s_wait_of) (defBody s_wait_of) (defScope s_wait_of) .none kV_wait_of dc_wait_of pm_wait_of an_wait_of cd_wait_of ct_wait_of), sl_wait_of⟩)
  (c_wait_of : PySem.W.codeIn K cd_wait_of "wait_of" = true)
  (k_wait_of : PySem.W.keepIn K (.ref f_wait_of_) = true)
  (a_timing_behind : PySem.W.nsIn K mainGlobals "timing_behind" = some (some (.ref f_timing_behind_)))
  (l_timing_behind : K.lookup f_timing_behind_ = some ⟨oc_timing_behind, od_timing_behind, .func (PySem.W.fnOf "timing_behind" "timing_behind" (defArgs s_timing_behind) (defBody s_timing_behind) (defScope s_timing_behind) .none kV_timing_behind dc_timing_behind pm_timing_behind an_timing_behind cd_timing_behind ct_timing_behind), sl_timing_behind⟩)
  (c_timing_behind : PySem.W.codeIn K cd_timing_behind "timing_behind" = true)
  (k_timing_behind : PySem.W.keepIn K (.ref f_timing_behind_) = true)
  (a_timings_of : PySem.W.nsIn K mainGlobals "timings_of" = some (some (.ref f_timings_of_)))
  (l_timings_of : K.lookup f_timings_of_ = some ⟨oc_timings_of, od_timings_of, .func (PySem.W.fnOf "timings_of" "timings_of" (defArgs s_timings_of) (defBody s_timings_of) (defScope s_timings_of) .none kV_timings_of dc_timings_of pm_timings_of an_timings_of cd_timings_of ct_timings_of), sl_timings_of⟩)
  (c_timings_of : PySem.W.codeIn K cd_timings_of "timings_of" = true)
  (k_timings_of : PySem.W.keepIn K (.ref f_timings_of_) = true)
  (a_mosts_from : PySem.W.nsIn K mainGlobals "mosts_from" = some (some (.ref f_mosts_from_)))
  (l_mosts_from : K.lookup f_mosts_from_ = some ⟨oc_mosts_from, od_mosts_from, .func (PySem.W.fnOf "mosts_from" "mosts_from" (defArgs s_mosts_from) (defBody s_mosts_from) (defScope s_mosts_from) .none kV_mosts_from dc_mosts_from pm_mosts_from an_mosts_from cd_mosts_from ct_mosts_from), sl_mosts_from⟩)
  (c_mosts_from : PySem.W.codeIn K cd_mosts_from "mosts_from" = true)
  (k_mosts_from : PySem.W.keepIn K (.ref f_mosts_from_) = true)
  (a_beats_from : PySem.W.nsIn K mainGlobals "beats_from" = some (some (.ref f_beats_from_)))
  (l_beats_from : K.lookup f_beats_from_ = some ⟨oc_beats_from, od_beats_from, .func (PySem.W.fnOf "beats_from" "beats_from" (defArgs s_beats_from) (defBody s_beats_from) (defScope s_beats_from) .none kV_beats_from dc_beats_from pm_beats_from an_beats_from cd_beats_from ct_beats_from), sl_beats_from⟩)
  (c_beats_from : PySem.W.codeIn K cd_beats_from "beats_from" = true)
  (k_beats_from : PySem.W.keepIn K (.ref f_beats_from_) = true)
  (a_is_outward : PySem.W.nsIn K mainGlobals "is_outward" = some (some (.ref f_is_outward_)))
  (l_is_outward : K.lookup f_is_outward_ = some ⟨oc_is_outward, od_is_outward, .func (PySem.W.fnOf "is_outward" "is_outward" (defArgs s_is_outward) (defBody s_is_outward) (defScope s_is_outward) .none kV_is_outward dc_is_outward pm_is_outward an_is_outward cd_is_outward ct_is_outward), sl_is_outward⟩)
  (c_is_outward : PySem.W.codeIn K cd_is_outward "is_outward" = true)
  (k_is_outward : PySem.W.keepIn K (.ref f_is_outward_) = true)
  (a_share : PySem.W.nsIn K mainGlobals "share" = some (some (.ref f_share_)))
  (l_share : K.lookup f_share_ = some ⟨oc_share, od_share, .func (PySem.W.fnOf "share" "share" (defArgs s_share) (defBody s_share) (defScope s_share) .none kV_share dc_share pm_share an_share cd_share ct_share), sl_share⟩)
  (c_share : PySem.W.codeIn K cd_share "share" = true)
  (k_share : PySem.W.keepIn K (.ref f_share_) = true)
  (a_are_bound : PySem.W.nsIn K mainGlobals "are_bound" = some (some (.ref f_are_bound_)))
  (l_are_bound : K.lookup f_are_bound_ = some ⟨oc_are_bound, od_are_bound, .func (PySem.W.fnOf "are_bound" "are_bound" (defArgs s_are_bound) (defBody s_are_bound) (defScope s_are_bound) .none kV_are_bound dc_are_bound pm_are_bound an_are_bound cd_are_bound ct_are_bound), sl_are_bound⟩)
  (c_are_bound : PySem.W.codeIn K cd_are_bound "are_bound" = true)
  (k_are_bound : PySem.W.keepIn K (.ref f_are_bound_) = true)
  (a_improved : PySem.W.nsIn K mainGlobals "improved" = some (some (.ref f_improved_)))
  (l_improved : K.lookup f_improved_ = some ⟨oc_improved, od_improved, .func (PySem.W.fnOf "improved" "improved" (defArgs s_improved) (defBody s_improved) (defScope s_improved) .none kV_improved dc_improved pm_improved an_improved cd_improved ct_improved), sl_improved⟩)
  (c_improved : PySem.W.codeIn K cd_improved "improved" = true)
  (k_improved : PySem.W.keepIn K (.ref f_improved_) = true)
  (a_ordered : PySem.W.nsIn K mainGlobals "ordered" = some (some (.ref f_ordered_)))
  (l_ordered : K.lookup f_ordered_ = some ⟨oc_ordered, od_ordered, .func (PySem.W.fnOf "ordered" "ordered" (defArgs s_ordered) (defBody s_ordered) (defScope s_ordered) .none kV_ordered dc_ordered pm_ordered an_ordered cd_ordered ct_ordered), sl_ordered⟩)
  (c_ordered : PySem.W.codeIn K cd_ordered "ordered" = true)
  (k_ordered : PySem.W.keepIn K (.ref f_ordered_) = true)
  (a_law : PySem.W.nsIn K mainGlobals "law" = some (some (.ref f_law_)))
  (l_law : K.lookup f_law_ = some ⟨oc_law, od_law, .func (PySem.W.fnOf "law" "law" (defArgs s_law) (defBody s_law) (defScope s_law) .none kV_law dc_law pm_law an_law cd_law ct_law), sl_law⟩)
  (c_law : PySem.W.codeIn K cd_law "law" = true)
  (k_law : PySem.W.keepIn K (.ref f_law_) = true)
  (z_any : PySem.W.nsIn K mainGlobals "any" = some none)
  (z_dict : PySem.W.nsIn K mainGlobals "dict" = some none)
  (z_int : PySem.W.nsIn K mainGlobals "int" = some none)
  (z_len : PySem.W.nsIn K mainGlobals "len" = some none)
  (z_list : PySem.W.nsIn K mainGlobals "list" = some none)
  (z_max : PySem.W.nsIn K mainGlobals "max" = some none)
  (z_range : PySem.W.nsIn K mainGlobals "range" = some none)
  (x_Timing : PySem.W.nsIn K mainGlobals "Timing" = some (some (.ref q_Timing)))
  (pg_Timing : PySem.W.plainGet K q_Timing Str.empty = true) (hd_Timing : PySem.W.hasDictIn K q_Timing = true) (po_Timing : PySem.W.plainOver K q_Timing = true) (sa_Timing : PySem.W.findIn K (.ref q_Timing) "__setattr__" = some (some (.builtin "object.__setattr__")))
  (mk_Timing : PySem.W.makesIn K q_Timing = true) (kc_Timing : PySem.W.keepIn K (.ref q_Timing) = true)
  (na_most_Timing : PySem.W.findIn K (.ref q_Timing) "most" = some none)
  (na_next_beat_Timing : PySem.W.findIn K (.ref q_Timing) "next_beat" = some none)
  (na_waits_Timing : PySem.W.findIn K (.ref q_Timing) "waits" = some none)
  : ∃ fd : FuncData, (∀ (s : Shared) (v : Value), BindsTo s fd ⟨[v], []⟩ [("_law_script", v)]) /\ ∀ base : Heap, K.In base -> base.Ns mainGlobals mg -> FnOk l.prog w K mg base (CXW l.prog w) 7 fa fd ["_law_script"] (spM K mg 1 f_law) := by
 have e := hfa.symm.trans (PySem.W.mg_of KX G a_law)
 cases e
 have F_law_cell_at := fun_mk (st := s_law_cell_at) l_law_cell_at c_law_cell_at k_law_cell_at
 have F_law_number_by := fun_mk (st := s_law_number_by) l_law_number_by c_law_number_by k_law_number_by
 have F_law_row_by := fun_mk (st := s_law_row_by) l_law_row_by c_law_row_by k_law_row_by
 have F_law_fit := fun_mk (st := s_law_fit) l_law_fit c_law_fit k_law_fit
 have F_law_deed := fun_mk (st := s_law_deed) l_law_deed c_law_deed k_law_deed
 have F_law_box_row := fun_mk (st := s_law_box_row) l_law_box_row c_law_box_row k_law_box_row
 have F_law_run := fun_mk (st := s_law_run) l_law_run c_law_run k_law_run
 have F_Timing_init := fun_mk (st := s_Timing_init) l_Timing_init c_Timing_init k_Timing_init
 have F_things_read := fun_mk (st := s_things_read) l_things_read c_things_read k_things_read
 have F_things_written := fun_mk (st := s_things_written) l_things_written c_things_written k_things_written
 have F_wait_of := fun_mk (st := s_wait_of) l_wait_of c_wait_of k_wait_of
 have F_timing_behind := fun_mk (st := s_timing_behind) l_timing_behind c_timing_behind k_timing_behind
 have F_timings_of := fun_mk (st := s_timings_of) l_timings_of c_timings_of k_timings_of
 have F_mosts_from := fun_mk (st := s_mosts_from) l_mosts_from c_mosts_from k_mosts_from
 have F_beats_from := fun_mk (st := s_beats_from) l_beats_from c_beats_from k_beats_from
 have F_is_outward := fun_mk (st := s_is_outward) l_is_outward c_is_outward k_is_outward
 have F_share := fun_mk (st := s_share) l_share c_share k_share
 have F_are_bound := fun_mk (st := s_are_bound) l_are_bound c_are_bound k_are_bound
 have F_improved := fun_mk (st := s_improved) l_improved c_improved k_improved
 have F_ordered := fun_mk (st := s_ordered) l_ordered c_ordered k_ordered
 have F_law := fun_mk (st := s_law) l_law c_law k_law
 let T : Tx K mg := {
  a_law_cell_at := f_law_cell_at_, d_law_cell_at := _, F_law_cell_at := F_law_cell_at, m_law_cell_at := PySem.W.mg_of KX G a_law_cell_at, b_law_cell_at := F_law_cell_at.binds (ps := ["_law_script", "_law_k"]) (fun _ _ _ _ _ _ us hl => match us, hl with | [_, _], _ => rfl),
  a_law_number_by := f_law_number_by_, d_law_number_by := _, F_law_number_by := F_law_number_by, m_law_number_by := PySem.W.mg_of KX G a_law_number_by, b_law_number_by := F_law_number_by.binds (ps := ["_law_cell"]) (fun _ _ _ _ _ _ us hl => match us, hl with | [_], _ => rfl),
  a_law_row_by := f_law_row_by_, d_law_row_by := _, F_law_row_by := F_law_row_by, m_law_row_by := PySem.W.mg_of KX G a_law_row_by, b_law_row_by := F_law_row_by.binds (ps := ["_law_cell", "_law_boxes", "_law_slots"]) (fun _ _ _ _ _ _ us hl => match us, hl with | [_, _, _], _ => rfl),
  a_law_fit := f_law_fit_, d_law_fit := _, F_law_fit := F_law_fit, m_law_fit := PySem.W.mg_of KX G a_law_fit, b_law_fit := F_law_fit.binds (ps := ["_law_number"]) (fun _ _ _ _ _ _ us hl => match us, hl with | [_], _ => rfl),
  a_law_deed := f_law_deed_, d_law_deed := _, F_law_deed := F_law_deed, m_law_deed := PySem.W.mg_of KX G a_law_deed, b_law_deed := F_law_deed.binds (ps := ["_law_word", "_law_one", "_law_other"]) (fun _ _ _ _ _ _ us hl => match us, hl with | [_, _, _], _ => rfl),
  a_law_box_row := f_law_box_row_, d_law_box_row := _, F_law_box_row := F_law_box_row, m_law_box_row := PySem.W.mg_of KX G a_law_box_row, b_law_box_row := F_law_box_row.binds (ps := ["_law_row", "_law_boxes", "_law_slots"]) (fun _ _ _ _ _ _ us hl => match us, hl with | [_, _, _], _ => rfl),
  a_law_run := f_law_run_, d_law_run := _, F_law_run := F_law_run, m_law_run := PySem.W.mg_of KX G a_law_run, b_law_run := F_law_run.binds (ps := ["_law_rows", "_law_boxes", "_law_slots", "_law_inputs", "_law_turns"]) (fun _ _ _ _ _ _ us hl => match us, hl with | [_, _, _, _, _], _ => rfl),
  a_Timing_init := f_Timing_init_, d_Timing_init := _, F_Timing_init := F_Timing_init, b_Timing_init := F_Timing_init.binds (ps := ["self"]) (fun _ _ _ _ _ _ us hl => match us, hl with | [_], _ => rfl),
  a_things_read := f_things_read_, d_things_read := _, F_things_read := F_things_read, m_things_read := PySem.W.mg_of KX G a_things_read, b_things_read := F_things_read.binds (ps := ["row"]) (fun _ _ _ _ _ _ us hl => match us, hl with | [_], _ => rfl),
  a_things_written := f_things_written_, d_things_written := _, F_things_written := F_things_written, m_things_written := PySem.W.mg_of KX G a_things_written, b_things_written := F_things_written.binds (ps := ["row"]) (fun _ _ _ _ _ _ us hl => match us, hl with | [_], _ => rfl),
  a_wait_of := f_wait_of_, d_wait_of := _, F_wait_of := F_wait_of, m_wait_of := PySem.W.mg_of KX G a_wait_of, b_wait_of := F_wait_of.binds (ps := ["row"]) (fun _ _ _ _ _ _ us hl => match us, hl with | [_], _ => rfl),
  a_timing_behind := f_timing_behind_, d_timing_behind := _, F_timing_behind := F_timing_behind, m_timing_behind := PySem.W.mg_of KX G a_timing_behind, b_timing_behind := F_timing_behind.binds (ps := ["timing", "row"]) (fun _ _ _ _ _ _ us hl => match us, hl with | [_, _], _ => rfl),
  a_timings_of := f_timings_of_, d_timings_of := _, F_timings_of := F_timings_of, m_timings_of := PySem.W.mg_of KX G a_timings_of, b_timings_of := F_timings_of.binds (ps := ["rows"]) (fun _ _ _ _ _ _ us hl => match us, hl with | [_], _ => rfl),
  a_mosts_from := f_mosts_from_, d_mosts_from := _, F_mosts_from := F_mosts_from, m_mosts_from := PySem.W.mg_of KX G a_mosts_from, b_mosts_from := F_mosts_from.binds (ps := ["rows", "timings"]) (fun _ _ _ _ _ _ us hl => match us, hl with | [_, _], _ => rfl),
  a_beats_from := f_beats_from_, d_beats_from := _, F_beats_from := F_beats_from, m_beats_from := PySem.W.mg_of KX G a_beats_from, b_beats_from := F_beats_from.binds (ps := ["rows", "timings", "mosts", "timing", "place"]) (fun _ _ _ _ _ _ us hl => match us, hl with | [_, _, _, _, _], _ => rfl),
  a_is_outward := f_is_outward_, d_is_outward := _, F_is_outward := F_is_outward, m_is_outward := PySem.W.mg_of KX G a_is_outward, b_is_outward := F_is_outward.binds (ps := ["row"]) (fun _ _ _ _ _ _ us hl => match us, hl with | [_], _ => rfl),
  a_share := f_share_, d_share := _, F_share := F_share, m_share := PySem.W.mg_of KX G a_share, b_share := F_share.binds (ps := ["some", "others"]) (fun _ _ _ _ _ _ us hl => match us, hl with | [_, _], _ => rfl),
  a_are_bound := f_are_bound_, d_are_bound := _, F_are_bound := F_are_bound, m_are_bound := PySem.W.mg_of KX G a_are_bound, b_are_bound := F_are_bound.binds (ps := ["one", "other"]) (fun _ _ _ _ _ _ us hl => match us, hl with | [_, _], _ => rfl),
  a_improved := f_improved_, d_improved := _, F_improved := F_improved, m_improved := PySem.W.mg_of KX G a_improved, b_improved := F_improved.binds (ps := ["rows"]) (fun _ _ _ _ _ _ us hl => match us, hl with | [_], _ => rfl),
  a_ordered := f_ordered_, d_ordered := _, F_ordered := F_ordered, m_ordered := PySem.W.mg_of KX G a_ordered, b_ordered := F_ordered.binds (ps := ["rows"]) (fun _ _ _ _ _ _ us hl => match us, hl with | [_], _ => rfl),
  a_law := fa, d_law := _, F_law := F_law, m_law := PySem.W.mg_of KX G a_law, b_law := F_law.binds (ps := ["_law_script"]) (fun _ _ _ _ _ _ us hl => match us, hl with | [_], _ => rfl),
  n_any := PySem.W.mg_none_of KX G z_any,
  n_dict := PySem.W.mg_none_of KX G z_dict,
  n_int := PySem.W.mg_none_of KX G z_int,
  n_len := PySem.W.mg_none_of KX G z_len,
  n_list := PySem.W.mg_none_of KX G z_list,
  n_max := PySem.W.mg_none_of KX G z_max,
  n_range := PySem.W.mg_none_of KX G z_range,
  k_Timing := q_Timing, ns_Timing := x_Timing, mc_Timing := PySem.W.mg_of KX G x_Timing,
  cl_Timing := ⟨pg_Timing, hd_Timing, po_Timing, sa_Timing⟩,
  mk_Timing := ⟨mk_Timing, a_Timing_init, i_Timing_init, kc_Timing⟩,
  na_Timing_most := na_most_Timing,
  na_Timing_next_beat := na_next_beat_Timing,
  na_Timing_waits := na_waits_Timing }
 exact ⟨PySem.W.fnOf "law" "law" (defArgs s_law) (defBody s_law) (defScope s_law) .none kV_law dc_law pm_law an_law cd_law ct_law, fun s v => .of_eq rfl, fun base _ _ => ok_law T⟩
theorem walk_law {l : PySem.W.OpenLaw} {q : Program} {loose : List Str} {XP : (Str -> Option Value) -> Heap -> Prop} {YP : World -> Heap -> Prop} {d : DefRec} {K : Params -> PySem.W.Frag} (good : ∀ ns : List Int, ns.length <= 63 -> ∃ ph', f_law [.fl (ns.map W.int)] [] = .ok (.bl true) ph') (hn : l.most = some 63) (hdf : d.params.defaults = [])
  (hY : ∀ (w : World) (h : Heap), YP w h -> (K w.params).In h)
  (F : ∀ (w : World) (mg : Str -> Option Value) (fa : Addr) (h : Heap), (K w.params).In h -> h.Ns mainGlobals mg -> mg d.name = some (.ref fa) -> ∃ fd : FuncData, (∀ (s : Shared) (u : Value), BindsTo s fd ⟨[u], []⟩ [("_law_script", u)]) /\ ∀ base : Heap, (K w.params).In base -> base.Ns mainGlobals mg -> FnOk l.prog w (K w.params) mg base (CXW l.prog w) 7 fa fd ["_law_script"] (spM (K w.params) mg 1 f_law)) :
  PySem.W.WalkO q loose XP YP l.row.toRowW d [] (fun f vs => PySem.call f vs) := walk_il 7 good hn hdf ⟨rfl, by decide, by decide⟩ hY F
end IL.K24
namespace IL.K24
open PySem L2
theorem mulC_r {a b : Int} (h1 : -(2 ^ 64) < b) (h2 : b < 2 ^ 64) : mulC a b = true := by
 unfold mulC
 rw [decide_eq_true h1, decide_eq_true h2]
 simp
theorem cell_at (ns : List Int) (k : Nat) (ph : PH) : f_law_cell_at [.fl (ns.map W.int), .int (k : Int)] ph = .ok (.int (ns.getD k 0)) ph := by
 unfold f_law_cell_at b_law_cell_at
 try simp only [EVA, Nat.reduceSub, List.reduceReplicate, List.set_cons_zero, List.set_cons_succ, if_true, if_false, ↓reduceIte, String.reduceEq, reduceCtorEq, lenF]
 by_cases h : k < ns.length
 ·have e : atI (ns.map W.int) (k : Int) = some (.int (ns.getD k 0)) := by
   rw [atI_nat _ _ (by simpa using h)]; simp [h]
  rw [ixF e]
  simp [h, pur, fEnd, bnd]
 ·have e : ns.getD k 0 = 0 := by simp [Nat.le_of_not_lt h]
  simp [h, pur, fEnd, bnd, e]
theorem cell_0 (ns : List Int) (ph : PH) : f_law_cell_at [.fl (ns.map W.int), .int 0] ph = .ok (.int (ns.getD 0 0)) ph := cell_at ns 0 ph
theorem cell_1 (ns : List Int) (ph : PH) : f_law_cell_at [.fl (ns.map W.int), .int 1] ph = .ok (.int (ns.getD 1 0)) ph := cell_at ns 1 ph
theorem number_by (c : Int) (ph : PH) : ∃ v ph', f_law_number_by [.int c] ph = .ok (.int v) ph' /\ Ex ph ph' /\ -4294967296 <= v /\ v <= 4294967296 := by
 unfold f_law_number_by b_law_number_by
 try simp only [EVA, Nat.reduceSub, List.reduceReplicate, List.set_cons_zero, List.set_cons_succ, if_true, if_false, ↓reduceIte, String.reduceEq, reduceCtorEq, l_mod (show (4 : Int) ≠ 0 by decide), l_mod (show (8 : Int) ≠ 0 by decide), l_mod (show (4294967296 : Int) ≠ 0 by decide), l_mod (show (100003 : Int) ≠ 0 by decide), l_mod (show (19 : Int) ≠ 0 by decide), l_div (show (4 : Int) ≠ 0 by decide) (by decide), l_mul (mulC_r (a := c.fdiv 4) (b := 48271) (by decide) (by decide))]
 by_cases h3 : c.fmod 4 = 3
 ·simp only [decide_eq_true h3, if_true]
  rw [bnd_new _ _ _ (small (by simp))]
  have q := fmod_range (c.fdiv 4) 8 (by decide)
  generalize (c.fdiv 4).fmod 8 = d at q
  have : d = 0 \/ d = 1 \/ d = 2 \/ d = 3 \/ d = 4 \/ d = 5 \/ d = 6 \/ d = 7 := by omega
  rcases this with rfl | rfl | rfl | rfl | rfl | rfl | rfl | rfl <;>
  ·rw [bnd_ok (ixv_ref (get_new _ _) (by rfl))]
   exact ⟨_, _, rfl, Ex.one _ _, by decide, by decide⟩
 ·simp only [decide_eq_false h3, Bool.false_eq_true, if_false]
  by_cases h2 : c.fmod 4 = 2
  ·simp only [decide_eq_true h2, if_true]
   have := fmod_range (c.fdiv 4 * 48271) 4294967296 (by decide)
   exact ⟨_, _, rfl, Ex.refl _, by omega, by omega⟩
  ·simp only [decide_eq_false h2, Bool.false_eq_true, if_false]
   by_cases h1 : c.fmod 4 = 1
   ·simp only [decide_eq_true h1, if_true]
    have := fmod_range (c.fdiv 4) 100003 (by decide)
    exact ⟨_, _, rfl, Ex.refl _, by omega, by omega⟩
   ·simp only [decide_eq_false h1, Bool.false_eq_true, if_false]
    have := fmod_range (c.fdiv 4) 19 (by decide)
    exact ⟨_, _, rfl, Ex.refl _, by omega, by omega⟩
inductive Wd where
 | sum | less | times | part | below | alike
 deriving DecidableEq
def Wd.S : Wd -> String
 | .sum => "sum" | .less => "less" | .times => "times" | .part => "part" | .below => "below" | .alike => "alike"
inductive Rw where
 | put (b n : Int) | mv (a b : Int) | pull (b s : Int) | push (s b : Int) | take (b : Int) | tell (b : Int) | turn | dd (d : Int) (w : Wd) (a b : Int)
 deriving DecidableEq
def Rw.W : Rw -> W
 | .put b n => .tup [.str "put", .int b, .int n]
 | .mv a b => .tup [.str "move", .int a, .int b]
 | .pull b s => .tup [.str "pull", .int b, .int s]
 | .push s b => .tup [.str "push", .int s, .int b]
 | .take b => .tup [.str "take", .int b]
 | .tell b => .tup [.str "tell", .int b]
 | .turn => .tup [.str "turn"]
 | .dd d w a b => .tup [.str "do", .int d, .str (Str.ofString w.S), .int a, .int b]
abbrev Th := Bool × Int
def Rw.rd : Rw -> List Th
 | .dd _ _ a b => [(true, a), (true, b)]
 | .tell b => [(true, b)]
 | .mv _ b => [(true, b)]
 | .push _ b => [(true, b)]
 | .pull _ s => [(false, s)]
 | _ => []
def Rw.wr : Rw -> List Th
 | .tell _ => []
 | .turn => []
 | .push s _ => [(false, s)]
 | .put b _ => [(true, b)]
 | .mv a _ => [(true, a)]
 | .pull b _ => [(true, b)]
 | .take b => [(true, b)]
 | .dd d _ _ _ => [(true, d)]
def Rw.num : Rw -> Int
 | .put _ n => n
 | _ => 0
def InR (B S : Int) (t : Th) : Prop := 0 <= t.2 /\ t.2 < if t.1 = true then B else S
structure Rw.ok (B S : Int) (r : Rw) : Prop where
 rd : ∀ t ∈ r.rd, InR B S t
 wr : ∀ t ∈ r.wr, InR B S t
 lo : -4294967296 <= r.num
 hi : r.num <= 4294967296
theorem row_by (c bx sl : Int) (hb : 0 < bx) (hs : 0 < sl) (ph : PH) : ∃ (r : Rw) (ph' : PH), f_law_row_by [.int c, .int bx, .int sl] ph = .ok r.W ph' /\ Ex ph ph' /\ r.ok bx sl := by
 have rb : ∀ x : Int, 0 <= x.fmod bx /\ x.fmod bx < bx := fun x => fmod_range x bx hb
 have rs : ∀ x : Int, 0 <= x.fmod sl /\ x.fmod sl < sl := fun x => fmod_range x sl hs
 unfold f_law_row_by b_law_row_by
 try simp only [EVA, Nat.reduceSub, List.reduceReplicate, List.set_cons_zero, List.set_cons_succ, if_true, if_false, ↓reduceIte, String.reduceEq, reduceCtorEq, l_mod (show (12 : Int) ≠ 0 by decide), l_mod (show (2147483647 : Int) ≠ 0 by decide), l_mod (show bx ≠ 0 by omega), l_mod (show sl ≠ 0 by omega), l_mod (show (6 : Int) ≠ 0 by decide), l_div (show (12 : Int) ≠ 0 by decide) (by decide), l_div (show (9 : Int) ≠ 0 by decide) (by decide), l_div (show (81 : Int) ≠ 0 by decide) (by decide), l_div (show (486 : Int) ≠ 0 by decide) (by decide), l_div (show (2916 : Int) ≠ 0 by decide) (by decide), l_mul (mulC_r (a := c.fdiv 12) (b := 48271) (by decide) (by decide))]
 have qk := fmod_range c 12 (by decide)
 generalize c.fmod 12 = k at qk
 generalize ((c.fdiv 12) * 48271).fmod 2147483647 = more
 by_cases h5 : k < 5
 ·simp only [decide_eq_true h5, if_true]
  rw [bnd_new _ _ _ (small (by simp))]
  have q := fmod_range (more.fdiv 486) 6 (by decide)
  generalize (more.fdiv 486).fmod 6 = d at q
  have : d = 0 \/ d = 1 \/ d = 2 \/ d = 3 \/ d = 4 \/ d = 5 := by omega
  rcases this with rfl | rfl | rfl | rfl | rfl | rfl
  ·rw [bnd_ok (ixv_ref (get_new _ _) (by rfl))]
   try simp only [EVA, Nat.reduceSub, List.reduceReplicate, List.set_cons_zero, List.set_cons_succ, if_true, if_false, ↓reduceIte, String.reduceEq, reduceCtorEq]
   exact ⟨.dd _ .sum _ _, _, rfl, Ex.one _ _, ⟨by simp [Rw.rd, InR, rb], by simp [Rw.wr, InR, rb], by simp [Rw.num], by simp [Rw.num]⟩⟩
  ·rw [bnd_ok (ixv_ref (get_new _ _) (by rfl))]
   try simp only [EVA, Nat.reduceSub, List.reduceReplicate, List.set_cons_zero, List.set_cons_succ, if_true, if_false, ↓reduceIte, String.reduceEq, reduceCtorEq]
   exact ⟨.dd _ .less _ _, _, rfl, Ex.one _ _, ⟨by simp [Rw.rd, InR, rb], by simp [Rw.wr, InR, rb], by simp [Rw.num], by simp [Rw.num]⟩⟩
  ·rw [bnd_ok (ixv_ref (get_new _ _) (by rfl))]
   try simp only [EVA, Nat.reduceSub, List.reduceReplicate, List.set_cons_zero, List.set_cons_succ, if_true, if_false, ↓reduceIte, String.reduceEq, reduceCtorEq]
   exact ⟨.dd _ .times _ _, _, rfl, Ex.one _ _, ⟨by simp [Rw.rd, InR, rb], by simp [Rw.wr, InR, rb], by simp [Rw.num], by simp [Rw.num]⟩⟩
  ·rw [bnd_ok (ixv_ref (get_new _ _) (by rfl))]
   try simp only [EVA, Nat.reduceSub, List.reduceReplicate, List.set_cons_zero, List.set_cons_succ, if_true, if_false, ↓reduceIte, String.reduceEq, reduceCtorEq]
   exact ⟨.dd _ .part _ _, _, rfl, Ex.one _ _, ⟨by simp [Rw.rd, InR, rb], by simp [Rw.wr, InR, rb], by simp [Rw.num], by simp [Rw.num]⟩⟩
  ·rw [bnd_ok (ixv_ref (get_new _ _) (by rfl))]
   try simp only [EVA, Nat.reduceSub, List.reduceReplicate, List.set_cons_zero, List.set_cons_succ, if_true, if_false, ↓reduceIte, String.reduceEq, reduceCtorEq]
   exact ⟨.dd _ .below _ _, _, rfl, Ex.one _ _, ⟨by simp [Rw.rd, InR, rb], by simp [Rw.wr, InR, rb], by simp [Rw.num], by simp [Rw.num]⟩⟩
  ·rw [bnd_ok (ixv_ref (get_new _ _) (by rfl))]
   try simp only [EVA, Nat.reduceSub, List.reduceReplicate, List.set_cons_zero, List.set_cons_succ, if_true, if_false, ↓reduceIte, String.reduceEq, reduceCtorEq]
   exact ⟨.dd _ .alike _ _, _, rfl, Ex.one _ _, ⟨by simp [Rw.rd, InR, rb], by simp [Rw.wr, InR, rb], by simp [Rw.num], by simp [Rw.num]⟩⟩
 ·simp only [decide_eq_false h5, Bool.false_eq_true, if_false]
  obtain ⟨v, ph1, e1, x1, v1, v2⟩ := number_by (more.fdiv 9) ph
  rw [bnd_ok e1]
  try simp only [EVA, Nat.reduceSub, List.reduceReplicate, List.set_cons_zero, List.set_cons_succ, if_true, if_false, ↓reduceIte, String.reduceEq, reduceCtorEq]
  rw [bnd_new _ _ _ (small (by simp))]
  try simp only [EVA, Nat.reduceSub, List.reduceReplicate, List.set_cons_zero, List.set_cons_succ, if_true, if_false, ↓reduceIte, String.reduceEq, reduceCtorEq]
  rw [bnd_new _ _ _ (small (by simp))]
  rw [bnd_ok (add_ref ((Ex.one _ _).get (get_new _ _)) (get_new _ _) (small (by simp)))]
  try simp only [EVA, Nat.reduceSub, List.reduceReplicate, List.set_cons_zero, List.set_cons_succ, if_true, if_false, ↓reduceIte, String.reduceEq, reduceCtorEq]
  have hx : Ex ph (ph1 ++ [PO.lst [Rw.W (.put (more.fmod bx) v), Rw.W (.mv (more.fmod bx) ((more.fdiv 9).fmod bx)), Rw.W (.pull (more.fmod bx) ((more.fdiv 81).fmod sl)), Rw.W (.push ((more.fdiv 81).fmod sl) (more.fmod bx))]] ++ [PO.lst [Rw.W (.take (more.fmod bx)), Rw.W (.tell (more.fmod bx)), Rw.W .turn]]) := (x1.trans (Ex.one _ _)).trans (Ex.one _ _)
  have : k = 5 \/ k = 6 \/ k = 7 \/ k = 8 \/ k = 9 \/ k = 10 \/ k = 11 := by omega
  rcases this with rfl | rfl | rfl | rfl | rfl | rfl | rfl
  ·rw [bnd_ok (ixv_ref (get_new _ _) (by rfl))]; exact ⟨.put _ _, _, rfl, hx.trans (Ex.one _ _), ⟨by simp [Rw.rd, InR, rb, rs], by simp [Rw.wr, InR, rb, rs], by simp [Rw.num, v1], by simp [Rw.num, v2]⟩⟩
  ·rw [bnd_ok (ixv_ref (get_new _ _) (by rfl))]; exact ⟨.mv _ _, _, rfl, hx.trans (Ex.one _ _), ⟨by simp [Rw.rd, InR, rb, rs], by simp [Rw.wr, InR, rb, rs], by simp [Rw.num, v1], by simp [Rw.num, v2]⟩⟩
  ·rw [bnd_ok (ixv_ref (get_new _ _) (by rfl))]; exact ⟨.pull _ _, _, rfl, hx.trans (Ex.one _ _), ⟨by simp [Rw.rd, InR, rb, rs], by simp [Rw.wr, InR, rb, rs], by simp [Rw.num, v1], by simp [Rw.num, v2]⟩⟩
  ·rw [bnd_ok (ixv_ref (get_new _ _) (by rfl))]; exact ⟨.push _ _, _, rfl, hx.trans (Ex.one _ _), ⟨by simp [Rw.rd, InR, rb, rs], by simp [Rw.wr, InR, rb, rs], by simp [Rw.num, v1], by simp [Rw.num, v2]⟩⟩
  ·rw [bnd_ok (ixv_ref (get_new _ _) (by rfl))]; exact ⟨.take _, _, rfl, hx.trans (Ex.one _ _), ⟨by simp [Rw.rd, InR, rb, rs], by simp [Rw.wr, InR, rb, rs], by simp [Rw.num, v1], by simp [Rw.num, v2]⟩⟩
  ·rw [bnd_ok (ixv_ref (get_new _ _) (by rfl))]; exact ⟨.tell _, _, rfl, hx.trans (Ex.one _ _), ⟨by simp [Rw.rd, InR, rb, rs], by simp [Rw.wr, InR, rb, rs], by simp [Rw.num, v1], by simp [Rw.num, v2]⟩⟩
  ·rw [bnd_ok (ixv_ref (get_new _ _) (by rfl))]; exact ⟨.turn, _, rfl, hx.trans (Ex.one _ _), ⟨by simp [Rw.rd, InR, rb, rs], by simp [Rw.wr, InR, rb, rs], by simp [Rw.num, v1], by simp [Rw.num, v2]⟩⟩
end IL.K24
namespace IL.K24
open PySem L2
def tS (b : Bool) : Str := if b then "box" else "slot"
def tW (t : Th) : W := .tup [.str (tS t.1), .int t.2]
def Rw.wt : Rw -> Int
 | .pull _ _ => 3
 | .take _ => 2
 | .dd _ .times _ _ => 3
 | .dd _ .part _ _ => 5
 | _ => 1
theorem read_s (r : Rw) (ph : PH) : f_things_read [r.W] ph = .ok (.ref ph.length) (ph ++ [.lst (r.rd.map tW)]) := by
 unfold f_things_read b_things_read
 cases r <;>
 ·simp only [Rw.W]
  try simp only [EVA, Nat.reduceSub, List.reduceReplicate, List.set_cons_zero, List.set_cons_succ, if_true, if_false, ↓reduceIte, String.reduceEq, reduceCtorEq]
  rw [bnd_new _ _ _ (small (by simp))]
  rfl
theorem written_s (r : Rw) (ph : PH) : f_things_written [r.W] ph = .ok (.ref ph.length) (ph ++ [.lst (r.wr.map tW)]) := by
 unfold f_things_written b_things_written
 cases r <;>
 ·simp only [Rw.W]
  try simp only [EVA, Nat.reduceSub, List.reduceReplicate, List.set_cons_zero, List.set_cons_succ, if_true, if_false, ↓reduceIte, String.reduceEq, reduceCtorEq]
  rw [bnd_new _ _ _ (small (by simp))]
  rfl
theorem wait_s (r : Rw) (ph : PH) : f_wait_of [r.W] ph = .ok (.int r.wt) ph := by
 unfold f_wait_of b_wait_of
 cases r with
 | dd d w a b =>
  cases w <;>
  ·simp only [Rw.W, Wd.S]
   try simp only [EVA, Nat.reduceSub, List.reduceReplicate, List.set_cons_zero, List.set_cons_succ, if_true, if_false, ↓reduceIte, String.reduceEq, reduceCtorEq]
   rfl
 | _ =>
  simp only [Rw.W]
  try simp only [EVA, Nat.reduceSub, List.reduceReplicate, List.set_cons_zero, List.set_cons_succ, if_true, if_false, ↓reduceIte, String.reduceEq, reduceCtorEq]
  rfl
end IL.K24
namespace IL.K24
open PySem L2
abbrev Wm := List (Th × Int)
def putM (m : Wm) (t : Th) (w : Int) : Wm := if (m.any fun p => decide (p.1 = t)) = true then m.map (fun p => if p.1 = t then (p.1, w) else p) else m ++ [(t, w)]
def fillM : Wm -> Wm -> Wm
 | m, [] => m
 | m, p :: r => fillM (putM m p.1 p.2) r
def kv (p : Th × Int) : W × W := (tW p.1, .int p.2)
theorem tS_inj {a b : Bool} (h : tS a = tS b) : a = b := by
 cases a <;> cases b <;> first | rfl | exact absurd (os_inj.mp h) (by decide)
theorem tW_inj {a b : Th} : tW a = tW b ↔ a = b := by
 constructor
 ·intro h
  unfold tW at h
  injection h with h
  injection h with h1 h2
  injection h1 with h1
  injection h2 with h2 _
  injection h2 with h2
  exact Prod.ext (tS_inj h1) h2
 ·rintro rfl; rfl
theorem dput_m (m : Wm) (t : Th) (w : Int) : dputW (m.map kv) (tW t) (.int w) = (putM m t w).map kv := by
 unfold dputW putM
 have e : ((m.map kv).any fun p => decide (p.1 = tW t)) = m.any fun p => decide (p.1 = t) := by
  rw [List.any_map]
  congr 1
  funext p
  simp only [Function.comp_def, kv, tW_inj]
 rw [e]
 split
 ·rw [List.map_map, List.map_map]
  apply List.map_congr_left
  intro p _
  simp only [Function.comp_def, kv, tW_inj]
  by_cases h : p.1 = t
  ·simp [h, kv]
  ·simp [h, kv]
 ·simp [kv]
theorem okKey_m (m : Wm) (t : Th) : okKey (m.map kv) (tW t) = true := by
 unfold okKey
 have : ((m.map kv).all fun p => isT p.1) = true := by
  rw [List.all_map, List.all_eq_true]
  intro p _
  rfl
 rw [this]
 have : (keyT (tW t)).isSome = true := rfl
 rw [this]
 simp
def lk (m : Wm) (t : Th) : Int := ((m.find? fun p => decide (p.1 = t)).map (·.2)).getD 0
theorem dget_m (m : Wm) (t : Th) : (dgetW (m.map kv) (tW t)).getD (.int 0) = .int (lk m t) := by
 unfold dgetW lk
 rw [List.find?_map]
 have : ((fun p : W × W => decide (p.1 = tW t)) ∘ kv) = fun p : Th × Int => decide (p.1 = t) := by
  funext p
  simp only [Function.comp_def, kv, tW_inj]
 rw [this]
 cases m.find? fun p => decide (p.1 = t) <;> rfl
theorem put_len (m : Wm) (t : Th) (w : Int) : (putM m t w).length <= m.length + 1 := by
 unfold putM
 split <;> simp
theorem fill_len : ∀ (L m : Wm), (fillM m L).length <= m.length + L.length
 | [], m => by simp [fillM]
 | p :: L, m => by
  have h1 := fill_len L (putM m p.1 p.2)
  have h2 := put_len m p.1 p.2
  simp only [fillM, List.length_cons]
  omega
theorem fill_m : ∀ (L m : Wm), m.length + L.length <= sizeLine -> fillW (m.map kv) (L.map kv) = some ((fillM m L).map kv)
 | [], m, _ => rfl
 | p :: L, m, hz => by
  rw [List.map_cons]
  unfold fillW
  simp only [List.length_cons] at hz
  have hk : okKey (m.map kv) (kv p).1 = true := okKey_m m p.1
  rw [if_pos ⟨hk, by rw [List.length_map]; omega⟩]
  show fillW (dputW (m.map kv) (tW p.1) (.int p.2)) (L.map kv) = _
  rw [dput_m]
  have h2 := put_len m p.1 p.2
  exact fill_m L (putM m p.1 p.2) (by omega)
theorem mem_put {m : Wm} {t : Th} {w : Int} {s : Th} {v : Int} : (s, v) ∈ putM m t w ↔ (s = t /\ v = w) \/ (s ≠ t /\ (s, v) ∈ m) := by
 unfold putM
 split
 ·rename_i h
  rw [List.any_eq_true] at h
  obtain ⟨q, hq, hqt⟩ := h
  have hqt : q.1 = t := of_decide_eq_true hqt
  rw [List.mem_map]
  constructor
  ·rintro ⟨p, hp, e⟩
   by_cases hpt : p.1 = t
   ·rw [if_pos hpt] at e
    cases e
    exact .inl ⟨hpt, rfl⟩
   ·rw [if_neg hpt] at e
    cases e
    exact .inr ⟨hpt, hp⟩
  ·rintro (⟨rfl, rfl⟩ | ⟨h1, h2⟩)
   ·exact ⟨q, hq, by rw [if_pos hqt, hqt]⟩
   ·exact ⟨(s, v), h2, by rw [if_neg h1]⟩
 ·rename_i h
  rw [List.mem_append, List.mem_singleton]
  constructor
  ·rintro (h1 | h1)
   ·refine .inr ⟨?_, h1⟩
    rintro rfl
    exact h (List.any_eq_true.mpr ⟨_, h1, decide_eq_true rfl⟩)
   ·cases h1; exact .inl ⟨rfl, rfl⟩
  ·rintro (⟨rfl, rfl⟩ | ⟨_, h2⟩)
   ·exact .inr rfl
   ·exact .inl h2
def Fn (m : Wm) : Prop := ∀ t w w', (t, w) ∈ m -> (t, w') ∈ m -> w = w'
theorem mem_fill : ∀ {L m : Wm} {s : Th} {v : Int}, Fn (m ++ L) -> ((s, v) ∈ fillM m L ↔ (s, v) ∈ m \/ (s, v) ∈ L)
  | [], m, s, v, _ => by simp [fillM]
  | p :: L, m, s, v, hf => by
    have hp : ∀ {s v}, (s, v) ∈ putM m p.1 p.2 ↔ (s, v) ∈ m \/ (s, v) = p := by
      intro s v
      rw [mem_put]
      constructor
      · rintro (⟨rfl, rfl⟩ | ⟨_, h⟩)
        · exact .inr rfl
        · exact .inl h
      · rintro (h | rfl)
        · by_cases e : s = p.1
          · subst e
            exact .inl ⟨rfl, hf p.1 v p.2 (by simp [h]) (by simp)⟩
          · exact .inr ⟨e, h⟩
        · exact .inl ⟨rfl, rfl⟩
    have hf2 : Fn (putM m p.1 p.2 ++ L) := by
      intro t w w' h h'
      refine hf t w w' ?_ ?_
      · rw [List.mem_append, hp] at h
        rcases h with (h | h) | h <;> simp [h]
      · rw [List.mem_append, hp] at h'
        rcases h' with (h | h) | h <;> simp [h]
    show (s, v) ∈ fillM (putM m p.1 p.2) L ↔ _
    rw [mem_fill hf2, hp, List.mem_cons]
    constructor
    · rintro ((h | h) | h) <;> simp [h]
    · rintro (h | h | h) <;> simp [h]
theorem lk_spec (m : Wm) (t : Th) : (∃ w, (t, w) ∈ m /\ lk m t = w) \/ ((∀ w, (t, w) ∉ m) /\ lk m t = 0) := by
 unfold lk
 cases h : m.find? fun p => decide (p.1 = t) with
 | none =>
  refine .inr ⟨fun w hw => ?_, rfl⟩
  have := List.find?_eq_none.mp h (t, w) hw
  simp at this
 | some p =>
  have h1 := List.mem_of_find?_eq_some h
  have h2 := List.find?_some h
  have h2 : p.1 = t := of_decide_eq_true h2
  refine .inl ⟨p.2, ?_, rfl⟩
  rw [<- h2]; exact h1
def stall (m : Wm) (ts : List Th) : Int := maxL (ts.map (lk m) ++ [0])
theorem stall_0 (m : Wm) (ts : List Th) : 0 <= stall m ts := maxL_ge (by simp)
theorem stall_ge {m : Wm} {ts : List Th} {t : Th} (h : t ∈ ts) : lk m t <= stall m ts := maxL_ge (by
 rw [List.mem_append]
 exact .inl (List.mem_map.mpr ⟨t, h, rfl⟩))
def olds (m : Wm) (st : Int) : Wm := m.map fun p => (p.1, p.2 - st - 1)
def news (r : Rw) : Wm := r.wr.map fun t => (t, r.wt - 1)
def nextM (m : Wm) (st : Int) (r : Rw) : Wm := fillM [] ((olds m st ++ news r).filter fun p => decide (0 < p.2))
theorem wt_pos (r : Rw) : 1 <= r.wt := by
 cases r with
 | dd d w a b => cases w <;> simp [Rw.wt]
 | _ => simp [Rw.wt]
theorem mem_L {m : Wm} {st : Int} {r : Rw} {s : Th} {v : Int} : (s, v) ∈ (olds m st ++ news r).filter (fun p => decide (0 < p.2)) ↔ 0 < v /\ ((∃ w, (s, w) ∈ m /\ v = w - st - 1) \/ (s ∈ r.wr /\ v = r.wt - 1)) := by
 rw [List.mem_filter, List.mem_append]
 unfold olds news
 rw [List.mem_map, List.mem_map]
 constructor
 ·rintro ⟨h1, h2⟩
  refine ⟨of_decide_eq_true h2, ?_⟩
  rcases h1 with ⟨p, hp, e⟩ | ⟨t, ht, e⟩
  ·cases e; exact .inl ⟨p.2, hp, rfl⟩
  ·cases e; exact .inr ⟨ht, rfl⟩
 ·rintro ⟨h1, h2⟩
  refine ⟨?_, decide_eq_true h1⟩
  rcases h2 with ⟨w, hw, rfl⟩ | ⟨hs, rfl⟩
  ·exact .inl ⟨(s, w), hw, rfl⟩
  ·exact .inr ⟨s, hs, rfl⟩
end IL.K24
namespace IL.K24
open PySem L2
theorem seq_asg {e : EM} {i : Nat} {b : SM} {σ : PSt} {ph ph1 : PH} {w : W} (h : e σ ph = .ok w ph1) : sSeq (sAsg e (gN i)) b σ ph = b (σ.set i (some w)) ph1 := by
 rw [sSeq_ap, sAsg_ap]
 simp only [bnd_assoc]
 rw [bnd_ok h]
 rfl
theorem seq_fld {c f : Str} {o v : EM} {b : SM} {σ : PSt} {ph ph1 ph2 : PH} {y : W} {p : Nat} {fs : List (Str × W)} (hv : v σ ph = .ok y ph1) (ho : o σ ph1 = .ok (.ref p) ph2) (hp : ph2[p]? = some (.obj c fs)) (hz : fs.length < 1000) :
  sSeq (sFldW c f o v) b σ ph = b σ (ph2.set p (.obj c (putFW f y fs))) := by
 rw [sSeq_ap, sFldW_ap]
 simp only [bnd_assoc]
 rw [bnd_ok hv, bnd_ok ho, bnd_ok (set_obj hp hz)]
 rfl
theorem fld_s {c f : Str} {o v : EM} {σ : PSt} {ph ph1 ph2 : PH} {y : W} {p : Nat} {fs : List (Str × W)} (hv : v σ ph = .ok y ph1) (ho : o σ ph1 = .ok (.ref p) ph2) (hp : ph2[p]? = some (.obj c fs)) (hz : fs.length < 1000) :
  sFldW c f o v σ ph = .ok (.nx σ) (ph2.set p (.obj c (putFW f y fs))) := by
 rw [sFldW_ap, bnd_ok hv, bnd_ok ho, bnd_ok (set_obj hp hz)]
 rfl
theorem seq_expr {e : EM} {b : SM} {σ : PSt} {ph ph1 : PH} {w : W} (h : e σ ph = .ok w ph1) : sSeq (sExpr e) b σ ph = b σ ph1 := by
 rw [sSeq_ap, sExpr_ap]
 simp only [bnd_assoc]
 rw [bnd_ok h]
 rfl
theorem ex_set {ph H : PH} {i : Nat} (h : Ex ph H) (hi : ph.length <= i) (o : PO) : Ex ph (H.set i o) := by
 obtain ⟨m, rfl⟩ := h
 refine ⟨m.set (i - ph.length) o, ?_⟩
 rw [List.set_append_right _ _ hi]
def tmF (nb : Int) (d : Nat) (most : Int) : List (Str × W) := [("next_beat", .int nb), ("waits", .ref d), ("most", .int most)]
def tmO (nb : Int) (d : Nat) (most : Int) : PO := .obj "Timing" (tmF nb d most)
theorem tm_nb (nb : Int) (d : Nat) (most : Int) : (tmF nb d most).lookup ("next_beat" : Str) = some (W.int nb) := by rfl
theorem tm_wa (nb : Int) (d : Nat) (most : Int) : (tmF nb d most).lookup ("waits" : Str) = some (W.ref d) := by rfl
theorem tm_mo (nb : Int) (d : Nat) (most : Int) : (tmF nb d most).lookup ("most" : Str) = some (W.int most) := by rfl
theorem ne1 : ¬ Str.ofString "next_beat" = Str.ofString "waits" := fun e => absurd (os_inj.mp e) (by decide)
theorem ne2 : ¬ Str.ofString "next_beat" = Str.ofString "most" := fun e => absurd (os_inj.mp e) (by decide)
theorem ne3 : ¬ Str.ofString "waits" = Str.ofString "most" := fun e => absurd (os_inj.mp e) (by decide)
theorem put_nb (nb x : Int) (d : Nat) (most : Int) : putFW "next_beat" (.int x) (tmF nb d most) = tmF x d most := by
 simp only [tmF, putFW, if_true]
theorem put_wa (nb : Int) (d e : Nat) (most : Int) : putFW "waits" (.ref e) (tmF nb d most) = tmF nb e most := by
 simp only [tmF, putFW, ne1, if_false, if_true]
theorem put_mo (nb x : Int) (d : Nat) (most : Int) : putFW "most" (.int x) (tmF nb d most) = tmF nb d x := by
 simp only [tmF, putFW, ne2, ne3, if_false, if_true]
structure TmAt (ph : PH) (i : Nat) (nb : Int) (m : Wm) (most : Int) (d : Nat) : Prop where
 ob : ph[i]? = some (tmO nb d most)
 dc : ph[d]? = some (.dct (m.map kv))
theorem TmAt.ex {ph H : PH} {i d : Nat} {nb most : Int} {m : Wm} (h : TmAt ph i nb m most d) (x : Ex ph H) : TmAt H i nb m most d := ⟨x.get h.ob, x.get h.dc⟩
theorem init_s (ph : PH) : f_Timing_init [.ref ph.length] (ph ++ [.obj "Timing" []]) = .ok .non (ph ++ [tmO 0 (ph.length + 1) 0] ++ [.dct []]) := by
 unfold f_Timing_init b_Timing_init
 rw [fM_1]
 have k : (sSeq (sFldW "Timing" "next_beat" (eVar 0) (eC (.int (0)))) (sSeq (sFldW "Timing" "waits" (eVar 0) eDct) (sFldW "Timing" "most" (eVar 0) (eC (.int (0)))))) (some (.ref ph.length) :: List.replicate (1 - 1) none) (ph ++ [.obj "Timing" []]) = .ok (.nx [some (.ref ph.length)]) (ph ++ [tmO 0 (ph.length + 1) 0] ++ [.dct []]) := by
  rw [seq_fld (y := .int 0) (ph1 := ph ++ [.obj "Timing" []]) (ph2 := ph ++ [.obj "Timing" []]) rfl rfl (get_new _ _) (by decide)]
  have e1 : (ph ++ [PO.obj "Timing" []]).set ph.length (.obj "Timing" (putFW "next_beat" (.int 0) [])) = ph ++ [.obj "Timing" [("next_beat", .int 0)]] := by simp [putFW]
  rw [e1]
  have g1 : (ph ++ [PO.obj "Timing" [("next_beat", W.int 0)]] ++ [PO.dct []])[ph.length]? = some (.obj "Timing" [("next_beat", .int 0)]) := (Ex.one _ _).get (get_new _ _)
  rw [seq_fld (y := .ref (ph.length + 1)) (ph1 := ph ++ [.obj "Timing" [("next_beat", .int 0)]] ++ [.dct []]) (ph2 := ph ++ [.obj "Timing" [("next_beat", .int 0)]] ++ [.dct []]) (by
   rw [eDct_ap, newD_ap]; simp) rfl g1 (by decide)]
  have e2 : (ph ++ [PO.obj "Timing" [("next_beat", W.int 0)]] ++ [PO.dct []]).set ph.length (.obj "Timing" (putFW "waits" (.ref (ph.length + 1)) [("next_beat", .int 0)])) = ph ++ [.obj "Timing" [("next_beat", .int 0), ("waits", .ref (ph.length + 1))]] ++ [.dct []] := by
   simp [putFW, ne1]
  rw [e2]
  have g2 : (ph ++ [PO.obj "Timing" [("next_beat", W.int 0), ("waits", W.ref (ph.length + 1))]] ++ [PO.dct []])[ph.length]? = some (.obj "Timing" [("next_beat", .int 0), ("waits", .ref (ph.length + 1))]) := (Ex.one _ _).get (get_new _ _)
  rw [fld_s (y := .int 0) rfl rfl g2 (by simp)]
  simp [putFW, ne2, ne3, tmO, tmF]
 rw [bnd_ok k]
 rfl
theorem new_s (σ : PSt) (ph : PH) : eNew "Timing" f_Timing_init σ ph = .ok (.ref ph.length) (ph ++ [tmO 0 (ph.length + 1) 0] ++ [.dct []]) := eNew_ok (init_s ph)
end IL.K24
namespace IL.K24
open PySem L2
abbrev S5 (tm : Nat) (r : Rw) (a b c : Option W) : PSt := [some (.ref tm), some r.W, a, b, c]
theorem rw_len (r : Rw) : (r.rd ++ r.wr).length <= 10 := by cases r <;> simp [Rw.rd, Rw.wr]
theorem wr_len (r : Rw) : r.wr.length <= 1 := by cases r <;> simp [Rw.wr]
theorem stall_s {ph : PH} {tm d : Nat} {nb most : Int} {m : Wm} (h : TmAt ph tm nb m most d) (r : Rw) (a b c : Option W) :
  ∃ ph', (eCallB max1W (aCons (eOp addW (eComp (iBoth (eOp addW (eCall f_things_read (aCons (eVar 1) aNil)) (eCall f_things_written (aCons (eVar 1) aNil)))) [none, some 0] (gN 0) cTrue (eMeth isDc getW (eFld "Timing" "waits" (eVar 1)) (aCons (eVar 0) (aCons (eC (.int (0))) aNil)))) (eLst (aCons (eC (.int (0))) aNil))) aNil)) (S5 tm r a b c) ph = .ok (.int (stall m (r.rd ++ r.wr))) ph' /\ Ex ph ph' := by
 have e1 : eOp addW (eCall f_things_read (aCons (eVar 1) aNil)) (eCall f_things_written (aCons (eVar 1) aNil)) (S5 tm r a b c) ph = .ok (.ref (ph.length + 1 + 1)) (ph ++ [.lst (r.rd.map tW)] ++ [.lst (r.wr.map tW)] ++ [.lst ((r.rd ++ r.wr).map tW)]) := by
  try simp only [EVA, Nat.reduceSub, List.reduceReplicate, List.set_cons_zero, List.set_cons_succ, if_true, if_false, ↓reduceIte, String.reduceEq, reduceCtorEq]
  rw [bnd_ok (read_s r ph), bnd_ok (written_s r _), add_ref ((Ex.one _ _).get (get_new _ _)) (get_new _ _) (small (by have := rw_len r; simp at this ⊢; omega))]
  simp
 have hg : (ph ++ [PO.lst (r.rd.map tW)] ++ [PO.lst (r.wr.map tW)] ++ [PO.lst ((r.rd ++ r.wr).map tW)])[ph.length + 1 + 1]? = some (.lst ((r.rd ++ r.wr).map tW)) := by
  have e : (ph ++ [PO.lst (r.rd.map tW)] ++ [PO.lst (r.wr.map tW)]).length = ph.length + 1 + 1 := by simp
  rw [<- e]
  exact get_new _ _
 have x1 : Ex ph (ph ++ [PO.lst (r.rd.map tW)] ++ [PO.lst (r.wr.map tW)] ++ [PO.lst ((r.rd ++ r.wr).map tW)]) := ((Ex.one _ _).trans (Ex.one _ _)).trans (Ex.one _ _)
 generalize hq : ph ++ [PO.lst (r.rd.map tW)] ++ [PO.lst (r.wr.map tW)] ++ [PO.lst ((r.rd ++ r.wr).map tW)] = q at e1 hg x1
 have h1 := h.ex x1
 obtain ⟨p1, c1, x2⟩ := comp_run (cap := [none, some 0]) (g := gN 0) (c := cTrue) (e := eMeth isDc getW (eFld "Timing" "waits" (eVar 1)) (aCons (eVar 0) (aCons (eC (.int (0))) aNil))) (r.rd ++ r.wr) tW (iBoth_ref e1 hg) (fun ph' x => decide_eq_true (x.get hg)) (small (by have := rw_len r; omega)) (fun t => some (.int (lk m t))) (fun σ => ∃ o, σ = [o, some (.ref tm)]) ⟨_, rfl⟩ (by
  rintro t ht σ H ⟨o, rfl⟩ hx
  refine ⟨_, rfl, ⟨_, rfl⟩, true, H, rfl, Ex.refl _, .inr ⟨rfl, .int (lk m t), H, ?_, Ex.refl _, rfl⟩⟩
  have h2 := h1.ex hx
  show eMeth isDc getW (eFld "Timing" "waits" (eVar 1)) (aCons (eVar 0) (aCons (eC (.int (0))) aNil)) [some (tW t), some (.ref tm)] H = _
  try simp only [EVA, Nat.reduceSub, List.reduceReplicate, List.set_cons_zero, List.set_cons_succ, if_true, if_false, ↓reduceIte, String.reduceEq, reduceCtorEq, eFld_ap]
  rw [bnd_ok (fld_obj h2.ob (tm_wa _ _ _)), bnd_ok (chk_dct h2.dc), get_dct h2.dc (okKey_m m t), dget_m])
 rw [fm_some] at x2
 have x3 : Ex q p1 := (Ex.one _ _).trans x2
 refine ⟨p1 ++ [.lst [.int 0]] ++ [.lst (((r.rd ++ r.wr).map (lk m) ++ [0]).map W.int)], ?_, ((x1.trans x3).trans (Ex.one _ _)).trans (Ex.one _ _)⟩
 try simp only [EVA, Nat.reduceSub, List.reduceReplicate, List.set_cons_zero, List.set_cons_succ, if_true, if_false, ↓reduceIte, String.reduceEq, reduceCtorEq]
 rw [bnd_ok c1]
 rw [bnd_new _ _ _ (small (by simp))]
 have g1 : (p1 ++ [PO.lst [.int 0]])[q.length]? = some (.lst ((r.rd ++ r.wr).map fun t => W.int (lk m t))) := (Ex.one _ _).get (x2.get (get_new _ _))
 rw [bnd_ok (add_ref g1 (get_new _ _) (small (by have := rw_len r; simp at this ⊢; omega)))]
 have e2 : ((r.rd ++ r.wr).map fun t => W.int (lk m t)) ++ [W.int 0] = ((r.rd ++ r.wr).map (lk m) ++ [0]).map W.int := by simp [Function.comp_def]
 rw [e2, max1_ref (get_new _ _) (by simp)]
 rfl
end IL.K24
namespace IL.K24
open PySem L2
def kvT (q : Th × Int) : W := .tup [tW q.1, .int q.2]
theorem filt_map (L : Wm) : (L.filterMap fun q => if 0 < q.2 then some (kvT q) else none) = (L.filter fun q => decide (0 < q.2)).map kvT := by
 induction L with
 | nil => rfl
 | cons q L ih =>
  rw [List.filterMap_cons, List.filter_cons]
  by_cases h : 0 < q.2
  ·simp only [h, if_true, decide_true, List.map_cons, ih]
  ·simp only [h, if_false, decide_false, Bool.false_eq_true, ih]
theorem pair_map (L : Wm) : mapO pairW (L.map kvT) = some (L.map kv) := mapO_map pairW kvT kv (fun _ => rfl) L
theorem behind_s {ph : PH} {tm d : Nat} {nb most : Int} {m : Wm} (h : TmAt ph tm nb m most d) (hm : m.length <= 1000) (r : Rw) :
  ∃ p d' ph', f_timing_behind [.ref tm, r.W] ph = .ok (.ref p) ph' /\ Ex ph ph' /\ TmAt ph' p (nb + stall m (r.rd ++ r.wr) + 1) (nextM m (stall m (r.rd ++ r.wr)) r) (max most (nb + stall m (r.rd ++ r.wr) + r.wt)) d' := by
 obtain ⟨ph1, e1, x1⟩ := stall_s h r none none none
 generalize hst : stall m (r.rd ++ r.wr) = st at e1
 have h1 := h.ex x1
 unfold f_timing_behind
 rw [fM_2]
 simp only [Nat.reduceSub, List.reduceReplicate]
 suffices key : ∃ p d' ph', b_timing_behind [some (.ref tm), some r.W, none, none, none] ph = Out.ok (Fl.rt (.ref p)) ph' /\ Ex ph ph' /\ TmAt ph' p (nb + st + 1) (nextM m st r) (max most (nb + st + r.wt)) d' by
  obtain ⟨p, d', ph', k1, k2, k3⟩ := key
  exact ⟨p, d', ph', by rw [bnd_ok k1]; rfl, k2, k3⟩
 unfold b_timing_behind
 rw [seq_asg e1]
 simp only [List.set_cons_zero, List.set_cons_succ]
 rw [seq_asg (new_s _ ph1)]
 simp only [List.set_cons_zero, List.set_cons_succ]
 have x2 : Ex ph1 (ph1 ++ [tmO 0 (ph1.length + 1) 0] ++ [PO.dct []]) := (Ex.one _ _).trans (Ex.one _ _)
 have g2 : (ph1 ++ [tmO 0 (ph1.length + 1) 0] ++ [PO.dct []])[ph1.length]? = some (tmO 0 (ph1.length + 1) 0) := (Ex.one _ _).get (get_new _ _)
 generalize ph1 ++ [tmO 0 (ph1.length + 1) 0] ++ [PO.dct []] = ph2 at x2 g2
 have l2 : ph1.length < ph2.length := (List.getElem?_eq_some_iff.mp g2).1
 have h2 := h1.ex x2
 rw [seq_fld (y := .int (nb + st + 1)) (ph1 := ph2) (ph2 := ph2) (by
  try simp only [EVA, Nat.reduceSub, List.reduceReplicate, List.set_cons_zero, List.set_cons_succ, if_true, if_false, ↓reduceIte, String.reduceEq, reduceCtorEq, eFld_ap]
  rw [bnd_ok (fld_obj h2.ob (tm_nb _ _ _))]
  try simp only [EVA, Nat.reduceSub, List.reduceReplicate, List.set_cons_zero, List.set_cons_succ, if_true, if_false, ↓reduceIte, String.reduceEq, reduceCtorEq]) rfl g2 (by simp [tmF])]
 rw [put_nb]
 have x3 := ex_set x2 (Nat.le_refl _) (tmO (nb + st + 1) (ph1.length + 1) 0)
 have g3 : (ph2.set ph1.length (tmO (nb + st + 1) (ph1.length + 1) 0))[ph1.length]? = some (tmO (nb + st + 1) (ph1.length + 1) 0) := List.getElem?_set_self l2
 have l3 : (ph2.set ph1.length (tmO (nb + st + 1) (ph1.length + 1) 0)).length = ph2.length := List.length_set ..
 show ∃ p d' ph', sSeq _ _ _ (ph2.set ph1.length (tmO (nb + st + 1) (ph1.length + 1) 0)) = _ /\ _
 generalize ph2.set ph1.length (tmO (nb + st + 1) (ph1.length + 1) 0) = ph3 at x3 g3 l3
 have h3 := h1.ex x3
 have mx : (if nb + st + r.wt > most then nb + st + r.wt else most) = max most (nb + st + r.wt) := by split <;> omega
 rw [seq_fld (y := .int (max most (nb + st + r.wt))) (ph1 := ph3) (ph2 := ph3) (by
  try simp only [EVA, Nat.reduceSub, List.reduceReplicate, List.set_cons_zero, List.set_cons_succ, if_true, if_false, ↓reduceIte, String.reduceEq, reduceCtorEq, eFld_ap]
  rw [bnd_ok (fld_obj h3.ob (tm_mo _ _ _))]
  try simp only [EVA, Nat.reduceSub, List.reduceReplicate, List.set_cons_zero, List.set_cons_succ, if_true, if_false, ↓reduceIte, String.reduceEq, reduceCtorEq, eFld_ap]
  rw [bnd_ok (fld_obj h3.ob (tm_nb _ _ _))]
  try simp only [EVA, Nat.reduceSub, List.reduceReplicate, List.set_cons_zero, List.set_cons_succ, if_true, if_false, ↓reduceIte, String.reduceEq, reduceCtorEq]
  rw [bnd_ok (wait_s r ph3)]
  try simp only [EVA, Nat.reduceSub, List.reduceReplicate, List.set_cons_zero, List.set_cons_succ, if_true, if_false, ↓reduceIte, String.reduceEq, reduceCtorEq]
  rw [mx]) rfl g3 (by simp [tmF])]
 rw [put_mo]
 generalize max most (nb + st + r.wt) = M
 have x4 := ex_set x3 (Nat.le_refl _) (tmO (nb + st + 1) (ph1.length + 1) M)
 have g4 : (ph3.set ph1.length (tmO (nb + st + 1) (ph1.length + 1) M))[ph1.length]? = some (tmO (nb + st + 1) (ph1.length + 1) M) := List.getElem?_set_self (by omega)
 have l4 : (ph3.set ph1.length (tmO (nb + st + 1) (ph1.length + 1) M)).length = ph2.length := by rw [List.length_set]; exact l3
 show ∃ p d' ph', sSeq _ _ _ (ph3.set ph1.length (tmO (nb + st + 1) (ph1.length + 1) M)) = _ /\ _
 generalize ph3.set ph1.length (tmO (nb + st + 1) (ph1.length + 1) M) = ph4 at x4 g4 l4
 have h4 := h1.ex x4
 rw [seq_asg (w := .ref ph4.length) (ph1 := ph4 ++ [.lst (m.map fun q => kvT (q.1, q.2 - st - 1))]) (compD_map (m := eFld "Timing" "waits" (eVar 0)) (i := d) m kv (fun q => kvT (q.1, q.2 - st - 1)) (by
  try simp only [EVA, Nat.reduceSub, List.reduceReplicate, List.set_cons_zero, List.set_cons_succ, if_true, if_false, ↓reduceIte, String.reduceEq, reduceCtorEq, eFld_ap]
  rw [fld_obj h4.ob (tm_wa _ _ _)]) h4.dc (small (by omega)) (fun σ => ∃ a b, σ = [a, b, some (.int st)]) ⟨_, _, rfl⟩ (by
  rintro q hq σ H ⟨a, b, rfl⟩
  refine ⟨[some (tW q.1), some (.int q.2), some (.int st)], rfl, ⟨_, _, rfl⟩, ?_⟩
  try simp only [EVA, Nat.reduceSub, List.reduceReplicate, List.set_cons_zero, List.set_cons_succ, if_true, if_false, ↓reduceIte, String.reduceEq, reduceCtorEq]
  rfl))]
 simp only [List.set_cons_zero, List.set_cons_succ]
 have x5 : Ex ph4 (ph4 ++ [PO.lst (m.map fun q => kvT (q.1, q.2 - st - 1))]) := Ex.one _ _
 have g5 := get_new ph4 (PO.lst (m.map fun q => kvT (q.1, q.2 - st - 1)))
 generalize ph4 ++ [PO.lst (m.map fun q => kvT (q.1, q.2 - st - 1))] = ph5 at x5 g5
 have w6 : eCall f_things_written (aCons (eVar 1) aNil) [some (.ref tm), some r.W, some (.int st), some (.ref ph1.length), some (.ref ph4.length)] ph5 = .ok (.ref ph5.length) (ph5 ++ [.lst (r.wr.map tW)]) := by
  try simp only [EVA, Nat.reduceSub, List.reduceReplicate, List.set_cons_zero, List.set_cons_succ, if_true, if_false, ↓reduceIte, String.reduceEq, reduceCtorEq]
  rw [written_s]
 obtain ⟨ph7, c7, x7⟩ := comp_run (cap := [none, some 1]) (g := gN 0) (c := cTrue) (e := eTup (aCons (eVar 0) (aCons (eOp subW (eCall f_wait_of (aCons (eVar 1) aNil)) (eC (.int (1)))) aNil))) r.wr tW (iBoth_ref w6 (get_new _ _)) (fun ph' x => decide_eq_true (x.get (get_new _ _))) (small (by have := wr_len r; omega)) (fun t => some (kvT (t, r.wt - 1))) (fun σ => ∃ o, σ = [o, some r.W]) ⟨_, rfl⟩ (by
  rintro t ht σ H ⟨o, rfl⟩ hx
  refine ⟨_, rfl, ⟨_, rfl⟩, true, H, rfl, Ex.refl _, .inr ⟨rfl, kvT (t, r.wt - 1), H, ?_, Ex.refl _, rfl⟩⟩
  show eTup (aCons (eVar 0) (aCons (eOp subW (eCall f_wait_of (aCons (eVar 1) aNil)) (eC (.int (1)))) aNil)) [some (tW t), some r.W] H = _
  try simp only [EVA, Nat.reduceSub, List.reduceReplicate, List.set_cons_zero, List.set_cons_succ, if_true, if_false, ↓reduceIte, String.reduceEq, reduceCtorEq]
  rw [bnd_ok (wait_s r H)]
  try simp only [EVA, Nat.reduceSub, List.reduceReplicate, List.set_cons_zero, List.set_cons_succ, if_true, if_false, ↓reduceIte, String.reduceEq, reduceCtorEq]
  rfl)
 rw [fm_some] at x7
 have x57 : Ex ph5 ph7 := ((Ex.one _ _).trans (Ex.one _ _)).trans x7
 have g7 : ph7[ph4.length]? = some (.lst (m.map fun q => kvT (q.1, q.2 - st - 1))) := x57.get g5
 have g7' := x7.get (get_new _ _)
 have e8 : (m.map fun q => kvT (q.1, q.2 - st - 1)) ++ (r.wr.map fun t => kvT (t, r.wt - 1)) = (olds m st ++ news r).map kvT := by
  unfold olds news
  rw [List.map_append, List.map_map, List.map_map]
  rfl
 have len8 : (olds m st ++ news r).length <= 2000 := by
  unfold olds news
  rw [List.length_append, List.length_map, List.length_map]
  have := wr_len r
  omega
 rw [seq_expr (w := .non) (ph1 := ph7.set ph4.length (.lst ((olds m st ++ news r).map kvT))) (by
  try simp only [EVA, Nat.reduceSub, List.reduceReplicate, List.set_cons_zero, List.set_cons_succ, if_true, if_false, ↓reduceIte, String.reduceEq, reduceCtorEq]
  rw [bnd_ok (chk_ref g5), bnd_ok c7, extend_ref g7 g7' (small (by have := wr_len r; simp; omega)), e8])]
 have x8 : Ex ph4 (ph7.set ph4.length (.lst ((olds m st ++ news r).map kvT))) := ex_set (x5.trans x57) (Nat.le_refl _) _
 have g8 : (ph7.set ph4.length (PO.lst ((olds m st ++ news r).map kvT)))[ph4.length]? = some (.lst ((olds m st ++ news r).map kvT)) := List.getElem?_set_self (List.getElem?_eq_some_iff.mp g7).1
 generalize ph7.set ph4.length (PO.lst ((olds m st ++ news r).map kvT)) = ph8 at x8 g8
 have i8 : eVar 4 [some (.ref tm), some r.W, some (.int st), some (.ref ph1.length), some (.ref ph4.length)] ph8 = .ok (.ref ph4.length) ph8 := rfl
 obtain ⟨ph9, c9, x9⟩ := comp_run (cap := [none, none]) (g := gLen 2 [(gN 0), (gN 1)]) (c := eT (eOp gtW (eVar 1) (eC (.int (0))))) (e := eTup (aCons (eVar 0) (aCons (eVar 1) aNil))) (olds m st ++ news r) kvT (iBoth_ref i8 g8) (fun ph' x => decide_eq_true (x.get g8)) (small (by omega)) (fun q => if 0 < q.2 then some (kvT q) else none) (fun σ => ∃ a b, σ = [a, b]) ⟨_, _, rfl⟩ (by
  rintro q hq σ H ⟨a, b, rfl⟩ hx
  refine ⟨[some (tW q.1), some (.int q.2)], rfl, ⟨_, _, rfl⟩, decide (0 < q.2), H, ?_, Ex.refl _, ?_⟩
  ·try simp only [EVA, Nat.reduceSub, List.reduceReplicate, List.set_cons_zero, List.set_cons_succ, if_true, if_false, ↓reduceIte, String.reduceEq, reduceCtorEq]
  ·by_cases h0 : 0 < q.2
   ·refine .inr ⟨decide_eq_true h0, kvT q, H, ?_, Ex.refl _, by rw [if_pos h0]⟩
    try simp only [EVA, Nat.reduceSub, List.reduceReplicate, List.set_cons_zero, List.set_cons_succ, if_true, if_false, ↓reduceIte, String.reduceEq, reduceCtorEq]
    rfl
   ·exact .inl ⟨decide_eq_false h0, by rw [if_neg h0]⟩)
 rw [filt_map] at x9
 have g9 := x9.get (get_new _ _)
 have lenL : ((olds m st ++ news r).filter fun q => decide (0 < q.2)).length <= 2000 := Nat.le_trans (List.length_filter_le _ _) len8
 have f9 := fill_m ((olds m st ++ news r).filter fun q => decide (0 < q.2)) [] (small (by simp only [List.length_nil]; omega))
 have x10 : Ex ph4 (ph9 ++ [PO.dct ((nextM m st r).map kv)]) := ((x8.trans (Ex.one _ _)).trans x9).trans (Ex.one _ _)
 have g10 := x10.get g4
 rw [seq_fld (y := .ref ph9.length) (ph1 := ph9 ++ [.dct ((nextM m st r).map kv)]) (ph2 := ph9 ++ [.dct ((nextM m st r).map kv)]) (by
  try simp only [EVA, Nat.reduceSub, List.reduceReplicate, List.set_cons_zero, List.set_cons_succ, if_true, if_false, ↓reduceIte, String.reduceEq, reduceCtorEq]
  rw [bnd_ok c9, dict_ref g9 (pair_map _) f9]
  rfl) rfl g10 (by simp [tmF])]
 rw [put_wa]
 have l10 := (List.getElem?_eq_some_iff.mp g10).1
 refine ⟨ph1.length, ph9.length, (ph9 ++ [PO.dct ((nextM m st r).map kv)]).set ph1.length (tmO (nb + st + 1) ph9.length M), rfl, (x1.trans (ex_set (x4.trans x10) (Nat.le_refl _) _)), ⟨List.getElem?_set_self l10, ?_⟩⟩
 have ne : ph1.length ≠ ph9.length := by
  have := (List.getElem?_eq_some_iff.mp g9).1
  have := x8.len
  omega
 rw [List.getElem?_set_ne ne]
 exact get_new _ _
end IL.K24
namespace IL.K24
open PySem L2
structure Tm where
 nb : Int
 m : Wm
 most : Int
def Tm.st (t : Tm) (r : Rw) : Int := stall t.m (r.rd ++ r.wr)
def Tm.go (t : Tm) (r : Rw) : Tm := ⟨t.nb + t.st r + 1, nextM t.m (t.st r) r, max t.most (t.nb + t.st r + r.wt)⟩
def Tm.run (t : Tm) (rs : List Rw) : Tm := rs.foldl Tm.go t
def tm0 : Tm := ⟨0, [], 0⟩
def bt (rs : List Rw) : Int := (tm0.run rs).most
structure Tm.ok (t : Tm) (n : Nat) : Prop where
 fn : Fn t.m
 nd : (t.m.map (·.1)).Nodup
 nb : 0 <= t.nb
 mo : 0 <= t.most
 sz : t.m.length <= n
theorem put_keys (m : Wm) (t : Th) (w : Int) (h : (m.map (·.1)).Nodup) : ((putM m t w).map (·.1)).Nodup := by
 unfold putM
 split
 ·have : (m.map fun p => if p.1 = t then (p.1, w) else p).map (·.1) = m.map (·.1) := by
   rw [List.map_map]
   apply List.map_congr_left
   intro p _
   simp only [Function.comp_apply]
   split <;> rfl
  rw [this]; exact h
 ·rename_i hn
  rw [List.map_append, List.nodup_append]
  refine ⟨h, by simp, ?_⟩
  intro a ha b hb e
  simp at hb
  subst hb
  subst e
  obtain ⟨p, hp, e⟩ := List.mem_map.mp ha
  exact hn (List.any_eq_true.mpr ⟨p, hp, decide_eq_true e⟩)
theorem fill_keys : ∀ (L m : Wm), (m.map (·.1)).Nodup -> ((fillM m L).map (·.1)).Nodup
 | [], m, h => h
 | p :: L, m, h => fill_keys L _ (put_keys m p.1 p.2 h)
theorem Fn.stw {m : Wm} (hf : Fn m) {r : Rw} {t : Th} (ht : t ∈ r.wr) {w : Int} (hw : (t, w) ∈ m) : w <= stall m (r.rd ++ r.wr) := by
 have h1 := stall_ge (m := m) (ts := r.rd ++ r.wr) (t := t) (by simp [ht])
 rcases lk_spec m t with ⟨w', hw', e⟩ | ⟨hn, _⟩
 ·have := hf t w w' hw hw'
  omega
 ·exact absurd hw (hn w)
theorem Fn.L {m : Wm} (hf : Fn m) (r : Rw) : Fn ((olds m (stall m (r.rd ++ r.wr)) ++ news r).filter fun p => decide (0 < p.2)) := by
 intro t w w' h1 h2
 rw [mem_L] at h1 h2
 obtain ⟨p1, h1⟩ := h1
 obtain ⟨p2, h2⟩ := h2
 rcases h1 with ⟨u, hu, rfl⟩ | ⟨hs, rfl⟩ <;> rcases h2 with ⟨u', hu', rfl⟩ | ⟨hs', rfl⟩
 ·rw [hf t u u' hu hu']
 ·have := hf.stw hs' hu; omega
 ·have := hf.stw hs hu'; omega
 ·rfl
theorem mem_next {m : Wm} (hf : Fn m) {r : Rw} {s : Th} {v : Int} : (s, v) ∈ nextM m (stall m (r.rd ++ r.wr)) r ↔ 0 < v /\ ((∃ w, (s, w) ∈ m /\ v = w - stall m (r.rd ++ r.wr) - 1) \/ (s ∈ r.wr /\ v = r.wt - 1)) := by
 unfold nextM
 rw [mem_fill (by simpa using hf.L r), mem_L]
 simp
theorem next_len (m : Wm) (st : Int) (r : Rw) : (nextM m st r).length <= m.length + 1 := by
 have h1 := fill_len ((olds m st ++ news r).filter fun p => decide (0 < p.2)) []
 have h2 := List.length_filter_le (fun p : Th × Int => decide (0 < p.2)) (olds m st ++ news r)
 have h3 : (olds m st ++ news r).length <= m.length + 1 := by
  unfold olds news
  rw [List.length_append, List.length_map, List.length_map]
  have := wr_len r
  omega
 unfold nextM
 simp only [List.length_nil, Nat.zero_add] at h1
 omega
theorem Tm.st0 (t : Tm) (r : Rw) : 0 <= t.st r := stall_0 _ _
theorem Tm.ok.go {t : Tm} {n : Nat} (h : t.ok n) (r : Rw) : (t.go r).ok (n + 1) := by
 have := t.st0 r
 have := h.nb
 have := h.mo
 have := wt_pos r
 refine ⟨fun s w w' h1 h2 => ?_, fill_keys _ _ (by simp), by show 0 <= t.nb + t.st r + 1; omega, by show 0 <= max t.most _; omega, ?_⟩
 ·have e1 := (mem_next h.fn).mp h1
  have e2 := (mem_next h.fn).mp h2
  exact h.fn.L r s w w' (mem_L.mpr e1) (mem_L.mpr e2)
 ·have := next_len t.m (t.st r) r
  have := h.sz
  show (nextM t.m (t.st r) r).length <= n + 1
  omega
theorem Tm.ok.mono {t : Tm} {n k : Nat} (h : t.ok n) (hk : n <= k) : t.ok k := ⟨h.fn, h.nd, h.nb, h.mo, Nat.le_trans h.sz hk⟩
theorem ok0 : tm0.ok 0 := ⟨fun _ _ _ h => by simp [tm0] at h, by simp [tm0], Int.le_refl _, Int.le_refl _, by simp [tm0]⟩
theorem Tm.run_cons (t : Tm) (r : Rw) (rs : List Rw) : t.run (r :: rs) = (t.go r).run rs := rfl
theorem Tm.run_append (t : Tm) (rs qs : List Rw) : t.run (rs ++ qs) = (t.run rs).run qs := by unfold Tm.run; rw [List.foldl_append]
theorem Tm.ok.run : ∀ {rs : List Rw} {t : Tm} {n : Nat}, t.ok n -> (t.run rs).ok (n + rs.length)
 | [], t, n, h => h
 | r :: rs, t, n, h => by
  have := Tm.ok.run (rs := rs) (h.go r)
  rw [Tm.run_cons, List.length_cons, show n + (rs.length + 1) = n + 1 + rs.length by omega]
  exact this
def Sm (a b : Wm) : Prop := ∀ s v, (s, v) ∈ a ↔ (s, v) ∈ b
theorem Sm.lk {a b : Wm} (h : Sm a b) (fb : Fn b) (t : Th) : lk a t = lk b t := by
 rcases lk_spec a t with ⟨w, hw, e⟩ | ⟨hn, e⟩
 ·rcases lk_spec b t with ⟨w', hw', e'⟩ | ⟨hn', e'⟩
  ·rw [e, e', fb t w w' ((h t w).mp hw) hw']
  ·exact absurd ((h t w).mp hw) (hn' w)
 ·rcases lk_spec b t with ⟨w', hw', e'⟩ | ⟨hn', e'⟩
  ·exact absurd ((h t w').mpr hw') (hn w')
  ·rw [e, e']
theorem Sm.st {t u : Tm} (h : Sm t.m u.m) (fu : Fn u.m) (r : Rw) : t.st r = u.st r := by
 unfold Tm.st stall
 congr 2
 apply List.map_congr_left
 intro x _
 exact h.lk fu x
theorem Sm.go {t u : Tm} (h : Sm t.m u.m) (ft : Fn t.m) (fu : Fn u.m) (r : Rw) : Sm (t.go r).m (u.go r).m := by
 intro s v
 have e := h.st fu r
 show (s, v) ∈ nextM t.m (t.st r) r ↔ (s, v) ∈ nextM u.m (u.st r) r
 have e1 : t.st r = stall t.m (r.rd ++ r.wr) := rfl
 have e2 : u.st r = stall u.m (r.rd ++ r.wr) := rfl
 rw [e1, e2, mem_next ft, mem_next fu, <- e1, <- e2, e]
 constructor
 ·rintro ⟨h1, ⟨w, hw, q⟩ | q⟩
  ·exact ⟨h1, .inl ⟨w, (h s w).mp hw, q⟩⟩
  ·exact ⟨h1, .inr q⟩
 ·rintro ⟨h1, ⟨w, hw, q⟩ | q⟩
  ·exact ⟨h1, .inl ⟨w, (h s w).mpr hw, q⟩⟩
  ·exact ⟨h1, .inr q⟩
def mf : Tm -> List Rw -> Int
 | _, [] => 0
 | t, r :: rs => max (mf (t.go r) rs) ((t.go r).nb - 1 + r.wt)
theorem most_mf : ∀ (rs : List Rw) (t : Tm), 0 <= t.most -> (t.run rs).most = max t.most (mf t rs)
 | [], t, h => by show t.most = max t.most 0; omega
 | r :: rs, t, h => by
  have h1 : 0 <= (t.go r).most := by show 0 <= max t.most _; omega
  rw [Tm.run_cons, most_mf rs _ h1]
  show max (max t.most (t.nb + t.st r + r.wt)) (mf (t.go r) rs) = max t.most (max (mf (t.go r) rs) (t.nb + t.st r + 1 - 1 + r.wt))
  omega
theorem mf_shift : ∀ (rs : List Rw) {t u : Tm} {n : Nat}, rs ≠ [] -> t.ok n -> u.ok n -> Sm t.m u.m -> mf t rs - t.nb = mf u rs - u.nb
 | [], t, u, n, h, _, _, _ => absurd rfl h
 | r :: rs, t, u, n, _, ht, hu, hs => by
  have e := hs.st hu.fn r
  have h1 := ht.go r
  have h2 := hu.go r
  have w := wt_pos r
  have s1 := t.st0 r
  have n1 := ht.nb
  have n2 := hu.nb
  have a1 : (t.go r).nb = t.nb + t.st r + 1 := rfl
  have a2 : (u.go r).nb = u.nb + u.st r + 1 := rfl
  show max (mf (t.go r) rs) ((t.go r).nb - 1 + r.wt) - t.nb = max (mf (u.go r) rs) ((u.go r).nb - 1 + r.wt) - u.nb
  cases rs with
  | nil =>
   show max 0 _ - _ = max 0 _ - _
   omega
  | cons q qs =>
   have ih := mf_shift (q :: qs) (by simp) h1 h2 (hs.go ht.fn hu.fn r)
   omega
theorem joined {t u : Tm} {n : Nat} {rs : List Rw} (hr : rs ≠ []) (ht : t.ok n) (hu : u.ok n) (hs : Sm t.m u.m) : max t.most (mf u rs + t.nb - u.nb) = (t.run rs).most := by
 rw [most_mf rs t ht.mo]
 have := mf_shift rs hr ht hu hs
 have e : mf u rs + t.nb - u.nb = mf t rs := by omega
 rw [e]
theorem dget_mem {m : Wm} (t : Th) : (∃ v, (t, v) ∈ m /\ dgetW (m.map kv) (tW t) = some (.int v)) \/ ((∀ v, (t, v) ∉ m) /\ dgetW (m.map kv) (tW t) = none) := by
 induction m with
 | nil => exact .inr ⟨by simp, rfl⟩
 | cons p m ih =>
  have hd : dgetW ((p :: m).map kv) (tW t) = if p.1 = t then some (.int p.2) else dgetW (m.map kv) (tW t) := by
   unfold dgetW
   rw [List.map_cons, List.find?_cons]
   have : decide ((kv p).1 = tW t) = decide (p.1 = t) := by
    rw [decide_eq_decide]; exact tW_inj
   rw [this]
   by_cases e : p.1 = t
   ·rw [decide_eq_true e, if_pos e]; rfl
   ·rw [decide_eq_false e, if_neg e]
  by_cases e : p.1 = t
  ·rw [if_pos e] at hd
   exact .inl ⟨p.2, by rw [<- e]; simp, hd⟩
  ·rw [if_neg e] at hd
   rcases ih with ⟨v, h1, h2⟩ | ⟨h1, h2⟩
   ·exact .inl ⟨v, by simp [h1], by rw [hd, h2]⟩
   ·refine .inr ⟨fun v hv => ?_, by rw [hd, h2]⟩
    rcases List.mem_cons.mp hv with q | q
    ·exact e (by rw [<- q])
    ·exact h1 v q
theorem eqP_m (ph : PH) (b : Wm) (p : Th × Int) : ∃ c, eqP ph (b.map kv) (kv p) = some c /\ (c = true -> p ∈ b) := by
 unfold eqP
 show ∃ c, (match dgetW (b.map kv) (tW p.1) with | none => some false | some y => eqD ph (.int p.2) y) = some c /\ _
 rcases dget_mem (m := b) p.1 with ⟨v, h1, h2⟩ | ⟨h1, h2⟩
 ·rw [h2]
  refine ⟨decide (p.2 = v), ?_, fun h => ?_⟩
  ·show eqD ph (.int p.2) (.int v) = _
   unfold eqD dat
   simp only [PyData.eqv]
   rfl
  ·have : p.2 = v := of_decide_eq_true h
   rw [show p = (p.1, p.2) from rfl, this]; exact h1
 ·rw [h2]
  exact ⟨false, rfl, fun h => by cases h⟩
theorem eqPs_m (ph : PH) (b : Wm) : ∀ a : Wm, ∃ bs, mapO (eqP ph (b.map kv)) (a.map kv) = some bs /\ (bs.all id = true -> ∀ p ∈ a, p ∈ b)
 | [] => ⟨[], rfl, fun _ p hp => by simp at hp⟩
 | p :: a => by
  obtain ⟨c, e1, k1⟩ := eqP_m ph b p
  obtain ⟨bs, e2, k2⟩ := eqPs_m ph b a
  refine ⟨c :: bs, ?_, fun h q hq => ?_⟩
  ·rw [List.map_cons]; unfold mapO; rw [e1, e2]
  ·rw [List.all_cons, Bool.and_eq_true] at h
   rcases List.mem_cons.mp hq with rfl | hq
   ·exact k1 h.1
   ·exact k2 h.2 q hq
theorem all_isT (m : Wm) : (m.map kv).all (fun p => isT p.1) = true := by
 rw [List.all_eq_true]
 intro p hp
 obtain ⟨q, _, rfl⟩ := List.mem_map.mp hp
 rfl
theorem sub_len {α : Type} : ∀ {a b : List α}, a.Nodup -> (∀ x ∈ a, x ∈ b) -> b.length <= a.length -> ∀ x ∈ b, x ∈ a
 | [], b, _, _, hl, x, hx => by
  have : b = [] := List.length_eq_zero_iff.mp (by simpa using hl)
  rw [this] at hx; exact hx
 | y :: a, b, ha, hs, hl, x, hx => by
  obtain ⟨b1, b2, rfl⟩ := List.append_of_mem (hs y (by simp))
  rw [List.nodup_cons] at ha
  have sub : ∀ z ∈ a, z ∈ b1 ++ b2 := fun z hz => by
   have h := hs z (by simp [hz])
   rw [List.mem_append, List.mem_cons] at h
   rcases h with h | rfl | h
   ·simp [h]
   ·exact absurd hz ha.1
   ·simp [h]
  have := sub_len ha.2 sub (by simp at hl ⊢; omega)
  rw [List.mem_append, List.mem_cons] at hx
  rcases hx with h | rfl | h
  ·exact List.mem_cons_of_mem _ (this x (by simp [h]))
  ·simp
  ·exact List.mem_cons_of_mem _ (this x (by simp [h]))
theorem nodup_of_map {α β : Type} (f : α -> β) : ∀ {l : List α}, (l.map f).Nodup -> l.Nodup
 | [], _ => by simp
 | x :: l, h => by
  rw [List.map_cons, List.nodup_cons] at h
  rw [List.nodup_cons]
  exact ⟨fun hx => h.1 (List.mem_map_of_mem hx), nodup_of_map f h.2⟩
theorem eqDct_m (ph : PH) (a b : Wm) (na : (a.map (·.1)).Nodup) : ∃ c, eqDct ph (a.map kv) (b.map kv) = some c /\ (c = true -> Sm a b) := by
 unfold eqDct
 rw [all_isT, all_isT, if_pos (by simp)]
 by_cases hl : (a.map kv).length = (b.map kv).length
 ·rw [if_pos hl]
  obtain ⟨bs, e1, k1⟩ := eqPs_m ph b a
  rw [e1]
  refine ⟨bs.all id, rfl, fun h s v => ⟨fun q => k1 h _ q, fun q => ?_⟩⟩
  have nd : a.Nodup := nodup_of_map _ na
  exact sub_len nd (k1 h) (by simpa using Nat.le_of_eq hl.symm) _ q
 ·rw [if_neg hl]
  exact ⟨false, rfl, fun h => by cases h⟩
end IL.K24
namespace IL.K24
open PySem L2
def TA (ph : PH) (i : Nat) (t : Tm) : Prop := ∃ d, TmAt ph i t.nb t.m t.most d
theorem TA.ex {a b : PH} {i : Nat} {t : Tm} (h : TA a i t) (x : Ex a b) : TA b i t := let ⟨d, h⟩ := h; ⟨d, h.ex x⟩
theorem get_set_ne {ph : PH} {i j : Nat} {o p q : PO} (hi : ph[i]? = some o) (hj : ph[j]? = some p) (h : o ≠ p) : (ph.set j q)[i]? = some o := by
 rw [List.getElem?_set_ne (fun e => by subst e; rw [hi] at hj; exact h (Option.some.inj hj))]; exact hi
theorem TA.set {a : PH} {i L : Nat} {t : Tm} {ws ws' : List W} (h : TA a i t) (hL : a[L]? = some (.lst ws)) : TA (a.set L (.lst ws')) i t := by
 obtain ⟨d, h⟩ := h
 exact ⟨d, get_set_ne h.ob hL (by unfold tmO; simp), get_set_ne h.dc hL (by simp)⟩
theorem behind_t {ph : PH} {tm n : Nat} {t : Tm} (h : TA ph tm t) (hk : t.ok n) (hn : n <= 1000) (r : Rw) : ∃ p ph', f_timing_behind [.ref tm, r.W] ph = .ok (.ref p) ph' /\ Ex ph ph' /\ TA ph' p (t.go r) := by
 obtain ⟨d, h⟩ := h
 obtain ⟨p, d', ph', e, x, q⟩ := behind_s h (Nat.le_trans hk.sz hn) r
 exact ⟨p, ph', e, x, d', q⟩
theorem new_t (σ : PSt) (ph : PH) : ∃ ph', eNew "Timing" f_Timing_init σ ph = .ok (.ref ph.length) ph' /\ Ex ph ph' /\ TA ph' ph.length tm0 := by
 refine ⟨_, new_s σ ph, (Ex.one _ _).trans (Ex.one _ _), ph.length + 1, (Ex.one _ _).get (get_new _ _), ?_⟩
 have := get_new (ph ++ [tmO 0 (ph.length + 1) 0]) (PO.dct [])
 rw [List.length_append, List.length_singleton] at this
 exact this
theorem atI_last {α : Type} (ws : List α) (w : α) : atI (ws ++ [w]) (-1) = some w := by
 unfold atI ixN
 rw [if_neg (by decide), if_pos (by simp; omega)]
 simp
 have : (-1 + ((ws.length : Int) + 1)).toNat = ws.length := by omega
 rw [this]
 simp
theorem ixv_nat {ph : PH} {i k : Nat} {ws : List W} {w : W} (h : ph[i]? = some (.lst ws)) (hk : ws[k]? = some w) : lift (ixV (.ref i) (.int (k : Int))) ph = .ok w ph :=
 ixv_ref h (by rw [atI_nat _ _ (List.getElem?_eq_some_iff.mp hk).1]; exact hk)
def TL (ph : PH) (T : Nat) (rs : List Rw) (k : Nat) : Prop := ∃ ts : List Nat, ph[T]? = some (.lst (ts.map W.ref)) /\ ts.length = k + 1 /\ ∀ (j : Nat) i, ts[j]? = some i -> TA ph i (tm0.run (rs.take j))
theorem TL.ex {a b : PH} {T k : Nat} {rs : List Rw} (h : TL a T rs k) (x : Ex a b) : TL b T rs k := by
 obtain ⟨ts, h1, h2, h3⟩ := h
 exact ⟨ts, x.get h1, h2, fun j i e => (h3 j i e).ex x⟩
theorem timings_s {ph : PH} {l : Nat} {rs : List Rw} (hl : ph[l]? = some (.lst (rs.map Rw.W))) (hz : rs.length <= 100) : ∃ T ph', f_timings_of [.ref l] ph = .ok (.ref T) ph' /\ Ex ph ph' /\ TL ph' T rs rs.length := by
  unfold f_timings_of
  rw [fM_1]
  simp only [Nat.reduceSub, List.reduceReplicate]
  suffices key : ∃ T ph', b_timings_of [some (.ref l), none, none] ph = Out.ok (Fl.rt (.ref T)) ph' /\ Ex ph ph' /\ TL ph' T rs rs.length by
    obtain ⟨T, ph', k1, k2⟩ := key
    exact ⟨T, ph', by rw [bnd_ok k1]; rfl, k2⟩
  unfold b_timings_of
  obtain ⟨ph1, e1, x1, t1⟩ := new_t [some (.ref l), none, none] ph
  rw [seq_asg (w := .ref ph1.length) (ph1 := ph1 ++ [.lst [.ref ph.length]]) (by
    try simp only [EVA, Nat.reduceSub, List.reduceReplicate, List.set_cons_zero, List.set_cons_succ, if_true, if_false, ↓reduceIte, String.reduceEq, reduceCtorEq]
    rw [bnd_ok e1]
    try simp only [EVA, Nat.reduceSub, List.reduceReplicate, List.set_cons_zero, List.set_cons_succ, if_true, if_false, ↓reduceIte, String.reduceEq, reduceCtorEq]
    rw [new_ap _ _ (small (by simp))])]
  simp only [List.set_cons_zero, List.set_cons_succ]
  generalize hT : ph1.length = T
  have x2 : Ex ph1 (ph1 ++ [PO.lst [.ref ph.length]]) := Ex.one _ _
  have g2 : (ph1 ++ [PO.lst [.ref ph.length]])[T]? = some (.lst ([ph.length].map W.ref)) := by rw [<- hT]; exact get_new _ _
  generalize ph1 ++ [PO.lst [.ref ph.length]] = ph2 at x2 g2
  have hl1 := x1.get hl
  have hl2 := x2.get hl1
  rw [sSeq_ap]
  obtain ⟨σ', H, e, hI⟩ := forG_inv (chk := fun p => decide (p[l]? = some (.lst (rs.map Rw.W)))) (g := gN 2) (b := sExpr (eMeth isL appendW (eVar 1) (aCons (eCall f_timing_behind (aCons (eOp ixV (eVar 1) (eUn negW (eC (.int (1))))) (aCons (eVar 2) aNil))) aNil)))
    (fun k σ H => ∃ o, σ = [some (.ref l), some (.ref T), o] /\ Ex ph1 H /\ TL H T rs k) (rs.map Rw.W) [some (.ref l), some (.ref T), none] ph2
    (fun k σ H hI => by obtain ⟨_, _, x, _⟩ := hI; exact decide_eq_true (x.get hl1))
    (fun k w σ H hk hI => by
      obtain ⟨o, rfl, x, ts, a1, a2, a3⟩ := hI
      rw [List.getElem?_map] at hk
      cases hr : rs[k]? with
      | none => rw [hr] at hk; cases hk
      | some r =>
        rw [hr] at hk
        cases hk
        have hkl := (List.getElem?_eq_some_iff.mp hr).1
        have hne : ts ≠ [] := by intro z; rw [z] at a2; simp at a2
        obtain ⟨us, u, hu⟩ : ∃ us u, ts = us ++ [u] := ⟨ts.dropLast, ts.getLast hne, (List.dropLast_concat_getLast hne).symm⟩
        have hul : us.length = k := by rw [hu] at a2; simp at a2; exact a2
        have ta : TA H u (tm0.run (rs.take k)) := a3 k u (by rw [hu, <- hul]; simp)
        have ok := ok0.run (rs := rs.take k)
        obtain ⟨p, H', e1, x3, t3⟩ := behind_t ta ok (by rw [List.length_take]; omega) r
        have a1' := x3.get a1
        refine ⟨[some (.ref l), some (.ref T), some r.W], H, rfl, .nx [some (.ref l), some (.ref T), some r.W], H'.set T (.lst (ts.map W.ref ++ [.ref p])), ?_, _, .inl rfl, some r.W, rfl, ex_set (x.trans x3) (Nat.le_of_eq hT) _, ts ++ [p], ?_, ?_, ?_⟩
        · try simp only [EVA, Nat.reduceSub, List.reduceReplicate, List.set_cons_zero, List.set_cons_succ, if_true, if_false, ↓reduceIte, String.reduceEq, reduceCtorEq]
          rw [bnd_ok (chk_ref a1), bnd_ok (ixv_ref a1 (by rw [hu, List.map_append]; exact atI_last _ _)), bnd_ok e1]
          try simp only [EVA, Nat.reduceSub, List.reduceReplicate, List.set_cons_zero, List.set_cons_succ, if_true, if_false, ↓reduceIte, String.reduceEq, reduceCtorEq]
          rw [bnd_ok (append_ref a1' (by rw [List.length_map]; exact Nat.lt_of_lt_of_le (by omega) (small (n := 1000) (by omega))) _)]
          rfl
        · rw [List.getElem?_set_self (List.getElem?_eq_some_iff.mp a1').1, List.map_append]; rfl
        · simp [a2]
        · intro j i hj
          by_cases hjl : j < ts.length
          · rw [List.getElem?_append_left hjl] at hj
            exact ((a3 j i hj).ex x3).set a1'
          · have hjl2 := (List.getElem?_eq_some_iff.mp hj).1
            simp at hjl2
            have : j = ts.length := by omega
            subst this
            simp at hj
            subst hj
            rw [a2, List.take_add_one, hr]
            have := t3.set (ws' := ts.map W.ref ++ [.ref p]) a1'
            rw [Option.toList_some, Tm.run_append]
            exact this)
    ⟨none, rfl, x2, [ph.length], g2, rfl, fun j i hj => by
      cases j with
      | zero => simp at hj; subst hj; exact t1.ex x2
      | succ j => simp at hj⟩
  obtain ⟨o, rfl, x, tl⟩ := hI
  rw [List.length_map] at tl
  refine ⟨T, H, ?_, x1.trans x, tl⟩
  have ef : sFor (iBoth (eVar 0)) (gN 2) (sExpr (eMeth isL appendW (eVar 1) (aCons (eCall f_timing_behind (aCons (eOp ixV (eVar 1) (eUn negW (eC (.int (1))))) (aCons (eVar 2) aNil))) aNil))) [some (.ref l), some (.ref T), none] ph2 = .ok (.nx [some (.ref l), some (.ref T), o]) H := by
    unfold sFor
    rw [bnd_ok (iBoth_ref (m := eVar 0) (show eVar 0 [some (.ref l), some (.ref T), none] ph2 = .ok (.ref l) ph2 from rfl) hl2)]
    exact e
  rw [bnd_ok ef]
  try simp only [EVA, Nat.reduceSub, List.reduceReplicate, List.set_cons_zero, List.set_cons_succ, if_true, if_false, ↓reduceIte, String.reduceEq, reduceCtorEq]
end IL.K24
namespace IL.K24
open PySem L2
def ML (ph : PH) (M : Nat) (rs : List Rw) : Prop := ∃ ms : List Int, ph[M]? = some (.lst (ms.map W.int)) /\ ∀ j : Nat, j <= rs.length -> ms[j]? = some (mf (tm0.run (rs.take j)) (rs.drop j))
theorem ML.ex {a b : PH} {M : Nat} {rs : List Rw} (h : ML a M rs) (x : Ex a b) : ML b M rs := by
 obtain ⟨ms, h1, h2⟩ := h
 exact ⟨ms, x.get h1, h2⟩
theorem mf_at {rs : List Rw} {j : Nat} {r : Rw} (h : rs[j]? = some r) : mf (tm0.run (rs.take j)) (rs.drop j) = max (mf (tm0.run (rs.take (j + 1))) (rs.drop (j + 1))) ((tm0.run (rs.take (j + 1))).nb - 1 + r.wt) := by
 obtain ⟨hl, hr⟩ := List.getElem?_eq_some_iff.mp h
 rw [List.drop_eq_getElem_cons hl, hr, List.take_add_one, h, Option.toList_some, Tm.run_append]
 rfl
noncomputable def mostB : SM := (sSeq (sAsg (eOp subW (eFld "Timing" "next_beat" (eOp ixV (eVar 1) (eOp addW (eVar 3) (eC (.int (1)))))) (eC (.int (1)))) (gN 4)) (sAsg (eCallB max2W (aCons (eOp ixV (eVar 2) (eOp addW (eVar 3) (eC (.int (1))))) (aCons (eOp addW (eVar 4) (eCall f_wait_of (aCons (eOp ixV (eVar 0) (eVar 3)) aNil))) aNil))) (gSubV (eVar 2) (eVar 3))))
theorem mosts_s {ph : PH} {l T : Nat} {rs : List Rw} (hl : ph[l]? = some (.lst (rs.map Rw.W))) (hT : TL ph T rs rs.length) (hz : rs.length <= 100) : ∃ M ph', f_mosts_from [.ref l, .ref T] ph = .ok (.ref M) ph' /\ Ex ph ph' /\ ML ph' M rs := by
  unfold f_mosts_from
  rw [fM_2]
  simp only [Nat.reduceSub, List.reduceReplicate]
  suffices key : ∃ M ph', b_mosts_from [some (.ref l), some (.ref T), none, none, none] ph = Out.ok (Fl.rt (.ref M)) ph' /\ Ex ph ph' /\ ML ph' M rs by
    obtain ⟨M, ph', k1, k2⟩ := key
    exact ⟨M, ph', by rw [bnd_ok k1]; rfl, k2⟩
  unfold b_mosts_from
  obtain ⟨ts, t1, t2, t3⟩ := hT
  obtain ⟨ph1, c1, x1⟩ := comp_run (cap := [none]) (g := gN 0) (c := cTrue) (e := eC (.int (0))) (σ := [some (.ref l), some (.ref T), none, none, none]) ts W.ref (iBoth_ref (m := eVar 1) (show eVar 1 [some (.ref l), some (.ref T), none, none, none] ph = .ok (.ref T) ph from rfl) t1) (fun ph' x => decide_eq_true (x.get t1)) (small (by omega)) (fun _ => some (.int 0)) (fun σ => ∃ o, σ = [o]) ⟨_, rfl⟩ (by
    rintro t ht σ H ⟨o, rfl⟩ hx
    exact ⟨_, rfl, ⟨_, rfl⟩, true, H, rfl, Ex.refl _, .inr ⟨rfl, .int 0, H, rfl, Ex.refl _, rfl⟩⟩)
  rw [fm_some] at x1
  have e0 : (ts.map fun _ => W.int 0) = (ts.map fun _ => (0 : Int)).map W.int := by rw [List.map_map]; rfl
  rw [e0] at x1
  rw [seq_asg c1]
  simp only [List.set_cons_zero, List.set_cons_succ]
  generalize hM : ph.length = M at x1
  have g1 : ph1[M]? = some (.lst ((ts.map fun _ => (0 : Int)).map W.int)) := x1.get (by rw [<- hM]; exact get_new _ _)
  have xp : Ex ph ph1 := (Ex.one _ _).trans x1
  rw [sSeq_ap]
  have n1 := Int.ofNat_lt.mpr (Nat.lt_of_le_of_lt hz (by decide : 100 < 1000))
  obtain ⟨σ', H, e, hI⟩ := forG_inv (chk := fun _ => true) (g := gN 3) (b := mostB)
    (fun k σ H => ∃ o o', σ = [some (.ref l), some (.ref T), some (.ref M), o, o'] /\ Ex ph H /\ ∃ ms : List Int, H[M]? = some (.lst (ms.map W.int)) /\ ms.length = rs.length + 1 /\ ∀ j : Nat, j <= rs.length -> rs.length <= j + k -> ms[j]? = some (mf (tm0.run (rs.take j)) (rs.drop j)))
    (dwnW ((rs.length : Int) - 1) ((rs.length : Int) - 1 - -1).toNat) [some (.ref l), some (.ref T), some (.ref M), none, none] ph1
    (fun _ _ _ _ => rfl)
    (fun k w σ H hk hI => by
      obtain ⟨o, o', rfl, x, ms, a1, a2, a3⟩ := hI
      obtain ⟨hkn, rfl⟩ := dwnW_get hk
      have hkn : k < rs.length := by omega
      obtain ⟨p, hp⟩ : ∃ p : Nat, p + k + 1 = rs.length := ⟨rs.length - 1 - k, by omega⟩
      have ep : (rs.length : Int) - 1 - (k : Int) = (p : Int) := by omega
      rw [ep]
      have hpl : p < rs.length := by omega
      obtain ⟨r, hr⟩ : ∃ r, rs[p]? = some r := ⟨rs[p], List.getElem?_eq_getElem hpl⟩
      obtain ⟨ti, hti⟩ : ∃ i, ts[p + 1]? = some i := ⟨ts[p + 1]'(by omega), List.getElem?_eq_getElem _⟩
      obtain ⟨d, ta⟩ := (t3 (p + 1) ti hti).ex x
      have am := a3 (p + 1) (by omega) (by omega)
      have hrow : (rs.map Rw.W)[p]? = some r.W := by rw [List.getElem?_map, hr]; rfl
      have htr : (ts.map W.ref)[p + 1]? = some (.ref ti) := by rw [List.getElem?_map, hti]; rfl
      have hmr : (ms.map W.int)[p + 1]? = some (.int (mf (tm0.run (rs.take (p + 1))) (rs.drop (p + 1)))) := by rw [List.getElem?_map, am]; rfl
      have c1 : ((p : Int) + 1) = ((p + 1 : Nat) : Int) := by omega
      refine ⟨[some (.ref l), some (.ref T), some (.ref M), some (.int (p : Int)), o'], H, rfl, .nx [some (.ref l), some (.ref T), some (.ref M), some (.int (p : Int)), some (.int ((tm0.run (rs.take (p + 1))).nb - 1))], H.set M (.lst ((ms.set p (mf (tm0.run (rs.take p)) (rs.drop p))).map W.int)), ?_, _, .inl rfl, _, _, rfl, ex_set x (Nat.le_of_eq hM) _, ms.set p (mf (tm0.run (rs.take p)) (rs.drop p)), ?_, ?_, ?_⟩
      · unfold mostB
        try simp only [EVA, Nat.reduceSub, List.reduceReplicate, List.set_cons_zero, List.set_cons_succ, if_true, if_false, ↓reduceIte, String.reduceEq, reduceCtorEq, eFld_ap]
        rw [c1, bnd_ok (ixv_nat (x.get t1) htr), bnd_ok (fld_obj ta.ob (tm_nb _ _ _))]
        try simp only [EVA, Nat.reduceSub, List.reduceReplicate, List.set_cons_zero, List.set_cons_succ, if_true, if_false, ↓reduceIte, String.reduceEq, reduceCtorEq]
        rw [bnd_ok (ixv_nat a1 hmr), bnd_ok (ixv_nat (x.get hl) hrow), bnd_ok (wait_s r H)]
        try simp only [EVA, Nat.reduceSub, List.reduceReplicate, List.set_cons_zero, List.set_cons_succ, if_true, if_false, ↓reduceIte, String.reduceEq, reduceCtorEq]
        rw [bnd_ok (setv_ref a1 (j := p) (by unfold ixN; rw [if_pos (by omega), if_pos (by rw [List.length_map]; omega)]; simp) _)]
        have mx : ∀ a b : Int, (if b > a then b else a) = max a b := fun a b => by split <;> omega
        rw [mx, mf_at hr, <- List.map_set]
        rfl
      · exact List.getElem?_set_self (List.getElem?_eq_some_iff.mp a1).1
      · rw [List.length_set]; exact a2
      · intro j h1 h2
        by_cases hj : j = p
        · subst hj
          rw [List.getElem?_set_self (by omega)]
        · rw [List.getElem?_set_ne (Ne.symm hj)]
          exact a3 j h1 (by omega))
    ⟨none, none, rfl, xp, _, g1, by simp [t2], fun j h1 h2 => by
      have : j = rs.length := by omega
      subst this
      rw [List.drop_length, List.getElem?_map]
      obtain ⟨i, hi⟩ : ∃ i, ts[rs.length]? = some i := ⟨ts[rs.length]'(by omega), List.getElem?_eq_getElem _⟩
      rw [hi]
      rfl⟩
  obtain ⟨o, o', rfl, x, ms, a1, a2, a3⟩ := hI
  rw [dwnW_len] at a3
  refine ⟨M, H, ?_, x, ms, a1, fun j h1 => a3 j h1 (by omega)⟩
  have ef : sFor (iR3 (aCons (eOp subW (eCallB lenW (aCons (eVar 0) aNil)) (eC (.int (1)))) (aCons (eUn negW (eC (.int (1)))) (aCons (eUn negW (eC (.int (1)))) aNil)))) (gN 3) mostB [some (.ref l), some (.ref T), some (.ref M), none, none] ph1 = .ok (.nx [some (.ref l), some (.ref T), some (.ref M), o, o']) H := by
    unfold sFor
    rw [bnd_ok (iR3_ap (i := (rs.length : Int) - 1) (j := -1) (ph' := ph1) (by
      try simp only [EVA, Nat.reduceSub, List.reduceReplicate, List.set_cons_zero, List.set_cons_succ, if_true, if_false, ↓reduceIte, String.reduceEq, reduceCtorEq]
      rw [bnd_ok (len_ref (xp.get hl)), List.length_map]
      try simp only [EVA, Nat.reduceSub, List.reduceReplicate, List.set_cons_zero, List.set_cons_succ, if_true, if_false, ↓reduceIte, String.reduceEq, reduceCtorEq]) (by omega) (by omega) (by decide) (by decide))]
    exact e
  unfold mostB at ef
  rw [bnd_ok ef]
  try simp only [EVA, Nat.reduceSub, List.reduceReplicate, List.set_cons_zero, List.set_cons_succ, if_true, if_false, ↓reduceIte, String.reduceEq, reduceCtorEq]
theorem from_s {ph : PH} {l T M tm p n : Nat} {rs : List Rw} {t : Tm} (hl : ph[l]? = some (.lst (rs.map Rw.W))) (hT : TL ph T rs rs.length) (hM : ML ph M rs) (ht : TA ph tm t) (hk : t.ok n) (hp : p <= rs.length) (hz : rs.length <= 100) (hn : n <= 200) :
    ∃ ph', f_beats_from [.ref l, .ref T, .ref M, .ref tm, .int (p : Int)] ph = .ok (.int (t.run (rs.drop p)).most) ph' /\ Ex ph ph' := by
  unfold f_beats_from
  rw [fM_5]
  simp only [Nat.reduceSub, List.reduceReplicate]
  suffices key : ∃ ph', b_beats_from [some (.ref l), some (.ref T), some (.ref M), some (.ref tm), some (.int (p : Int))] ph = Out.ok (Fl.rt (.int (t.run (rs.drop p)).most)) ph' /\ Ex ph ph' by
    obtain ⟨ph', k1, k2⟩ := key
    exact ⟨ph', by rw [bnd_ok k1]; rfl, k2⟩
  unfold b_beats_from
  obtain ⟨ts, t1, t2, t3⟩ := hT
  obtain ⟨ms, m1, m2⟩ := hM
  obtain ⟨σ', H, e, hD⟩ := while_inv (t := tAndM (eT (eOp ltW (eVar 4) (eCallB lenW (aCons (eVar 0) aNil)))) (eT (eOp neV (eFld "Timing" "waits" (eVar 3)) (eFld "Timing" "waits" (eOp ixV (eVar 1) (eVar 4))))))
    (b := sSeq (sAsg (eCall f_timing_behind (aCons (eVar 3) (aCons (eOp ixV (eVar 0) (eVar 4)) aNil))) (gN 3)) (sAsg (eOp augA (eVar 4) (eC (.int (1)))) (gN 4)))
    (fun k σ H => ∃ (tm' q n' : Nat) (t' : Tm), σ = [some (.ref l), some (.ref T), some (.ref M), some (.ref tm'), some (.int (q : Int))] /\ Ex ph H /\ TA H tm' t' /\ t'.ok n' /\ q <= rs.length /\ q + k = rs.length /\ n' + k <= 300 /\ (t'.run (rs.drop q)).most = (t.run (rs.drop p)).most)
    (fun σ H => ∃ (tm' q n' : Nat) (t' : Tm), σ = [some (.ref l), some (.ref T), some (.ref M), some (.ref tm'), some (.int (q : Int))] /\ Ex ph H /\ TA H tm' t' /\ t'.ok n' /\ q <= rs.length /\ (t'.run (rs.drop q)).most = (t.run (rs.drop p)).most /\ (q < rs.length -> Sm t'.m (tm0.run (rs.take q)).m))
    (by
      rintro k σ H ⟨tm', q, n', t', rfl, x, ta, ok, hq, hk, hn', hm⟩
      by_cases hql : q < rs.length
      · obtain ⟨ti, hti⟩ : ∃ i, ts[q]? = some i := ⟨ts[q]'(by omega), List.getElem?_eq_getElem _⟩
        obtain ⟨d, td⟩ := ta
        obtain ⟨d2, td2⟩ := (t3 q ti hti).ex x
        have htr : (ts.map W.ref)[q]? = some (.ref ti) := by rw [List.getElem?_map, hti]; rfl
        obtain ⟨c, ec, kc⟩ := eqDct_m H t'.m (tm0.run (rs.take q)).m ok.nd
        have et : tAndM (eT (eOp ltW (eVar 4) (eCallB lenW (aCons (eVar 0) aNil)))) (eT (eOp neV (eFld "Timing" "waits" (eVar 3)) (eFld "Timing" "waits" (eOp ixV (eVar 1) (eVar 4))))) [some (.ref l), some (.ref T), some (.ref M), some (.ref tm'), some (.int (q : Int))] H = .ok (!c) H := by
          try simp only [EVA, Nat.reduceSub, List.reduceReplicate, List.set_cons_zero, List.set_cons_succ, if_true, if_false, ↓reduceIte, String.reduceEq, reduceCtorEq]
          rw [bnd_ok (len_ref (x.get hl)), List.length_map]
          try simp only [EVA, Nat.reduceSub, List.reduceReplicate, List.set_cons_zero, List.set_cons_succ, if_true, if_false, ↓reduceIte, String.reduceEq, reduceCtorEq, decide_eq_true (Int.ofNat_lt.mpr hql), eFld_ap]
          rw [bnd_ok (fld_obj td.ob (tm_wa _ _ _))]
          try simp only [EVA, Nat.reduceSub, List.reduceReplicate, List.set_cons_zero, List.set_cons_succ, if_true, if_false, ↓reduceIte, String.reduceEq, reduceCtorEq]
          rw [bnd_ok (ixv_nat (x.get t1) htr), bnd_ok (fld_obj td2.ob (tm_wa _ _ _)), bnd_ok (neV_dct td.dc td2.dc ec)]
          try simp only [EVA, Nat.reduceSub, List.reduceReplicate, List.set_cons_zero, List.set_cons_succ, if_true, if_false, ↓reduceIte, String.reduceEq, reduceCtorEq]
        cases hc : c with
        | true =>
          rw [hc] at et
          exact .inl ⟨H, et, tm', q, n', t', rfl, x, ⟨d, td⟩, ok, hq, hm, fun _ => kc hc⟩
        | false =>
          rw [hc] at et
          obtain ⟨r, hr⟩ : ∃ r, rs[q]? = some r := ⟨rs[q], List.getElem?_eq_getElem hql⟩
          have hrow : (rs.map Rw.W)[q]? = some r.W := by rw [List.getElem?_map, hr]; rfl
          obtain ⟨p2, H2, e2, x2, t2'⟩ := behind_t ⟨d, td⟩ ok (by omega) r
          refine .inr ⟨H, et, .nx [some (.ref l), some (.ref T), some (.ref M), some (.ref p2), some (.int ((q + 1 : Nat) : Int))], H2, ?_, _, .inl rfl, k - 1, by omega, p2, q + 1, n' + 1, t'.go r, rfl, x.trans x2, t2', ok.go r, by omega, by omega, by omega, ?_⟩
          · try simp only [EVA, Nat.reduceSub, List.reduceReplicate, List.set_cons_zero, List.set_cons_succ, if_true, if_false, ↓reduceIte, String.reduceEq, reduceCtorEq]
            rw [bnd_ok (ixv_nat (x.get hl) hrow)]
            rw [bnd_ok e2]
            try simp only [EVA, Nat.reduceSub, List.reduceReplicate, List.set_cons_zero, List.set_cons_succ, if_true, if_false, ↓reduceIte, String.reduceEq, reduceCtorEq, l_augA]
            rfl
          · rw [<- hm, List.drop_eq_getElem_cons hql, (List.getElem?_eq_some_iff.mp hr).2]
            rfl
      · refine .inl ⟨H, ?_, tm', q, n', t', rfl, x, ta, ok, hq, hm, fun z => absurd z hql⟩
        try simp only [EVA, Nat.reduceSub, List.reduceReplicate, List.set_cons_zero, List.set_cons_succ, if_true, if_false, ↓reduceIte, String.reduceEq, reduceCtorEq]
        rw [bnd_ok (len_ref (x.get hl)), List.length_map]
        have : ¬ ((q : Int) < (rs.length : Int)) := by omega
        try simp only [EVA, Nat.reduceSub, List.reduceReplicate, List.set_cons_zero, List.set_cons_succ, if_true, if_false, ↓reduceIte, String.reduceEq, reduceCtorEq, decide_eq_false this])
    (rs.length - p) [some (.ref l), some (.ref T), some (.ref M), some (.ref tm), some (.int (p : Int))] ph ⟨tm, p, n, t, rfl, Ex.refl _, ht, hk, hp, by omega, by omega, rfl⟩
  obtain ⟨tm', q, n', t', rfl, x, ta, ok, hq, hm, hs⟩ := hD
  rw [sSeq_ap, bnd_ok e]
  refine ⟨H, ?_, x⟩
  obtain ⟨d, td⟩ := ta
  try simp only [EVA, Nat.reduceSub, List.reduceReplicate, List.set_cons_zero, List.set_cons_succ, if_true, if_false, ↓reduceIte, String.reduceEq, reduceCtorEq]
  rw [bnd_ok (len_ref (x.get hl)), List.length_map]
  try simp only [EVA, Nat.reduceSub, List.reduceReplicate, List.set_cons_zero, List.set_cons_succ, if_true, if_false, ↓reduceIte, String.reduceEq, reduceCtorEq]
  by_cases hql : q = rs.length
  · subst hql
    try simp only [EVA, Nat.reduceSub, List.reduceReplicate, List.set_cons_zero, List.set_cons_succ, if_true, if_false, ↓reduceIte, String.reduceEq, reduceCtorEq, decide_eq_true (rfl : (rs.length : Int) = (rs.length : Int)), eFld_ap]
    rw [bnd_ok (fld_obj td.ob (tm_mo _ _ _)), <- hm, List.drop_length]
    rfl
  · have hlt : q < rs.length := by omega
    have hne : ¬ ((q : Int) = (rs.length : Int)) := by omega
    obtain ⟨ti, hti⟩ : ∃ i, ts[q]? = some i := ⟨ts[q]'(by omega), List.getElem?_eq_getElem _⟩
    obtain ⟨d2, td2⟩ := (t3 q ti hti).ex x
    have htr : (ts.map W.ref)[q]? = some (.ref ti) := by rw [List.getElem?_map, hti]; rfl
    have hmr : (ms.map W.int)[q]? = some (.int (mf (tm0.run (rs.take q)) (rs.drop q))) := by rw [List.getElem?_map, m2 q hq]; rfl
    try simp only [EVA, Nat.reduceSub, List.reduceReplicate, List.set_cons_zero, List.set_cons_succ, if_true, if_false, ↓reduceIte, String.reduceEq, reduceCtorEq, decide_eq_false hne, eFld_ap]
    rw [bnd_ok (fld_obj td.ob (tm_mo _ _ _))]
    try simp only [EVA, Nat.reduceSub, List.reduceReplicate, List.set_cons_zero, List.set_cons_succ, if_true, if_false, ↓reduceIte, String.reduceEq, reduceCtorEq]
    rw [bnd_ok (ixv_nat (x.get m1) hmr), bnd_ok (fld_obj td.ob (tm_nb _ _ _))]
    try simp only [EVA, Nat.reduceSub, List.reduceReplicate, List.set_cons_zero, List.set_cons_succ, if_true, if_false, ↓reduceIte, String.reduceEq, reduceCtorEq]
    rw [bnd_ok (ixv_nat (x.get t1) htr), bnd_ok (fld_obj td2.ob (tm_nb _ _ _))]
    try simp only [EVA, Nat.reduceSub, List.reduceReplicate, List.set_cons_zero, List.set_cons_succ, if_true, if_false, ↓reduceIte, String.reduceEq, reduceCtorEq]
    have mx : ∀ a b : Int, (if b > a then b else a) = max a b := fun a b => by split <;> omega
    have hj := joined (t := t') (u := tm0.run (rs.take q)) (n := n' + 300) (rs := rs.drop q) (by intro z; have := congrArg List.length z; simp at this; omega) (ok.mono (by omega)) ((ok0.run (rs := rs.take q)).mono (by rw [List.length_take]; omega)) (hs hlt)
    rw [mx, hj, hm]
end IL.K24
namespace IL.K24
open PySem L2
def Rw.out : Rw -> Bool
 | .take _ => true
 | .tell _ => true
 | .turn => true
 | .dd _ .part _ _ => true
 | _ => false
theorem out_s (r : Rw) (ph : PH) : f_is_outward [r.W] ph = .ok (.bl r.out) ph := by
 unfold f_is_outward b_is_outward
 cases r with
 | dd d w a b =>
  cases w <;>
  ·simp only [Rw.W, Wd.S]
   try simp only [EVA, Nat.reduceSub, List.reduceReplicate, List.set_cons_zero, List.set_cons_succ, if_true, if_false, ↓reduceIte, String.reduceEq, reduceCtorEq]
   rfl
 | _ =>
  simp only [Rw.W]
  try simp only [EVA, Nat.reduceSub, List.reduceReplicate, List.set_cons_zero, List.set_cons_succ, if_true, if_false, ↓reduceIte, String.reduceEq, reduceCtorEq]
  rfl
def tD (t : Th) : PyData := .tuple [.str (tS t.1), .int t.2]
theorem tD_eqv (a b : Th) : PyData.eqv (tD a) (tD b) = decide (a = b) := by
 unfold tD
 rw [eqv_t2, eqv_s, eqv_i]
 obtain ⟨a1, a2⟩ := a
 obtain ⟨b1, b2⟩ := b
 have : (tS a1 = tS b1) ↔ a1 = b1 := ⟨tS_inj, fun e => by rw [e]⟩
 simp [this]
theorem tD_dat (ph : PH) (t : Th) : dat ph 40 (tW t) = some (tD t) := by
 have h : PyData.strOk (tS t.1) = true := by unfold tS; split <;> exact so _
 unfold tW dat
 simp only [mapO, dat, h, if_true, Option.map_some]
 rfl
theorem in_tW {ph : PH} {i : Nat} {us : List Th} (h : ph[i]? = some (.lst (us.map tW))) (t : Th) : lift (inV (tW t) (.ref i)) ph = .ok (.bl (decide (t ∈ us))) ph := by
 rw [inv_ref h (mapO_map (dat ph 40) tW tD (fun t => tD_dat ph t) us) (tD_dat ph t)]
 congr 2
 induction us with
 | nil => simp
 | cons u us ih =>
  have ih' : ((us.map tD).any fun e => PyData.eqv e (tD t)) = decide (t ∈ us) := by
   clear h ih
   induction us with
   | nil => simp
   | cons v us ih => rw [List.map_cons, List.any_cons, ih, tD_eqv]; simp [eq_comm]
  rw [List.map_cons, List.any_cons, ih', tD_eqv]
  simp [eq_comm]
def shareT (ts us : List Th) : Bool := ts.any fun t => decide (t ∈ us)
theorem share_s {ph : PH} {a b : Nat} {ts us : List Th} (ha : ph[a]? = some (.lst (ts.map tW))) (hb : ph[b]? = some (.lst (us.map tW))) (hz : ts.length <= 1000) : ∃ ph', f_share [.ref a, .ref b] ph = .ok (.bl (shareT ts us)) ph' /\ Ex ph ph' := by
 unfold f_share b_share
 obtain ⟨ph1, c1, x1⟩ := comp_run (cap := [none, some 1]) (g := gN 0) (c := cTrue) (e := eOp inV (eVar 0) (eVar 1)) (σ := [some (.ref a), some (.ref b)]) ts tW (iBoth_ref (m := eVar 0) (show eVar 0 [some (.ref a), some (.ref b)] ph = .ok (.ref a) ph from rfl) ha) (fun ph' x => decide_eq_true (x.get ha)) (small (by omega)) (fun t => some (.bl (decide (t ∈ us)))) (fun σ => ∃ o, σ = [o, some (.ref b)]) ⟨_, rfl⟩ (by
  rintro t ht σ H ⟨o, rfl⟩ hx
  refine ⟨_, rfl, ⟨_, rfl⟩, true, H, rfl, Ex.refl _, .inr ⟨rfl, .bl (decide (t ∈ us)), H, ?_, Ex.refl _, rfl⟩⟩
  show eOp inV (eVar 0) (eVar 1) [some (tW t), some (.ref b)] H = _
  try simp only [EVA, Nat.reduceSub, List.reduceReplicate, List.set_cons_zero, List.set_cons_succ, if_true, if_false, ↓reduceIte, String.reduceEq, reduceCtorEq]
  rw [in_tW (hx.get hb)])
 rw [fm_some] at x1
 have e0 : (ts.map fun t => W.bl (decide (t ∈ us))) = (ts.map fun t => decide (t ∈ us)).map W.bl := by rw [List.map_map]; rfl
 rw [e0] at x1
 refine ⟨ph1, ?_, (Ex.one _ _).trans x1⟩
 rw [fM_2]
 simp only [Nat.reduceSub, List.reduceReplicate]
 try simp only [EVA, Nat.reduceSub, List.reduceReplicate, List.set_cons_zero, List.set_cons_succ, if_true, if_false, ↓reduceIte, String.reduceEq, reduceCtorEq]
 rw [bnd_ok c1]
 rw [bnd_ok (any_ref (x1.get (get_new _ _)))]
 try simp only [EVA, Nat.reduceSub, List.reduceReplicate, List.set_cons_zero, List.set_cons_succ, if_true, if_false, ↓reduceIte, String.reduceEq, reduceCtorEq]
 unfold shareT
 rw [List.any_map]
 rfl
def bound (x y : Rw) : Bool := (x.out && y.out) || (shareT x.wr (y.rd ++ y.wr) || shareT y.wr x.rd)
theorem rd_len (r : Rw) : r.rd.length <= 2 := by cases r <;> simp [Rw.rd]
theorem bound_s (x y : Rw) (ph : PH) : ∃ ph', f_are_bound [x.W, y.W] ph = .ok (.bl (bound x y)) ph' /\ Ex ph ph' := by
 unfold f_are_bound b_are_bound bound
 try simp only [EVA, Nat.reduceSub, List.reduceReplicate, List.set_cons_zero, List.set_cons_succ, if_true, if_false, ↓reduceIte, String.reduceEq, reduceCtorEq]
 rw [bnd_ok (out_s x ph)]
 have rest : ∃ ph', (bnd (f_things_written [x.W]) fun a => bnd (f_things_read [y.W]) fun x_1 => bnd (f_things_written [y.W]) fun y_1 => bnd (lift (addW x_1 y_1)) fun w => bnd (f_share [a, w]) fun w_1 => bnd (lift (truW w_1)) fun c => if c = true then pur (.bl true) else bnd (f_things_written [y.W]) fun a => bnd (f_things_read [x.W]) fun a_1 => bnd (f_share [a, a_1]) fun w => pur w) ph = .ok (.bl (shareT x.wr (y.rd ++ y.wr) || shareT y.wr x.rd)) ph' /\ Ex ph ph' := by
  rw [bnd_ok (written_s x ph), bnd_ok (read_s y _), bnd_ok (written_s y _)]
  have lx := wr_len x
  have ly := wr_len y
  have lr := rd_len y
  generalize h1 : ph ++ [PO.lst (x.wr.map tW)] = p1
  have x1 : Ex ph p1 := by rw [<- h1]; exact Ex.one _ _
  have g1 : p1[ph.length]? = some (.lst (x.wr.map tW)) := by rw [<- h1]; exact get_new _ _
  generalize h2 : p1 ++ [PO.lst (y.rd.map tW)] = p2
  have x2 : Ex p1 p2 := by rw [<- h2]; exact Ex.one _ _
  have g2 : p2[p1.length]? = some (.lst (y.rd.map tW)) := by rw [<- h2]; exact get_new _ _
  generalize h3 : p2 ++ [PO.lst (y.wr.map tW)] = p3
  have x3 : Ex p2 p3 := by rw [<- h3]; exact Ex.one _ _
  have g3 : p3[p2.length]? = some (.lst (y.wr.map tW)) := by rw [<- h3]; exact get_new _ _
  rw [bnd_ok (add_ref (x3.get g2) g3 (small (by simp; omega))), <- List.map_append]
  generalize h4 : p3 ++ [PO.lst ((y.rd ++ y.wr).map tW)] = p4
  have x4 : Ex p3 p4 := by rw [<- h4]; exact Ex.one _ _
  have g4 : p4[p3.length]? = some (.lst ((y.rd ++ y.wr).map tW)) := by rw [<- h4]; exact get_new _ _
  obtain ⟨p5, e5, x5⟩ := share_s (x4.get (x3.get (x2.get g1))) g4 (by omega)
  rw [bnd_ok e5]
  try simp only [EVA, Nat.reduceSub, List.reduceReplicate, List.set_cons_zero, List.set_cons_succ, if_true, if_false, ↓reduceIte, String.reduceEq, reduceCtorEq]
  have xa : Ex ph p5 := (((x1.trans x2).trans x3).trans x4).trans x5
  cases hs : shareT x.wr (y.rd ++ y.wr) with
  | true => exact ⟨p5, rfl, xa⟩
  | false =>
   simp only [Bool.false_eq_true, if_false, Bool.false_or]
   rw [bnd_ok (written_s y p5), bnd_ok (read_s x _)]
   obtain ⟨p6, e6, x6⟩ := share_s (ph := p5 ++ [.lst (y.wr.map tW)] ++ [.lst (x.rd.map tW)]) ((Ex.one _ _).get (get_new _ _)) (get_new _ _) (by omega)
   rw [bnd_ok e6]
   exact ⟨p6, rfl, xa.trans (((Ex.one _ _).trans (Ex.one _ _)).trans x6)⟩
 cases hx : x.out with
 | false =>
  try simp only [EVA, Nat.reduceSub, List.reduceReplicate, List.set_cons_zero, List.set_cons_succ, if_true, if_false, ↓reduceIte, String.reduceEq, reduceCtorEq]
  exact rest
 | true =>
  try simp only [EVA, Nat.reduceSub, List.reduceReplicate, List.set_cons_zero, List.set_cons_succ, if_true, if_false, ↓reduceIte, String.reduceEq, reduceCtorEq]
  rw [bnd_ok (out_s y ph)]
  try simp only [EVA, Nat.reduceSub, List.reduceReplicate, List.set_cons_zero, List.set_cons_succ, if_true, if_false, ↓reduceIte, String.reduceEq, reduceCtorEq]
  cases hy : y.out with
  | true => exact ⟨ph, rfl, Ex.refl _⟩
  | false => exact rest
inductive Sw (a : List Rw) : List Rw -> Prop where
 | refl : Sw a a
 | step {p q : List Rw} {x y : Rw} : Sw a (p ++ x :: y :: q) -> bound x y = false -> Sw a (p ++ y :: x :: q)
theorem Sw.trans {a b c : List Rw} (h : Sw a b) (k : Sw b c) : Sw a c := by
 induction k with
 | refl => exact h
 | step _ hb ih => exact .step ih hb
theorem Sw.len {a b : List Rw} (h : Sw a b) : b.length = a.length := by
 induction h with
 | refl => rfl
 | step _ _ ih => rw [<- ih]; simp
def Best (rs : List Rw) : Prop := ∀ (p q : List Rw) (x y : Rw), rs = p ++ x :: y :: q -> bound x y = false -> bt rs <= bt (p ++ y :: x :: q)
theorem cut2 {rs : List Rw} {k : Nat} (h : k + 1 < rs.length) : rs = rs.take k ++ rs[k] :: rs[k + 1] :: rs.drop (k + 2) := by
 rw [show rs[k] :: rs[k + 1] :: rs.drop (k + 2) = rs.drop k by rw [List.drop_eq_getElem_cons (show k < rs.length by omega), List.drop_eq_getElem_cons h], List.take_append_drop]
noncomputable def impB : SM := (sSeq (sAsg (eOp ixV (eVar 3) (eVar 6)) (gN 7)) (sSeq (sAsg (eOp ixV (eVar 3) (eOp addW (eVar 6) (eC (.int (1))))) (gN 8)) (sSeq (sAsg (eCall f_timing_behind (aCons (eCall f_timing_behind (aCons (eVar 5) (aCons (eVar 8) aNil))) (aCons (eVar 7) aNil))) (gN 9)) (sSeq (sAsg (eCall f_beats_from (aCons (eVar 0) (aCons (eVar 1) (aCons (eVar 2) (aCons (eVar 9) (aCons (eOp addW (eVar 6) (eC (.int (2)))) aNil)))))) (gN 10)) (sSeq (sIf (tAndM (eT (eOp ltW (eVar 10) (eVar 4))) (tNotM (eTru (eCall f_are_bound (aCons (eVar 7) (aCons (eVar 8) aNil)))))) (sSeq (sAsg (eVar 8) (gSubV (eVar 3) (eVar 6))) (sSeq (sAsg (eVar 7) (gSubV (eVar 3) (eOp addW (eVar 6) (eC (.int (1)))))) (sAsg (eVar 10) (gN 4)))) sNext) (sAsg (eCall f_timing_behind (aCons (eVar 5) (aCons (eOp ixV (eVar 3) (eVar 6)) aNil))) (gN 5)))))))
abbrev S11 (l T M D : Nat) (f : Int) (tm : Nat) (a b c d e : Option W) : PSt := [some (.ref l), some (.ref T), some (.ref M), some (.ref D), some (.int f), some (.ref tm), a, b, c, d, e]
structure At (ph H : PH) (rs : List Rw) (D tm k : Nat) (f : Int) (tl : List Rw) : Prop where
 ex : Ex ph H
 tls : H[D]? = some (.lst (tl.map Rw.W))
 ln : tl.length = rs.length
 dr : tl.drop (k + 1) = rs.drop (k + 1)
 ta : TA H tm (tm0.run (tl.take k))
 fe : f = bt tl
 sw : Sw rs tl
 best : (tl = rs /\ ∀ j (h : j + 1 < rs.length), j < k -> bound rs[j] rs[j + 1] = false -> bt rs <= bt (rs.take j ++ rs[j + 1] :: rs[j] :: rs.drop (j + 2))) \/ bt tl < bt rs
theorem set_two {tl : List Rw} {k : Nat} (h : k + 1 < tl.length) : (tl.set k tl[k + 1]).set (k + 1) tl[k] = tl.take k ++ tl[k + 1] :: tl[k] :: tl.drop (k + 2) := by
 apply List.ext_getElem?
 intro j
 by_cases h1 : j = k + 1
 ·subst h1
  rw [List.getElem?_set_self (by rw [List.length_set]; exact h), List.getElem?_append_right (by rw [List.length_take]; omega), List.length_take]
  rw [show k + 1 - min k tl.length = 1 by omega]
  rfl
 ·rw [List.getElem?_set_ne (Ne.symm h1)]
  by_cases h2 : j = k
  ·subst h2
   rw [List.getElem?_set_self (by omega), List.getElem?_append_right (by rw [List.length_take]; omega), List.length_take, show j - min j tl.length = 0 by omega]
   rfl
  ·rw [List.getElem?_set_ne (Ne.symm h2)]
   by_cases h3 : j < k
   ·rw [List.getElem?_append_left (by rw [List.length_take]; omega), List.getElem?_take_of_lt h3]
   ·rw [List.getElem?_append_right (by rw [List.length_take]; omega), List.length_take, show j - min k tl.length = (j - k - 2) + 1 + 1 by omega, List.getElem?_cons_succ, List.getElem?_cons_succ, List.getElem?_drop]
    congr 1
    omega
theorem imp_step {ph H : PH} {l T M D tm k : Nat} {rs : List Rw} {f : Int} {tl : List Rw} (hl : ph[l]? = some (.lst (rs.map Rw.W))) (hT : TL ph T rs rs.length) (hM : ML ph M rs) (hz : rs.length <= 50) (hD : ph.length <= D) (hk : k + 1 < rs.length) (h : At ph H rs D tm k f tl) (a b c d : Option W) :
  ∃ f' tm' a' b' c' d' H' tl', impB (S11 l T M D f tm (some (.int (k : Int))) a b c d) H = .ok (.nx (S11 l T M D f' tm' (some (.int (k : Int))) a' b' c' d')) H' /\ At ph H' rs D tm' (k + 1) f' tl' := by
 have k1 : k < tl.length := by have := h.ln; omega
 have k2 : k + 1 < tl.length := by have := h.ln; omega
 have r1 : (tl.map Rw.W)[k]? = some tl[k].W := by rw [List.getElem?_map, List.getElem?_eq_getElem k1]; rfl
 have r2 : (tl.map Rw.W)[k + 1]? = some tl[k + 1].W := by rw [List.getElem?_map, List.getElem?_eq_getElem k2]; rfl
 have c1 : ((k : Int) + 1) = ((k + 1 : Nat) : Int) := by omega
 have c2 : ((k : Int) + 2) = ((k + 2 : Nat) : Int) := by omega
 generalize hx : tl[k] = x at r1
 generalize hy : tl[k + 1] = y at r2
 have ok := ok0.run (rs := tl.take k)
 have okl : (tl.take k).length <= 50 := by rw [List.length_take]; have := h.ln; omega
 obtain ⟨p1, H1, e1, x1, t1⟩ := behind_t h.ta ok (by omega) y
 obtain ⟨p2, H2, e2, x2, t2⟩ := behind_t t1 (ok.go y) (by omega) x
 have hx2 := (h.ex.trans x1).trans x2
 obtain ⟨H3, e3, x3⟩ := from_s (p := k + 2) (hx2.get hl) (hT.ex hx2) (hM.ex hx2) t2 ((ok.go y).go x) (by omega) (by omega) (by omega)
 have d2 : tl.drop (k + 2) = rs.drop (k + 2) := by
  have := congrArg (List.drop 1) h.dr
  rwa [List.drop_drop, List.drop_drop] at this
 have need : (((((tm0.run (tl.take k)).go y).go x).run (rs.drop (k + 2))).most) = bt (tl.take k ++ y :: x :: tl.drop (k + 2)) := by
  unfold bt
  rw [d2, Tm.run_append]
  rfl
 rw [need] at e3
 generalize hn : bt (tl.take k ++ y :: x :: tl.drop (k + 2)) = nd at e3
 have x03 : Ex H H3 := (x1.trans x2).trans x3
 have g3 := x03.get h.tls
 have dr1 : tl.drop (k + 1 + 1) = rs.drop (k + 1 + 1) := d2
 have fin : ∀ (g : Int) (tl' : List Rw) (H4 : PH), Ex ph H4 -> TA H4 tm (tm0.run (tl.take k)) -> H4[D]? = some (.lst (tl'.map Rw.W)) -> tl'.length = rs.length -> tl'.take k = tl.take k -> tl'.drop (k + 2) = rs.drop (k + 2) -> g = bt tl' -> Sw rs tl' →
   ((tl' = rs /\ ∀ j (h : j + 1 < rs.length), j < k + 1 -> bound rs[j] rs[j + 1] = false -> bt rs <= bt (rs.take j ++ rs[j + 1] :: rs[j] :: rs.drop (j + 2))) \/ bt tl' < bt rs) →
   ∃ f' tm' a' b' c' d' H' tl'', sAsg (eCall f_timing_behind (aCons (eVar 5) (aCons (eOp ixV (eVar 3) (eVar 6)) aNil))) (gN 5) (S11 l T M D g tm (some (.int (k : Int))) (some x.W) (some y.W) (some (.ref p2)) (some (.int nd))) H4 = .ok (.nx (S11 l T M D f' tm' (some (.int (k : Int))) a' b' c' d')) H' /\ At ph H' rs D tm' (k + 1) f' tl'' := by
  intro g tl' H4 hx4 ta4 g4 ln tk dr fe sw best
  have kl : k < tl'.length := by omega
  have r4 : (tl'.map Rw.W)[k]? = some tl'[k].W := by rw [List.getElem?_map, List.getElem?_eq_getElem kl]; rfl
  obtain ⟨p5, H5, e5, x5, t5⟩ := behind_t ta4 ok (by omega) tl'[k]
  refine ⟨g, p5, some x.W, some y.W, some (.ref p2), some (.int nd), H5, tl', ?_, ⟨hx4.trans x5, x5.get g4, ln, dr, ?_, fe, sw, best⟩⟩
  ·try simp only [EVA, Nat.reduceSub, List.reduceReplicate, List.set_cons_zero, List.set_cons_succ, if_true, if_false, ↓reduceIte, String.reduceEq, reduceCtorEq]
   rw [bnd_ok (ixv_nat g4 r4), bnd_ok e5]
   try simp only [EVA, Nat.reduceSub, List.reduceReplicate, List.set_cons_zero, List.set_cons_succ, if_true, if_false, ↓reduceIte, String.reduceEq, reduceCtorEq]
  ·rw [List.take_add_one, List.getElem?_eq_getElem kl, Option.toList_some, Tm.run_append, tk]
   exact t5
 obtain ⟨H4, e4, x4⟩ := bound_s x y H3
 have key : ∃ σ' H', sIf (tAndM (eT (eOp ltW (eVar 10) (eVar 4))) (tNotM (eTru (eCall f_are_bound (aCons (eVar 7) (aCons (eVar 8) aNil)))))) (sSeq (sAsg (eVar 8) (gSubV (eVar 3) (eVar 6))) (sSeq (sAsg (eVar 7) (gSubV (eVar 3) (eOp addW (eVar 6) (eC (.int (1)))))) (sAsg (eVar 10) (gN 4)))) sNext (S11 l T M D f tm (some (.int (k : Int))) (some x.W) (some y.W) (some (.ref p2)) (some (.int nd))) H3 = .ok (.nx σ') H' /\
   ∃ f' tm' a' b' c' d' H'' tl', sAsg (eCall f_timing_behind (aCons (eVar 5) (aCons (eOp ixV (eVar 3) (eVar 6)) aNil))) (gN 5) σ' H' = .ok (.nx (S11 l T M D f' tm' (some (.int (k : Int))) a' b' c' d')) H'' /\ At ph H'' rs D tm' (k + 1) f' tl' := by
  by_cases hlt : nd < f
  ·cases hb : bound x y with
   | true =>
    rw [hb] at e4
    refine ⟨_, H4, ?_, fin f tl H4 (h.ex.trans (x03.trans x4)) (h.ta.ex (x03.trans x4)) (x4.get g3) h.ln rfl d2 h.fe h.sw (h.best.imp_left fun ⟨q1, q2⟩ => ⟨q1, fun j hj hjk hbj => ?_⟩)⟩
    ·try simp only [EVA, Nat.reduceSub, List.reduceReplicate, List.set_cons_zero, List.set_cons_succ, if_true, if_false, ↓reduceIte, String.reduceEq, reduceCtorEq, decide_eq_true hlt]
     rw [bnd_ok e4]
     try simp only [EVA, Nat.reduceSub, List.reduceReplicate, List.set_cons_zero, List.set_cons_succ, if_true, if_false, ↓reduceIte, String.reduceEq, reduceCtorEq]
    ·by_cases hjk' : j = k
     ·subst hjk'
      subst q1
      rw [hx, hy, hb] at hbj
      cases hbj
     ·exact q2 j hj (by omega) hbj
   | false =>
    rw [hb] at e4
    have g4 := x4.get g3
    have l4 := (List.getElem?_eq_some_iff.mp g4).1
    have i1 : ixN (tl.map Rw.W).length (k : Int) = some k := by unfold ixN; rw [if_pos (by omega), if_pos (by rw [List.length_map]; omega)]; simp
    have i2 : ixN ((tl.map Rw.W).set k y.W).length ((k + 1 : Nat) : Int) = some (k + 1) := by unfold ixN; rw [List.length_set, if_pos (by omega), if_pos (by rw [List.length_map]; omega)]; simp
    have g5 : (H4.set D (.lst ((tl.map Rw.W).set k y.W)))[D]? = some (.lst ((tl.map Rw.W).set k y.W)) := List.getElem?_set_self l4
    have tl2 : ((tl.map Rw.W).set k y.W).set (k + 1) x.W = (tl.take k ++ y :: x :: tl.drop (k + 2)).map Rw.W := by
     have e := set_two k2
     rw [hx, hy] at e
     rw [<- e, List.map_set, List.map_set]
    have ct := cut2 k2
    rw [hx, hy] at ct
    refine ⟨_, (H4.set D (.lst ((tl.map Rw.W).set k y.W))).set D (.lst (((tl.map Rw.W).set k y.W).set (k + 1) x.W)), ?_, fin nd (tl.take k ++ y :: x :: tl.drop (k + 2)) _ ?_ ?_ ?_ ?_ ?_ ?_ hn.symm ?_ ?_⟩
    ·try simp only [EVA, Nat.reduceSub, List.reduceReplicate, List.set_cons_zero, List.set_cons_succ, if_true, if_false, ↓reduceIte, String.reduceEq, reduceCtorEq, decide_eq_true hlt]
     rw [bnd_ok e4]
     try simp only [EVA, Nat.reduceSub, List.reduceReplicate, List.set_cons_zero, List.set_cons_succ, if_true, if_false, ↓reduceIte, String.reduceEq, reduceCtorEq]
     rw [bnd_ok (setv_ref g4 i1 _), c1, bnd_ok (setv_ref g5 i2 _)]
     rfl
    ·exact ex_set (ex_set (h.ex.trans (x03.trans x4)) hD _) hD _
    ·exact ((h.ta.ex (x03.trans x4)).set g4).set g5
    ·rw [tl2]; exact List.getElem?_set_self (by rw [List.length_set]; exact l4)
    ·rw [<- h.ln]
     have := congrArg List.length ct
     simp at this ⊢
     omega
    ·rw [List.take_append_of_le_length (by rw [List.length_take]; omega), List.take_take, Nat.min_self]
    ·rw [<- d2, List.drop_append, List.length_take, Nat.min_eq_left (by omega), show k + 2 - k = 2 by omega, List.drop_eq_nil_of_le (by rw [List.length_take]; omega)]
     rfl
    ·exact .step (by rw [<- ct]; exact h.sw) hb
    ·right
     rw [hn]
     have := h.fe
     rcases h.best with ⟨q1, _⟩ | q
     ·rw [<- q1]; omega
     ·omega
  ·refine ⟨_, H3, ?_, fin f tl H3 (h.ex.trans x03) (h.ta.ex x03) g3 h.ln rfl d2 h.fe h.sw (h.best.imp_left fun ⟨q1, q2⟩ => ⟨q1, fun j hj hjk hbj => ?_⟩)⟩
   ·try simp only [EVA, Nat.reduceSub, List.reduceReplicate, List.set_cons_zero, List.set_cons_succ, if_true, if_false, ↓reduceIte, String.reduceEq, reduceCtorEq, decide_eq_false hlt]
   ·by_cases hjk' : j = k
    ·subst hjk'
     subst q1
     have := h.fe
     rw [<- hx, <- hy] at hn
     rw [hn]
     omega
    ·exact q2 j hj (by omega) hbj
 obtain ⟨σ', H', e5, f', tm', a', b', c', d', H'', tl', e6, at6⟩ := key
 refine ⟨f', tm', a', b', c', d', H'', tl', ?_, at6⟩
 unfold impB
 rw [seq_asg (w := x.W) (ph1 := H) (by
  try simp only [EVA, Nat.reduceSub, List.reduceReplicate, List.set_cons_zero, List.set_cons_succ, if_true, if_false, ↓reduceIte, String.reduceEq, reduceCtorEq]
  rw [ixv_nat h.tls r1])]
 rw [seq_asg (w := y.W) (ph1 := H) (by
  simp only [List.set_cons_zero, List.set_cons_succ]
  try simp only [EVA, Nat.reduceSub, List.reduceReplicate, List.set_cons_zero, List.set_cons_succ, if_true, if_false, ↓reduceIte, String.reduceEq, reduceCtorEq]
  rw [c1, ixv_nat h.tls r2])]
 rw [seq_asg (w := .ref p2) (ph1 := H2) (by
  simp only [List.set_cons_zero, List.set_cons_succ]
  try simp only [EVA, Nat.reduceSub, List.reduceReplicate, List.set_cons_zero, List.set_cons_succ, if_true, if_false, ↓reduceIte, String.reduceEq, reduceCtorEq]
  rw [bnd_ok e1, e2])]
 rw [seq_asg (w := .int nd) (ph1 := H3) (by
  simp only [List.set_cons_zero, List.set_cons_succ]
  try simp only [EVA, Nat.reduceSub, List.reduceReplicate, List.set_cons_zero, List.set_cons_succ, if_true, if_false, ↓reduceIte, String.reduceEq, reduceCtorEq]
  rw [c2, e3])]
 simp only [List.set_cons_zero, List.set_cons_succ]
 rw [sSeq_ap, bnd_ok e5]
 exact e6
end IL.K24
namespace IL.K24
open PySem L2
theorem improved_s {ph : PH} {l : Nat} {rs : List Rw} (hl : ph[l]? = some (.lst (rs.map Rw.W))) (hz : rs.length <= 50) : ∃ D tl ph', f_improved [.ref l] ph = .ok (.ref D) ph' /\ Ex ph ph' /\ ph.length <= D /\ ph'[D]? = some (.lst (tl.map Rw.W)) /\ Sw rs tl /\ ((tl = rs /\ Best rs) \/ bt tl < bt rs) := by
 unfold f_improved
 rw [fM_1]
 simp only [Nat.reduceSub, List.reduceReplicate]
 suffices key : ∃ D tl ph', b_improved [some (.ref l), none, none, none, none, none, none, none, none, none, none] ph = Out.ok (Fl.rt (.ref D)) ph' /\ Ex ph ph' /\ ph.length <= D /\ ph'[D]? = some (.lst (tl.map Rw.W)) /\ Sw rs tl /\ ((tl = rs /\ Best rs) \/ bt tl < bt rs) by
  obtain ⟨D, tl, ph', k1, k2⟩ := key
  exact ⟨D, tl, ph', by rw [bnd_ok k1]; rfl, k2⟩
 unfold b_improved
 obtain ⟨T, p1, e1, x1, hT⟩ := timings_s hl (by omega)
 rw [seq_asg (w := .ref T) (ph1 := p1) (by
  try simp only [EVA, Nat.reduceSub, List.reduceReplicate, List.set_cons_zero, List.set_cons_succ, if_true, if_false, ↓reduceIte, String.reduceEq, reduceCtorEq]
  rw [e1])]
 simp only [List.set_cons_zero, List.set_cons_succ]
 have hl1 := x1.get hl
 obtain ⟨M, p2, e2, x2, hM⟩ := mosts_s hl1 hT (by omega)
 rw [seq_asg (w := .ref M) (ph1 := p2) (by
  try simp only [EVA, Nat.reduceSub, List.reduceReplicate, List.set_cons_zero, List.set_cons_succ, if_true, if_false, ↓reduceIte, String.reduceEq, reduceCtorEq]
  rw [e2])]
 simp only [List.set_cons_zero, List.set_cons_succ]
 have hl2 := x2.get hl1
 have hT2 := hT.ex x2
 rw [seq_asg (w := .ref p2.length) (ph1 := p2 ++ [.lst (rs.map Rw.W)]) (by
  try simp only [EVA, Nat.reduceSub, List.reduceReplicate, List.set_cons_zero, List.set_cons_succ, if_true, if_false, ↓reduceIte, String.reduceEq, reduceCtorEq]
  rw [list_ref hl2])]
 simp only [List.set_cons_zero, List.set_cons_succ]
 have x3 : Ex p2 (p2 ++ [PO.lst (rs.map Rw.W)]) := Ex.one _ _
 have g3 : (p2 ++ [PO.lst (rs.map Rw.W)])[p2.length]? = some (.lst (rs.map Rw.W)) := get_new _ _
 generalize p2 ++ [PO.lst (rs.map Rw.W)] = p3 at x3 g3
 generalize hD : p2.length = D at g3
 have hf : eFld "Timing" "most" (eOp ixV (eVar 1) (eUn negW (eC (.int (1))))) [some (.ref l), some (.ref T), some (.ref M), some (.ref D), none, none, none, none, none, none, none] p3 = .ok (.int (bt rs)) p3 := by
  obtain ⟨ts, t1, t2, t3⟩ := hT2.ex x3
  have hne : ts ≠ [] := by intro z; rw [z] at t2; simp at t2
  obtain ⟨us, u, hu⟩ : ∃ us u, ts = us ++ [u] := ⟨ts.dropLast, ts.getLast hne, (List.dropLast_concat_getLast hne).symm⟩
  have hul : us.length = rs.length := by rw [hu] at t2; simp at t2; exact t2
  obtain ⟨d, ta⟩ := t3 rs.length u (by rw [hu, <- hul]; simp)
  rw [List.take_length] at ta
  try simp only [EVA, Nat.reduceSub, List.reduceReplicate, List.set_cons_zero, List.set_cons_succ, if_true, if_false, ↓reduceIte, String.reduceEq, reduceCtorEq, eFld_ap]
  rw [bnd_ok (ixv_ref t1 (by rw [hu, List.map_append]; exact atI_last _ _)), fld_obj ta.ob (tm_mo _ _ _)]
  rfl
 rw [seq_asg hf]
 simp only [List.set_cons_zero, List.set_cons_succ]
 obtain ⟨p4, e4, x4, t4⟩ := new_t [some (.ref l), some (.ref T), some (.ref M), some (.ref D), some (.int (bt rs)), none, none, none, none, none, none] p3
 rw [seq_asg e4]
 simp only [List.set_cons_zero, List.set_cons_succ]
 rw [sSeq_ap]
 have hl4 := x4.get (x3.get hl2)
 obtain ⟨σ', H, e, hI⟩ := forG_inv (chk := fun _ => true) (g := gN 6) (b := impB)
  (fun k σ H => ∃ f tm a b c d e tl, σ = S11 l T M D f tm a b c d e /\ At p2 H rs D tm k f tl)
  (rngW 0 ((rs.length : Int) - 1).toNat) (S11 l T M D (bt rs) p3.length none none none none none) p4
  (fun _ _ _ _ => rfl)
  (fun k w σ H hk hI => by
   obtain ⟨f, tm, a, b, c, d, e, tl, rfl, at1⟩ := hI
   obtain ⟨hkn, rfl⟩ := rngW_get hk
   rw [Int.zero_add]
   obtain ⟨f', tm', a', b', c', d', H', tl', e1, at2⟩ := imp_step hl2 hT2 hM hz (Nat.le_of_eq hD) (by omega) at1 b c d e
   exact ⟨_, H, rfl, _, H', e1, _, .inl rfl, f', tm', _, a', b', c', d', tl', rfl, at2⟩)
  ⟨bt rs, p3.length, _, _, _, _, _, rs, rfl, ⟨x3.trans x4, x4.get g3, rfl, rfl, t4, rfl, .refl, .inl ⟨rfl, fun j _ hj => absurd hj (Nat.not_lt_zero _)⟩⟩⟩
 obtain ⟨f, tm, a, b, c, d, e', tl, rfl, at1⟩ := hI
 rw [rngW_len] at at1
 refine ⟨D, tl, H, ?_, (x1.trans x2).trans at1.ex, ?_, at1.tls, at1.sw, at1.best.imp_left fun ⟨q1, q2⟩ => ⟨q1, ?_⟩⟩
 ·have ef : sFor (iR1 (aCons (eOp subW (eCallB lenW (aCons (eVar 0) aNil)) (eC (.int (1)))) aNil)) (gN 6) impB (S11 l T M D (bt rs) p3.length none none none none none) p4 = .ok (.nx (S11 l T M D f tm a b c d e')) H := by
   unfold sFor
   rw [bnd_ok (iR1_ap (j := (rs.length : Int) - 1) (ph' := p4) (by
    try simp only [EVA, Nat.reduceSub, List.reduceReplicate, List.set_cons_zero, List.set_cons_succ, if_true, if_false, ↓reduceIte, String.reduceEq, reduceCtorEq]
    rw [bnd_ok (len_ref hl4), List.length_map]
    try simp only [EVA, Nat.reduceSub, List.reduceReplicate, List.set_cons_zero, List.set_cons_succ, if_true, if_false, ↓reduceIte, String.reduceEq, reduceCtorEq]) (by omega) (by omega))]
   exact e
  unfold impB at ef
  rw [bnd_ok ef]
  try simp only [EVA, Nat.reduceSub, List.reduceReplicate, List.set_cons_zero, List.set_cons_succ, if_true, if_false, ↓reduceIte, String.reduceEq, reduceCtorEq]
 ·have := x1.len
  have := x2.len
  omega
 ·intro p q x y er hb
  have l1 : p.length + 1 < rs.length := by rw [er]; simp
  have gx : rs[p.length] = x := by simp [er]
  have gy : rs[p.length + 1] = y := by simp [er]
  have tk : rs.take p.length = p := by rw [er]; simp
  have dp : rs.drop (p.length + 2) = q := by
   rw [er, List.drop_append]
   simp
  have := q2 p.length l1 (by omega) (by rw [gx, gy]; exact hb)
  rw [gx, gy, tk, dp] at this
  exact this
def Rw.D : Rw -> PyData
 | .put b n => .tuple [.str "put", .int b, .int n]
 | .mv a b => .tuple [.str "move", .int a, .int b]
 | .pull b s => .tuple [.str "pull", .int b, .int s]
 | .push s b => .tuple [.str "push", .int s, .int b]
 | .take b => .tuple [.str "take", .int b]
 | .tell b => .tuple [.str "tell", .int b]
 | .turn => .tuple [.str "turn"]
 | .dd d w a b => .tuple [.str "do", .int d, .str (Str.ofString w.S), .int a, .int b]
theorem row_dat (ph : PH) (n : Nat) (r : Rw) : dat ph (n + 2) r.W = some r.D := by
 cases r <;> simp [Rw.W, Rw.D, dat, mapO, so]
theorem wd_inj {a b : Wd} : a.S = b.S ↔ a = b := by cases a <;> cases b <;> simp [Wd.S]
theorem row_eqv (a b : Rw) : PyData.eqv a.D b.D = decide (a = b) := by
 cases a <;> cases b <;>
 ·simp only [Rw.D]
  show PyData.eqvAll _ _ = _
  simp [PyData.eqvAll, eqv_i, eqv_s, os_inj, wd_inj]
theorem rows_eqv : ∀ (a b : List Rw), PyData.eqvAll (a.map Rw.D) (b.map Rw.D) = decide (a = b)
 | [], [] => by simp [PyData.eqvAll]
 | [], _ :: _ => by simp [PyData.eqvAll]
 | _ :: _, [] => by simp [PyData.eqvAll]
 | x :: a, y :: b => by
  rw [List.map_cons, List.map_cons]
  unfold PyData.eqvAll
  rw [row_eqv, rows_eqv a b]
  simp
theorem rows_dat {ph : PH} {i : Nat} {a : List Rw} (h : ph[i]? = some (.lst (a.map Rw.W))) : dat ph 40 (.ref i) = some (.list (a.map Rw.D)) := by
 unfold dat
 simp only [h]
 rw [mapO_map (dat ph 39) Rw.W Rw.D (fun r => row_dat ph 37 r)]
 rfl
theorem rows_ne {ph : PH} {i j : Nat} {a b : List Rw} (hi : ph[i]? = some (.lst (a.map Rw.W))) (hj : ph[j]? = some (.lst (b.map Rw.W))) : lift (neW (.ref i) (.ref j)) ph = .ok (.bl (!decide (a = b))) ph := by
 apply l_neD
 unfold eqD
 rw [rows_dat hi, rows_dat hj]
 show some (PyData.eqvAll _ _) = _
 rw [rows_eqv]
theorem bt_0 (rs : List Rw) : 0 <= bt rs := (ok0.run (rs := rs)).mo
theorem ordered_s {ph : PH} {l : Nat} {rs : List Rw} (hl : ph[l]? = some (.lst (rs.map Rw.W))) (hz : rs.length <= 50) : ∃ D tl ph', f_ordered [.ref l] ph = .ok (.ref D) ph' /\ Ex ph ph' /\ ph.length <= D /\ ph'[D]? = some (.lst (tl.map Rw.W)) /\ Sw rs tl /\ bt tl <= bt rs /\ Best tl := by
  unfold f_ordered
  rw [fM_1]
  simp only [Nat.reduceSub, List.reduceReplicate]
  suffices key : ∃ D tl ph', b_ordered [some (.ref l), none, none] ph = Out.ok (Fl.rt (.ref D)) ph' /\ Ex ph ph' /\ ph.length <= D /\ ph'[D]? = some (.lst (tl.map Rw.W)) /\ Sw rs tl /\ bt tl <= bt rs /\ Best tl by
    obtain ⟨D, tl, ph', k1, k2⟩ := key
    exact ⟨D, tl, ph', by rw [bnd_ok k1]; rfl, k2⟩
  unfold b_ordered
  rw [seq_asg (w := .ref ph.length) (ph1 := ph ++ [.lst (rs.map Rw.W)]) (by
    try simp only [EVA, Nat.reduceSub, List.reduceReplicate, List.set_cons_zero, List.set_cons_succ, if_true, if_false, ↓reduceIte, String.reduceEq, reduceCtorEq]
    rw [list_ref hl])]
  simp only [List.set_cons_zero, List.set_cons_succ]
  have x1 : Ex ph (ph ++ [PO.lst (rs.map Rw.W)]) := Ex.one _ _
  have g1 : (ph ++ [PO.lst (rs.map Rw.W)])[ph.length]? = some (.lst (rs.map Rw.W)) := get_new _ _
  generalize ph ++ [PO.lst (rs.map Rw.W)] = p1 at x1 g1
  obtain ⟨D, tl, p2, e2, x2, hD, g2, sw, al⟩ := improved_s g1 hz
  rw [seq_asg (w := .ref D) (ph1 := p2) (by
    try simp only [EVA, Nat.reduceSub, List.reduceReplicate, List.set_cons_zero, List.set_cons_succ, if_true, if_false, ↓reduceIte, String.reduceEq, reduceCtorEq]
    rw [e2])]
  simp only [List.set_cons_zero, List.set_cons_succ]
  obtain ⟨σ', H, e, A, B, ta, rfl, xx, hA, gA, swA, leA, best⟩ := while_inv (t := eT (eOp neW (eVar 2) (eVar 1))) (b := sSeq (sAsg (eVar 2) (gN 1)) (sAsg (eCall f_improved (aCons (eVar 1) aNil)) (gN 2)))
    (fun k σ H => ∃ A B ta tb, σ = [some (.ref l), some (.ref A), some (.ref B)] /\ Ex ph H /\ ph.length <= A /\ ph.length <= B /\ H[A]? = some (.lst (ta.map Rw.W)) /\ H[B]? = some (.lst (tb.map Rw.W)) /\ Sw rs ta /\ bt ta <= bt rs /\ Sw ta tb /\ ((tb = ta /\ Best ta) \/ bt tb < bt ta) /\ (bt ta).toNat <= k)
    (fun σ H => ∃ A B ta, σ = [some (.ref l), some (.ref A), some (.ref B)] /\ Ex ph H /\ ph.length <= A /\ H[A]? = some (.lst (ta.map Rw.W)) /\ Sw rs ta /\ bt ta <= bt rs /\ Best ta)
    (by
      rintro k σ H ⟨A, B, ta, tb, rfl, x, hA, hB, gA, gB, s1, le, s2, al, hk⟩
      by_cases he : tb = ta
      · refine .inl ⟨H, ?_, A, B, ta, rfl, x, hA, gA, s1, le, ?_⟩
        · try simp only [EVA, Nat.reduceSub, List.reduceReplicate, List.set_cons_zero, List.set_cons_succ, if_true, if_false, ↓reduceIte, String.reduceEq, reduceCtorEq]
          rw [bnd_ok (rows_ne gB gA)]
          try simp only [EVA, Nat.reduceSub, List.reduceReplicate, List.set_cons_zero, List.set_cons_succ, if_true, if_false, ↓reduceIte, String.reduceEq, reduceCtorEq, decide_eq_true he]
        · rcases al with ⟨_, b⟩ | q
          · exact b
          · rw [he] at q; omega
      · have lt : bt tb < bt ta := by
          rcases al with ⟨q, _⟩ | q
          · exact absurd q he
          · exact q
        have b0 := bt_0 tb
        obtain ⟨D', tc, H', e3, x3, hD', g3, s3, al3⟩ := improved_s gB (by rw [s2.len, s1.len]; exact hz)
        refine .inr ⟨H, ?_, .nx [some (.ref l), some (.ref B), some (.ref D')], H', ?_, _, .inl rfl, (bt tb).toNat, by omega, B, D', tb, tc, rfl, x.trans x3, hB, by have := x.len; omega, x3.get gB, g3, s1.trans s2, by omega, s3, al3, Nat.le_refl _⟩
        · try simp only [EVA, Nat.reduceSub, List.reduceReplicate, List.set_cons_zero, List.set_cons_succ, if_true, if_false, ↓reduceIte, String.reduceEq, reduceCtorEq]
          rw [bnd_ok (rows_ne gB gA)]
          try simp only [EVA, Nat.reduceSub, List.reduceReplicate, List.set_cons_zero, List.set_cons_succ, if_true, if_false, ↓reduceIte, String.reduceEq, reduceCtorEq, decide_eq_false he]
        · try simp only [EVA, Nat.reduceSub, List.reduceReplicate, List.set_cons_zero, List.set_cons_succ, if_true, if_false, ↓reduceIte, String.reduceEq, reduceCtorEq]
          rw [bnd_ok e3]
          rfl)
    (bt rs).toNat [some (.ref l), some (.ref ph.length), some (.ref D)] p2 ⟨ph.length, D, rs, tl, rfl, x1.trans x2, Nat.le_refl _, by have := x1.len; omega, x2.get g1, g2, .refl, Int.le_refl _, sw, al, Nat.le_refl _⟩
  refine ⟨A, ta, H, ?_, xx, hA, gA, swA, leA, best⟩
  rw [sSeq_ap, bnd_ok e]
  try simp only [EVA, Nat.reduceSub, List.reduceReplicate, List.set_cons_zero, List.set_cons_succ, if_true, if_false, ↓reduceIte, String.reduceEq, reduceCtorEq]
end IL.K24
namespace IL.K24
open PySem L2
structure Io where
 turns : Int
 told : List Int
 tk : Nat
inductive Act where
 | stop (s : String)
 | go (io : Io) (v : Int)
def fitI (n : Int) : Int := n - (n + 2147483648).fdiv 4294967296 * 4294967296
def deed : Wd -> Int -> Int -> Int
 | .sum, a, b => fitI (a + b)
 | .less, a, b => fitI (a - b)
 | .times, a, b => fitI (a * b)
 | .part, a, b => fitI (a.fdiv b)
 | .below, a, b => if a < b then 1 else 0
 | .alike, a, b => if a = b then 1 else 0
def act (inp : List Int) (r : Rw) (io : Io) (vs : List Int) : Act := match r with
 | .turn => if io.turns = 0 then .stop "dry" else .go ⟨io.turns - 1, io.told, io.tk⟩ 0
 | .take _ => .go ⟨io.turns, io.told, io.tk + 1⟩ (inp.getD io.tk 0)
 | .tell _ => .go ⟨io.turns, io.told ++ vs, io.tk⟩ 0
 | .dd _ .part _ _ => if vs.getD 1 0 = 0 then .stop "nought" else .go io (deed .part (vs.getD 0 0) (vs.getD 1 0))
 | .dd _ w _ _ => .go io (deed w (vs.getD 0 0) (vs.getD 1 0))
 | .put _ n => .go io n
 | .mv _ _ => .go io (vs.getD 0 0)
 | .pull _ _ => .go io (vs.getD 0 0)
 | .push _ _ => .go io (vs.getD 0 0)
abbrev Mem := Th -> Int
def put1 (μ : Mem) (ts : List Th) (v : Int) : Mem := fun t => if t ∈ ts then v else μ t
inductive Rs where
 | stop (s : String) (io : Io)
 | done (io : Io) (μ : Mem)
def runR (inp : List Int) : List Rw -> Io -> Mem -> Rs
 | [], io, μ => .done io μ
 | r :: rs, io, μ => match act inp r io (r.rd.map μ) with
  | .stop s => .stop s io
  | .go io' v => runR inp rs io' (put1 μ r.wr v)
theorem quiet {r : Rw} (h : r.out = false) (inp : List Int) : ∃ g : List Int -> Int, ∀ io vs, act inp r io vs = .go io (g vs) := by
 cases r with
 | dd d w a b =>
  cases w with
  | part => cases h
  | _ => exact ⟨_, fun _ _ => rfl⟩
 | take b => cases h
 | tell b => cases h
 | turn => cases h
 | _ => exact ⟨_, fun _ _ => rfl⟩
theorem put_apart {μ : Mem} {ts rd : List Th} {v : Int} (h : ∀ t ∈ ts, t ∉ rd) : rd.map (put1 μ ts v) = rd.map μ := by
 apply List.map_congr_left
 intro t ht
 unfold put1
 rw [if_neg fun q => h t q ht]
theorem put_comm {μ : Mem} {a b : List Th} {v w : Int} (h : ∀ t ∈ a, t ∉ b) : put1 (put1 μ a v) b w = put1 (put1 μ b w) a v := by
 funext t
 unfold put1
 by_cases h1 : t ∈ a <;> by_cases h2 : t ∈ b
 ·exact absurd h2 (h t h1)
 ·simp [h1, h2]
 ·simp [h1, h2]
 ·simp [h1, h2]
theorem comm_quiet {x y : Rw} (hx : x.out = false) (h1 : ∀ t ∈ x.wr, t ∉ y.rd) (h2 : ∀ t ∈ x.wr, t ∉ y.wr) (h3 : ∀ t ∈ y.wr, t ∉ x.rd) (inp : List Int) (q : List Rw) (io : Io) (μ : Mem) : runR inp (x :: y :: q) io μ = runR inp (y :: x :: q) io μ := by
 obtain ⟨g, hg⟩ := quiet hx inp
 unfold runR
 rw [hg]
 show runR inp (y :: q) io _ = _
 unfold runR
 rw [put_apart h1]
 cases act inp y io (y.rd.map μ) with
 | stop s => rfl
 | go io' v =>
  show runR inp q io' _ = runR inp (x :: q) io' _
  conv => rhs; unfold runR
  rw [hg, put_apart h3, put_comm h2]
theorem share_f {ts us : List Th} (h : shareT ts us = false) : ∀ t ∈ ts, t ∉ us := by
 intro t ht hu
 have : shareT ts us = true := List.any_eq_true.mpr ⟨t, ht, decide_eq_true hu⟩
 rw [h] at this
 cases this
theorem comm {x y : Rw} (h : bound x y = false) (inp : List Int) (q : List Rw) (io : Io) (μ : Mem) : runR inp (x :: y :: q) io μ = runR inp (y :: x :: q) io μ := by
 unfold bound at h
 rw [Bool.or_eq_false_iff, Bool.or_eq_false_iff, Bool.and_eq_false_iff] at h
 obtain ⟨ho, hs1, hs2⟩ := h
 have s1 := share_f hs1
 have s2 := share_f hs2
 have a1 : ∀ t ∈ x.wr, t ∉ y.rd := fun t ht q => s1 t ht (by simp [q])
 have a2 : ∀ t ∈ x.wr, t ∉ y.wr := fun t ht q => s1 t ht (by simp [q])
 rcases ho with ho | ho
 ·exact comm_quiet ho a1 a2 s2 inp q io μ
 ·exact (comm_quiet ho s2 (fun t ht q => a2 t q ht) a1 inp q io μ).symm
theorem run_congr {inp : List Int} {a b : List Rw} (h : ∀ io μ, runR inp a io μ = runR inp b io μ) : ∀ (p : List Rw) (io : Io) (μ : Mem), runR inp (p ++ a) io μ = runR inp (p ++ b) io μ
 | [], io, μ => h io μ
 | r :: p, io, μ => by
  rw [List.cons_append, List.cons_append]
  unfold runR
  cases act inp r io (r.rd.map μ) with
  | stop s => rfl
  | go io' v => exact run_congr h p io' _
theorem Sw.run {a b : List Rw} (h : Sw a b) (inp : List Int) (io : Io) (μ : Mem) : runR inp a io μ = runR inp b io μ := by
 induction h generalizing io μ with
 | refl => rfl
 | step _ hb ih => rw [ih]; exact run_congr (comm hb inp _) _ io μ
theorem Sw.all {a b : List Rw} {P : Rw -> Prop} (h : Sw a b) (k : ∀ r ∈ a, P r) : ∀ r ∈ b, P r := by
 induction h with
 | refl => exact k
 | step _ _ ih =>
  intro r hr
  apply ih r
  simp only [List.mem_append, List.mem_cons] at hr ⊢
  rcases hr with h | h | h | h
  ·exact .inl h
  ·exact .inr (.inr (.inl h))
  ·exact .inr (.inl h)
  ·exact .inr (.inr (.inr h))
def Sml (n : Int) : Prop := -4294967296 <= n /\ n <= 4294967296
theorem fit_sml (n : Int) : Sml (fitI n) := by
 unfold fitI Sml
 have h1 := fmod_range (n + 2147483648) 4294967296 (by decide)
 have h2 := Int.mul_fdiv_add_fmod (n + 2147483648) 4294967296
 omega
theorem deed_sml (w : Wd) (a b : Int) : Sml (deed w a b) := by
 cases w with
 | below =>
  show Sml (if a < b then 1 else 0)
  by_cases h : a < b
  ·rw [if_pos h]; exact ⟨by decide, by decide⟩
  ·rw [if_neg h]; exact ⟨by decide, by decide⟩
 | alike =>
  show Sml (if a = b then 1 else 0)
  by_cases h : a = b
  ·rw [if_pos h]; exact ⟨by decide, by decide⟩
  ·rw [if_neg h]; exact ⟨by decide, by decide⟩
 | _ => exact fit_sml _
theorem act_sml {inp : List Int} {B S : Int} {r : Rw} (hr : r.ok B S) (hi : ∀ n ∈ inp, Sml n) {io io' : Io} {vs : List Int} {v : Int} (hv : ∀ n ∈ vs, Sml n) (h : act inp r io vs = .go io' v) : Sml v := by
 have z : Sml 0 := ⟨by decide, by decide⟩
 have gd : ∀ (l : List Int), (∀ n ∈ l, Sml n) -> ∀ k : Nat, Sml (l.getD k 0) := fun l hl k => by
  by_cases hk : k < l.length
  ·have : l.getD k 0 = l[k] := by simp [hk]
   rw [this]; exact hl _ (List.getElem_mem hk)
  ·have : l.getD k 0 = 0 := by simp [Nat.le_of_not_lt hk]
   rw [this]; exact z
 cases r with
 | dd d w a b =>
  cases w with
  | part =>
   unfold act at h
   simp only at h
   split at h
   ·cases h
   ·cases h; exact deed_sml _ _ _
  | _ => cases h; exact deed_sml _ _ _
 | turn =>
  unfold act at h
  simp only at h
  split at h
  ·cases h
  ·cases h; exact z
 | take b => cases h; exact gd _ hi _
 | tell b => cases h; exact z
 | put b n => cases h; exact ⟨hr.lo, hr.hi⟩
 | mv a b => cases h; exact gd _ hv _
 | pull a b => cases h; exact gd _ hv _
 | push a b => cases h; exact gd _ hv _
end IL.K24
namespace IL.K24
open PySem L2
def bxD (f : Int -> Int) (n : Nat) : List (W × W) := (List.range n).map fun i : Nat => (.int (i : Int), .int (f (i : Int)))
theorem bx_noT (f : Int -> Int) (n : Nat) : (bxD f n).all (fun p => !isT p.1) = true := by
 unfold bxD
 rw [List.all_eq_true]
 intro p hp
 obtain ⟨i, _, rfl⟩ := List.mem_map.mp hp
 rfl
theorem bx_isI (f : Int -> Int) (n : Nat) : (bxD f n).all (fun p => isI p.1) = true := by
 unfold bxD
 rw [List.all_eq_true]
 intro p hp
 obtain ⟨i, _, rfl⟩ := List.mem_map.mp hp
 rfl
theorem bx_ok (f : Int -> Int) (n : Nat) (i : Int) : okKey (bxD f n) (.int i) = true := by
 unfold okKey
 rw [bx_noT]
 rfl
theorem bx_len (f : Int -> Int) (n : Nat) : (bxD f n).length = n := by unfold bxD; simp
theorem bx_get (f : Int -> Int) (n : Nat) (i : Int) (h0 : 0 <= i) (h1 : i < n) : dgetW (bxD f n) (.int i) = some (.int (f i)) := by
 obtain ⟨k, rfl⟩ : ∃ k : Nat, i = (k : Int) := ⟨i.toNat, by omega⟩
 have hk : k < n := by omega
 unfold dgetW
 cases h : (bxD f n).find? fun p => decide (p.1 = .int (k : Int)) with
 | none =>
  have := List.find?_eq_none.mp h (.int (k : Int), .int (f (k : Int))) (List.mem_map.mpr ⟨k, List.mem_range.mpr hk, rfl⟩)
  simp at this
 | some p =>
  have h2 := List.find?_some h
  have h3 := List.mem_of_find?_eq_some h
  unfold bxD at h3
  obtain ⟨j, _, rfl⟩ := List.mem_map.mp h3
  simp at h2
  have : j = k := by omega
  subst this
  rfl
theorem bx_put (f : Int -> Int) (n : Nat) (i v : Int) (h0 : 0 <= i) (h1 : i < n) : dputW (bxD f n) (.int i) (.int v) = bxD (fun j => if j = i then v else f j) n := by
 obtain ⟨k, rfl⟩ : ∃ k : Nat, i = (k : Int) := ⟨i.toNat, by omega⟩
 have hk : k < n := by omega
 unfold dputW
 have : ((bxD f n).any fun p => decide (p.1 = .int (k : Int))) = true := by
  rw [List.any_eq_true]
  exact ⟨(.int (k : Int), .int (f (k : Int))), List.mem_map.mpr ⟨k, List.mem_range.mpr hk, rfl⟩, by simp⟩
 rw [if_pos this]
 unfold bxD
 rw [List.map_map]
 apply List.map_congr_left
 intro j hj
 simp only [Function.comp_apply, W.int.injEq]
 split <;> rfl
section
variable {H : PH} {B : Nat} {f : Int -> Int} {n : Nat} {i v : Int}
theorem getB (h : H[B]? = some (.dct (bxD f n))) (h0 : 0 <= i) (h1 : i < n) : lift (getW (.ref B) [.int i, .int 0]) H = .ok (.int (f i)) H := by
 rw [get_dct h (bx_ok f n i), bx_get f n i h0 h1]
 rfl
theorem setB (h : H[B]? = some (.dct (bxD f n))) (hz : n <= 1000) (h0 : 0 <= i) (h1 : i < n) : lift (setV (.ref B) (.int i) (.int v)) H = .ok () (H.set B (.dct (bxD (fun j => if j = i then v else f j) n))) := by
 rw [setv_dct h (bx_ok f n i) (by rw [bx_len]; exact Nat.lt_of_lt_of_le (Nat.lt_succ_of_le hz) (small (by omega))), bx_put f n i v h0 h1]
end
theorem lfit (n : Int) (ph : PH) : f_law_fit [.int n] ph = .ok (.int (fitI n)) ph := by
 unfold f_law_fit b_law_fit
 try simp only [EVA, Nat.reduceSub, List.reduceReplicate, List.set_cons_zero, List.set_cons_succ, if_true, if_false, ↓reduceIte, String.reduceEq, reduceCtorEq, l_div (show (4294967296 : Int) ≠ 0 by decide) (by decide), l_mul (mulC_r (a := (n + 2147483648).fdiv 4294967296) (b := 4294967296) (by decide) (by decide))]
 rfl
theorem sml_mul {a b : Int} (h : Sml b) : mulC a b = true := mulC_r (by have := h.1; omega) (by have := h.2; omega)
theorem ld_fin {a b : Int} (x : String) (j : Nat) (n : Int) (hj : ["sum", "less", "times"].findIdx? (fun s => decide (s = x)) = some j) (hn : atI [W.int (a + b), .int (a - b), .int (a * b)] (j : Int) = some (.int n)) (ph : PH) :
  ∃ ph', bnd (lift (newL [W.int (a + b), .int (a - b), .int (a * b)])) (fun a => bnd (lift (newL [W.str "sum", W.str "less", W.str "times"])) fun a_1 => bnd (lift (chkT (isL a_1))) fun _ => bnd (lift (indexW a_1 [W.str (Str.ofString x)])) fun a_3 => bnd (lift (ixV a a_3)) fun a => bnd (f_law_fit [a]) fun a => pur a) ph = .ok (.int (fitI n)) ph' /\ Ex ph ph' := by
 refine ⟨_, ?_, (Ex.one ph (.lst [W.int (a + b), .int (a - b), .int (a * b)])).trans (Ex.one _ (.lst [W.str "sum", W.str "less", W.str "times"]))⟩
 rw [bnd_new _ _ _ (small (by simp)), bnd_new _ _ _ (small (by simp)), bnd_ok (chk_ref (get_new _ _))]
 have hg : (ph ++ [PO.lst [W.int (a + b), .int (a - b), .int (a * b)]] ++ [PO.lst [W.str "sum", W.str "less", W.str "times"]])[(ph ++ [PO.lst [W.int (a + b), .int (a - b), .int (a * b)]]).length]? = some (.lst (["sum", "less", "times"].map fun s => W.str (Str.ofString s))) := get_new _ _
 rw [bnd_ok (index_lits x ["sum", "less", "times"] hg hj), bnd_ok (ixv_ref ((Ex.one _ _).get (get_new _ _)) hn), bnd_ok (lfit _ _)]
 rfl
theorem ldeed (w : Wd) (a b : Int) (hb : Sml b) (hn : w = .part -> b ≠ 0) (ph : PH) : ∃ ph', f_law_deed [.str (Str.ofString w.S), .int a, .int b] ph = .ok (.int (deed w a b)) ph' /\ Ex ph ph' := by
 unfold f_law_deed b_law_deed
 have mu := l_mul (sml_mul (a := a) hb)
 cases w with
 | sum =>
  simp only [Wd.S]
  try simp only [EVA, Nat.reduceSub, List.reduceReplicate, List.set_cons_zero, List.set_cons_succ, if_true, if_false, ↓reduceIte, String.reduceEq, reduceCtorEq, mu]
  exact ld_fin "sum" 0 (a + b) (by decide) rfl ph
 | less =>
  simp only [Wd.S]
  try simp only [EVA, Nat.reduceSub, List.reduceReplicate, List.set_cons_zero, List.set_cons_succ, if_true, if_false, ↓reduceIte, String.reduceEq, reduceCtorEq, mu]
  exact ld_fin "less" 1 (a - b) (by decide) rfl ph
 | times =>
  simp only [Wd.S]
  try simp only [EVA, Nat.reduceSub, List.reduceReplicate, List.set_cons_zero, List.set_cons_succ, if_true, if_false, ↓reduceIte, String.reduceEq, reduceCtorEq, mu]
  exact ld_fin "times" 2 (a * b) (by decide) rfl ph
 | part =>
  simp only [Wd.S]
  try simp only [EVA, Nat.reduceSub, List.reduceReplicate, List.set_cons_zero, List.set_cons_succ, if_true, if_false, ↓reduceIte, String.reduceEq, reduceCtorEq, l_div (hn rfl) (by have := hb.1; have := hb.2; omega)]
  rw [bnd_ok (lfit _ _)]
  exact ⟨ph, rfl, Ex.refl _⟩
 | below =>
  simp only [Wd.S]
  try simp only [EVA, Nat.reduceSub, List.reduceReplicate, List.set_cons_zero, List.set_cons_succ, if_true, if_false, ↓reduceIte, String.reduceEq, reduceCtorEq]
  refine ⟨ph, ?_, Ex.refl _⟩
  show _ = Out.ok (W.int (if a < b then 1 else 0)) ph
  by_cases h : a < b
  ·try simp only [EVA, Nat.reduceSub, List.reduceReplicate, List.set_cons_zero, List.set_cons_succ, if_true, if_false, ↓reduceIte, String.reduceEq, reduceCtorEq, decide_eq_true h]
   simp [h]
  ·try simp only [EVA, Nat.reduceSub, List.reduceReplicate, List.set_cons_zero, List.set_cons_succ, if_true, if_false, ↓reduceIte, String.reduceEq, reduceCtorEq, decide_eq_false h]
   simp [h]
 | alike =>
  simp only [Wd.S]
  try simp only [EVA, Nat.reduceSub, List.reduceReplicate, List.set_cons_zero, List.set_cons_succ, if_true, if_false, ↓reduceIte, String.reduceEq, reduceCtorEq]
  refine ⟨ph, ?_, Ex.refl _⟩
  show _ = Out.ok (W.int (if a = b then 1 else 0)) ph
  by_cases h : a < b
  ·have : ¬ a = b := by omega
   try simp only [EVA, Nat.reduceSub, List.reduceReplicate, List.set_cons_zero, List.set_cons_succ, if_true, if_false, ↓reduceIte, String.reduceEq, reduceCtorEq, decide_eq_true h]
   simp [this]
  ·try simp only [EVA, Nat.reduceSub, List.reduceReplicate, List.set_cons_zero, List.set_cons_succ, if_true, if_false, ↓reduceIte, String.reduceEq, reduceCtorEq, decide_eq_false h]
   by_cases h2 : a = b <;> simp [h2]
end IL.K24
namespace IL.K24
open PySem L2
def Rw.inn : Rw -> Bool
 | .take _ => false
 | .tell _ => false
 | .turn => false
 | _ => true
def Kp (X : List Nat) (a b : PH) : Prop := a.length <= b.length /\ ∀ i o, i ∉ X -> a[i]? = some o -> b[i]? = some o
theorem Kp.refl (X : List Nat) (a : PH) : Kp X a a := ⟨Nat.le_refl _, fun _ _ _ h => h⟩
theorem Kp.trans {X : List Nat} {a b c : PH} (h : Kp X a b) (k : Kp X b c) : Kp X a c := ⟨Nat.le_trans h.1 k.1, fun i o hi e => k.2 i o hi (h.2 i o hi e)⟩
theorem Ex.kp {a b : PH} (h : Ex a b) (X : List Nat) : Kp X a b := ⟨h.len, fun _ _ _ e => h.get e⟩
theorem Kp.set {X : List Nat} {a b : PH} (h : Kp X a b) {i : Nat} (hi : i ∈ X \/ a.length <= i) (o : PO) : Kp X a (b.set i o) := by
 refine ⟨by rw [List.length_set]; exact h.1, fun j p hj e => ?_⟩
 have : i ≠ j := by
  rintro rfl
  rcases hi with hi | hi
  ·exact hj hi
  ·have := (List.getElem?_eq_some_iff.mp e).1; omega
 rw [List.getElem?_set_ne this]
 exact h.2 j p hj e
structure Mc (ph H : PH) (B S t nB nS : Nat) (io : Io) (μ : Mem) : Prop where
 kp : Kp [B, S] ph H
 bx : H[B]? = some (.dct (bxD (fun i => μ (true, i)) nB))
 sl : H[S]? = some (.dct (bxD (fun i => μ (false, i)) nS))
 td : H[t]? = some (.lst (io.told.map W.int))
 ne : B ≠ S
 tl : ph.length <= t
 sz : nB <= 1000 /\ nS <= 1000
theorem Mc.ex {ph H H' : PH} {B S t nB nS : Nat} {io : Io} {μ : Mem} (h : Mc ph H B S t nB nS io μ) (x : Ex H H') : Mc ph H' B S t nB nS io μ := ⟨h.kp.trans (Ex.kp x _), x.get h.bx, x.get h.sl, x.get h.td, h.ne, h.tl, h.sz⟩
theorem Mc.io {ph H : PH} {B S t nB nS : Nat} {io io' : Io} {μ : Mem} (h : Mc ph H B S t nB nS io μ) (e : io'.told = io.told) : Mc ph H B S t nB nS io' μ := ⟨h.kp, h.bx, h.sl, by rw [e]; exact h.td, h.ne, h.tl, h.sz⟩
theorem put_b (μ : Mem) (d v : Int) : (fun i => put1 μ [(true, d)] v (true, i)) = fun j => if j = d then v else μ (true, j) := by
 funext j; unfold put1; simp
theorem put_bs (μ : Mem) (d v : Int) : (fun i => put1 μ [(true, d)] v (false, i)) = fun j => μ (false, j) := by
 funext j; unfold put1; simp
theorem put_s (μ : Mem) (d v : Int) : (fun i => put1 μ [(false, d)] v (false, i)) = fun j => if j = d then v else μ (false, j) := by
 funext j; unfold put1; simp
theorem put_sb (μ : Mem) (d v : Int) : (fun i => put1 μ [(false, d)] v (true, i)) = fun j => μ (true, j) := by
 funext j; unfold put1; simp
theorem put_0 (μ : Mem) (v : Int) : put1 μ [] v = μ := by funext j; unfold put1; simp
theorem Mc.box {ph H : PH} {B S t nB nS : Nat} {io : Io} {μ : Mem} (h : Mc ph H B S t nB nS io μ) (d v : Int) : Mc ph (H.set B (.dct (bxD (fun j => if j = d then v else μ (true, j)) nB))) B S t nB nS io (put1 μ [(true, d)] v) :=
 ⟨h.kp.set (.inl (by simp)) _, by rw [List.getElem?_set_self (List.getElem?_eq_some_iff.mp h.bx).1, put_b], by rw [List.getElem?_set_ne h.ne, put_bs]; exact h.sl, get_set_ne h.td h.bx (by simp), h.ne, h.tl, h.sz⟩
theorem Mc.slot {ph H : PH} {B S t nB nS : Nat} {io : Io} {μ : Mem} (h : Mc ph H B S t nB nS io μ) (d v : Int) : Mc ph (H.set S (.dct (bxD (fun j => if j = d then v else μ (false, j)) nS))) B S t nB nS io (put1 μ [(false, d)] v) :=
 ⟨h.kp.set (.inl (by simp)) _, by rw [List.getElem?_set_ne (Ne.symm h.ne), put_sb]; exact h.bx, by rw [List.getElem?_set_self (List.getElem?_eq_some_iff.mp h.sl).1, put_s], get_set_ne h.td h.sl (by simp), h.ne, h.tl, h.sz⟩
theorem box_row {ph H : PH} {B S t nB nS : Nat} {io : Io} {μ : Mem} (h : Mc ph H B S t nB nS io μ) (hs : ∀ t, Sml (μ t)) {r : Rw} (ho : r.ok nB nS) (inp : List Int) {v : Int} (hk : r.inn = true) (ha : act inp r io (r.rd.map μ) = .go io v) :
  ∃ w H', f_law_box_row [r.W, .ref B, .ref S] H = .ok w H' /\ Mc ph H' B S t nB nS io (put1 μ r.wr v) := by
 unfold f_law_box_row b_law_box_row
 cases r with
 | take b => cases hk
 | tell b => cases hk
 | turn => cases hk
 | put b n =>
  cases ha
  have i1 := ho.wr (true, b) (by simp [Rw.wr])
  simp only [InR, if_true] at i1
  simp only [Rw.W]
  try simp only [EVA, Nat.reduceSub, List.reduceReplicate, List.set_cons_zero, List.set_cons_succ, if_true, if_false, ↓reduceIte, String.reduceEq, reduceCtorEq]
  rw [bnd_ok (setB h.bx h.sz.1 i1.1 i1.2)]
  try simp only [EVA, Nat.reduceSub, List.reduceReplicate, List.set_cons_zero, List.set_cons_succ, if_true, if_false, ↓reduceIte, String.reduceEq, reduceCtorEq]
  exact ⟨_, _, rfl, h.box b _⟩
 | mv a b =>
  cases ha
  have i1 := ho.wr (true, a) (by simp [Rw.wr])
  have i2 := ho.rd (true, b) (by simp [Rw.rd])
  simp only [InR, if_true] at i1 i2
  simp only [Rw.W]
  try simp only [EVA, Nat.reduceSub, List.reduceReplicate, List.set_cons_zero, List.set_cons_succ, if_true, if_false, ↓reduceIte, String.reduceEq, reduceCtorEq]
  rw [bnd_ok (chk_dct h.bx), bnd_ok (getB h.bx i2.1 i2.2), bnd_ok (setB h.bx h.sz.1 i1.1 i1.2)]
  try simp only [EVA, Nat.reduceSub, List.reduceReplicate, List.set_cons_zero, List.set_cons_succ, if_true, if_false, ↓reduceIte, String.reduceEq, reduceCtorEq]
  exact ⟨_, _, rfl, h.box a _⟩
 | pull b s =>
  cases ha
  have i1 := ho.wr (true, b) (by simp [Rw.wr])
  have i2 := ho.rd (false, s) (by simp [Rw.rd])
  simp only [InR, if_true, Bool.false_eq_true, if_false] at i1 i2
  simp only [Rw.W]
  try simp only [EVA, Nat.reduceSub, List.reduceReplicate, List.set_cons_zero, List.set_cons_succ, if_true, if_false, ↓reduceIte, String.reduceEq, reduceCtorEq]
  rw [bnd_ok (chk_dct h.sl), bnd_ok (getB h.sl i2.1 i2.2), bnd_ok (setB h.bx h.sz.1 i1.1 i1.2)]
  try simp only [EVA, Nat.reduceSub, List.reduceReplicate, List.set_cons_zero, List.set_cons_succ, if_true, if_false, ↓reduceIte, String.reduceEq, reduceCtorEq]
  exact ⟨_, _, rfl, h.box b _⟩
 | push s b =>
  cases ha
  have i1 := ho.wr (false, s) (by simp [Rw.wr])
  have i2 := ho.rd (true, b) (by simp [Rw.rd])
  simp only [InR, if_true, Bool.false_eq_true, if_false] at i1 i2
  simp only [Rw.W]
  try simp only [EVA, Nat.reduceSub, List.reduceReplicate, List.set_cons_zero, List.set_cons_succ, if_true, if_false, ↓reduceIte, String.reduceEq, reduceCtorEq]
  rw [bnd_ok (chk_dct h.bx), bnd_ok (getB h.bx i2.1 i2.2), bnd_ok (setB h.sl h.sz.2 i1.1 i1.2)]
  try simp only [EVA, Nat.reduceSub, List.reduceReplicate, List.set_cons_zero, List.set_cons_succ, if_true, if_false, ↓reduceIte, String.reduceEq, reduceCtorEq]
  exact ⟨_, _, rfl, h.slot s _⟩
 | dd d w a b =>
  have i1 := ho.wr (true, d) (by simp [Rw.wr])
  have i2 := ho.rd (true, a) (by simp [Rw.rd])
  have i3 := ho.rd (true, b) (by simp [Rw.rd])
  simp only [InR, if_true] at i1 i2 i3
  have hv : v = deed w (μ (true, a)) (μ (true, b)) /\ (w = .part -> μ (true, b) ≠ 0) := by
   cases w with
   | part =>
    unfold act at ha
    simp only [Rw.rd, List.map_cons, List.map_nil] at ha
    split at ha
    ·cases ha
    ·rename_i hz
     cases ha
     exact ⟨rfl, fun _ => hz⟩
   | _ => cases ha; exact ⟨rfl, fun q => by cases q⟩
  obtain ⟨rfl, hn⟩ := hv
  obtain ⟨H1, e1, x1⟩ := ldeed w (μ (true, a)) (μ (true, b)) (hs _) hn H
  have h1 := h.ex x1
  simp only [Rw.W]
  try simp only [EVA, Nat.reduceSub, List.reduceReplicate, List.set_cons_zero, List.set_cons_succ, if_true, if_false, ↓reduceIte, String.reduceEq, reduceCtorEq]
  rw [bnd_ok (chk_dct h.bx), bnd_ok (getB h.bx i2.1 i2.2), bnd_ok (chk_dct h.bx), bnd_ok (getB h.bx i3.1 i3.2), bnd_ok e1, bnd_ok (setB h1.bx h1.sz.1 i1.1 i1.2)]
  try simp only [EVA, Nat.reduceSub, List.reduceReplicate, List.set_cons_zero, List.set_cons_succ, if_true, if_false, ↓reduceIte, String.reduceEq, reduceCtorEq]
  exact ⟨_, _, rfl, h1.box d _⟩
section
variable {t u : TM} {a b : SM} {σ : PSt} {ph ph1 ph2 : PH} {w : W}
theorem seq_if_f (h : t σ ph = .ok false ph1) : sSeq (sIf t a sNext) b σ ph = b σ ph1 := by
 rw [sSeq_ap, sIf_ap, bnd_assoc, bnd_ok h]
 rfl
theorem seq_if_t (h : t σ ph = .ok true ph1) (ha : a σ ph1 = .ok (.rt w) ph2) : sSeq (sIf t a sNext) b σ ph = .ok (.rt w) ph2 := by
 rw [sSeq_ap, sIf_ap, bnd_assoc, bnd_ok h]
 simp only [if_true]
 rw [bnd_ok ha]
 rfl
theorem if_f (h : t σ ph = .ok false ph1) : sIf t a b σ ph = b σ ph1 := by
 rw [sIf_ap, bnd_ok h]
 rfl
theorem if_t (h : t σ ph = .ok true ph1) : sIf t a b σ ph = a σ ph1 := by
 rw [sIf_ap, bnd_ok h]
 rfl
theorem and_f (h : t σ ph = .ok false ph1) : tAndM t u σ ph = .ok false ph1 := by
 rw [tAndM_ap, bnd_ok h]
 rfl
theorem and_t (h : t σ ph = .ok true ph1) : tAndM t u σ ph = u σ ph1 := by
 rw [tAndM_ap, bnd_ok h]
 rfl
end
def Rw.hd : Rw -> String
 | .put _ _ => "put" | .mv _ _ => "move" | .pull _ _ => "pull" | .push _ _ => "push" | .take _ => "take" | .tell _ => "tell" | .turn => "turn" | .dd _ _ _ _ => "do"
noncomputable abbrev isW (s : Str) : TM := eT (eOp eqW (eOp ixV (eVar 7) (eC (.int (0)))) (eC (.str s)))
noncomputable def runB : SM := (sSeq (sIf (tAndM (eT (eOp eqW (eOp ixV (eVar 7) (eC (.int (0)))) (eC (.str "turn")))) (eT (eOp eqW (eVar 4) (eC (.int (0)))))) (sRet (eTup (aCons (eC (.str "dry")) (aCons (eVar 5) (aCons (eVar 6) aNil))))) sNext) (sSeq (sIf (tAndM (eT (eOp eqW (eOp ixV (eVar 7) (eC (.int (0)))) (eC (.str "do")))) (tAndM (eT (eOp eqW (eOp ixV (eVar 7) (eC (.int (2)))) (eC (.str "part")))) (eT (eOp eqW (eMeth isDc getW (eVar 1) (aCons (eOp ixV (eVar 7) (eC (.int (4)))) (aCons (eC (.int (0))) aNil))) (eC (.int (0))))))) (sRet (eTup (aCons (eC (.str "nought")) (aCons (eVar 5) (aCons (eVar 6) aNil))))) sNext) (sIf (eT (eOp eqW (eOp ixV (eVar 7) (eC (.int (0)))) (eC (.str "turn")))) (sAsg (eOp subW (eVar 4) (eC (.int (1)))) (gN 4)) (sIf (eT (eOp eqW (eOp ixV (eVar 7) (eC (.int (0)))) (eC (.str "take")))) (sSeq (sAsg (eOp ixV (eOp addW (eVar 3) (eOp mulV (eLst (aCons (eC (.int (0))) aNil)) (eOp addW (eVar 6) (eC (.int (1)))))) (eVar 6)) (gSubV (eVar 1) (eOp ixV (eVar 7) (eC (.int (1)))))) (sAsg (eOp addW (eVar 6) (eC (.int (1)))) (gN 6))) (sIf (eT (eOp eqW (eOp ixV (eVar 7) (eC (.int (0)))) (eC (.str "tell")))) (sExpr (eMeth isL appendW (eVar 5) (aCons (eMeth isDc getW (eVar 1) (aCons (eOp ixV (eVar 7) (eC (.int (1)))) (aCons (eC (.int (0))) aNil))) aNil))) (sExpr (eCall f_law_box_row (aCons (eVar 7) (aCons (eVar 1) (aCons (eVar 2) aNil))))))))))
abbrev S8 (l B S I : Nat) (io : Io) (t : Nat) (o : Option W) : PSt := [some (.ref l), some (.ref B), some (.ref S), some (.ref I), some (.int io.turns), some (.ref t), some (.int (io.tk : Int)), o]
theorem rep_one (n : Nat) : (List.replicate n [W.int 0]).flatten = (List.replicate n (0 : Int)).map W.int := by
 induction n with
 | zero => rfl
 | succ n ih => rw [List.replicate_succ, List.flatten_cons, ih, List.replicate_succ]; rfl
theorem inp_at (inp : List Int) (k : Nat) : ((inp ++ List.replicate (k + 1) (0 : Int)).map W.int)[k]? = some (.int (inp.getD k 0)) := by
 rw [List.getElem?_map]
 by_cases h : k < inp.length
 ·rw [List.getElem?_append_left h, List.getElem?_eq_getElem h]
  simp [h]
 ·rw [List.getElem?_append_right (by omega), List.getElem?_replicate, if_pos (by omega)]
  simp [Nat.le_of_not_lt h]
theorem hd_W (r : Rw) : ∃ l, r.W = .tup (.str (Str.ofString r.hd) :: l) := by cases r <;> exact ⟨_, rfl⟩
theorem tst (l B S I t : Nat) (io : Io) (r : Rw) (s : String) (H : PH) : isW (Str.ofString s) (S8 l B S I io t (some r.W)) H = .ok (decide (r.hd = s)) H := by
 obtain ⟨q, e⟩ := hd_W r
 rw [e]
 try simp only [EVA, Nat.reduceSub, List.reduceReplicate, List.set_cons_zero, List.set_cons_succ, if_true, if_false, ↓reduceIte, String.reduceEq, reduceCtorEq]
theorem tst0 (l B S I t : Nat) (io : Io) (o : Option W) (H : PH) : eT (eOp eqW (eVar 4) (eC (.int (0)))) (S8 l B S I io t o) H = .ok (decide (io.turns = 0)) H := by
 try simp only [EVA, Nat.reduceSub, List.reduceReplicate, List.set_cons_zero, List.set_cons_succ, if_true, if_false, ↓reduceIte, String.reduceEq, reduceCtorEq]
theorem run_step {ph H : PH} {l B S I t nB nS : Nat} {io : Io} {μ : Mem} {inp : List Int} (h : Mc ph H B S t nB nS io μ) (hI : ph[I]? = some (.lst (inp.map W.int))) (hIn : I ∉ [B, S]) (hz : inp.length <= 100) (ht : io.tk <= 1000) (hd : io.told.length <= 1000) (hs : ∀ t, Sml (μ t)) {r : Rw} (ho : r.ok nB nS) :
  (∃ s, act inp r io (r.rd.map μ) = .stop s /\ runB (S8 l B S I io t (some r.W)) H = .ok (.rt (.tup [.str (Str.ofString s), .ref t, .int (io.tk : Int)])) H) \/
  ∃ io' v H', act inp r io (r.rd.map μ) = .go io' v /\ runB (S8 l B S I io t (some r.W)) H = .ok (.nx (S8 l B S I io' t (some r.W))) H' /\ Mc ph H' B S t nB nS io' (put1 μ r.wr v) /\ io'.tk <= io.tk + 1 /\ io'.told.length <= io.told.length + 1 := by
 have T := fun s => tst l B S I t io r s H
 have rest : ∀ v, r.inn = true -> act inp r io (r.rd.map μ) = .go io v -> ∃ w H', f_law_box_row [r.W, .ref B, .ref S] H = .ok w H' /\ Mc ph H' B S t nB nS io (put1 μ r.wr v) := fun v => box_row h hs ho inp
 have bx : ∀ {w H'}, f_law_box_row [r.W, .ref B, .ref S] H = .ok w H' -> sExpr (eCall f_law_box_row (aCons (eVar 7) (aCons (eVar 1) (aCons (eVar 2) aNil)))) (S8 l B S I io t (some r.W)) H = .ok (.nx (S8 l B S I io t (some r.W))) H' := fun {w H'} e => by
  try simp only [EVA, Nat.reduceSub, List.reduceReplicate, List.set_cons_zero, List.set_cons_succ, if_true, if_false, ↓reduceIte, String.reduceEq, reduceCtorEq]
  rw [bnd_ok e]
  rfl
 unfold runB
 by_cases e1 : r.hd = "turn"
 ·obtain rfl : r = .turn := by cases r <;> simp [Rw.hd] at e1 ⊢
  have T1 : isW "turn" (S8 l B S I io t (some Rw.turn.W)) H = .ok true H := (T "turn").trans (by rw [decide_eq_true e1])
  have T2 : isW "do" (S8 l B S I io t (some Rw.turn.W)) H = .ok false H := (T "do").trans (by rfl)
  by_cases hz0 : io.turns = 0
  ·refine .inl ⟨"dry", ?_, ?_⟩
   ·show (if io.turns = 0 then Act.stop "dry" else _) = _
    rw [if_pos hz0]
   ·exact seq_if_t ((and_t T1).trans ((tst0 l B S I t io _ H).trans (by rw [decide_eq_true hz0]))) (by try simp only [EVA, Nat.reduceSub, List.reduceReplicate, List.set_cons_zero, List.set_cons_succ, if_true, if_false, ↓reduceIte, String.reduceEq, reduceCtorEq])
  ·refine .inr ⟨⟨io.turns - 1, io.told, io.tk⟩, 0, H, ?_, ?_, ?_, by show io.tk <= _; omega, by show io.told.length <= _; omega⟩
   ·show (if io.turns = 0 then Act.stop "dry" else _) = _
    rw [if_neg hz0]
   ·rw [seq_if_f ((and_t T1).trans ((tst0 l B S I t io _ H).trans (by rw [decide_eq_false hz0]))), seq_if_f (and_f T2), if_t T1]
    try simp only [EVA, Nat.reduceSub, List.reduceReplicate, List.set_cons_zero, List.set_cons_succ, if_true, if_false, ↓reduceIte, String.reduceEq, reduceCtorEq]
   ·show Mc ph H B S t nB nS _ (put1 μ [] 0)
    rw [put_0]
    exact h.io rfl
 have T1 : isW "turn" (S8 l B S I io t (some r.W)) H = .ok false H := (T "turn").trans (by rw [decide_eq_false e1])
 rw [seq_if_f (and_f T1)]
 by_cases e2 : r.hd = "do"
 ·have T2 : isW "do" (S8 l B S I io t (some r.W)) H = .ok true H := (T "do").trans (by rw [decide_eq_true e2])
  have T3 : isW "take" (S8 l B S I io t (some r.W)) H = .ok false H := (T "take").trans (by rw [e2]; rfl)
  have T4 : isW "tell" (S8 l B S I io t (some r.W)) H = .ok false H := (T "tell").trans (by rw [e2]; rfl)
  obtain ⟨d, w, a, b, rfl⟩ : ∃ d w a b, r = .dd d w a b := by cases r <;> simp [Rw.hd] at e2 ⊢
  have i3 := ho.rd (true, b) (by simp [Rw.rd])
  simp only [InR, if_true] at i3
  have P : tAndM (eT (eOp eqW (eOp ixV (eVar 7) (eC (.int (2)))) (eC (.str "part")))) (eT (eOp eqW (eMeth isDc getW (eVar 1) (aCons (eOp ixV (eVar 7) (eC (.int (4)))) (aCons (eC (.int (0))) aNil))) (eC (.int (0))))) (S8 l B S I io t (some (Rw.dd d w a b).W)) H = .ok (decide (w = .part) && decide (μ (true, b) = 0)) H := by
   simp only [Rw.W]
   by_cases hw : w = .part
   ·subst hw
    rw [and_t (ph1 := H) (by try simp only [EVA, Nat.reduceSub, List.reduceReplicate, List.set_cons_zero, List.set_cons_succ, if_true, if_false, ↓reduceIte, String.reduceEq, reduceCtorEq, Wd.S])]
    try simp only [EVA, Nat.reduceSub, List.reduceReplicate, List.set_cons_zero, List.set_cons_succ, if_true, if_false, ↓reduceIte, String.reduceEq, reduceCtorEq]
    rw [bnd_ok (chk_dct h.bx), bnd_ok (getB h.bx i3.1 i3.2)]
    try simp only [EVA, Nat.reduceSub, List.reduceReplicate, List.set_cons_zero, List.set_cons_succ, if_true, if_false, ↓reduceIte, String.reduceEq, reduceCtorEq]
   ·rw [decide_eq_false hw]
    refine and_f ?_
    have : ¬ w.S = "part" := by cases w <;> simp [Wd.S] at hw ⊢
    try simp only [EVA, Nat.reduceSub, List.reduceReplicate, List.set_cons_zero, List.set_cons_succ, if_true, if_false, ↓reduceIte, String.reduceEq, reduceCtorEq, decide_eq_false this]
  have key : ∀ v, act inp (.dd d w a b) io ((Rw.dd d w a b).rd.map μ) = .go io v -> (decide (w = .part) && decide (μ (true, b) = 0)) = false -> ∃ io' v H', act inp (.dd d w a b) io ((Rw.dd d w a b).rd.map μ) = .go io' v /\ sSeq (sIf (tAndM (isW "do") (tAndM (eT (eOp eqW (eOp ixV (eVar 7) (eC (.int (2)))) (eC (.str "part")))) (eT (eOp eqW (eMeth isDc getW (eVar 1) (aCons (eOp ixV (eVar 7) (eC (.int (4)))) (aCons (eC (.int (0))) aNil))) (eC (.int (0))))))) (sRet (eTup (aCons (eC (.str "nought")) (aCons (eVar 5) (aCons (eVar 6) aNil))))) sNext) (sIf (isW "turn") (sAsg (eOp subW (eVar 4) (eC (.int (1)))) (gN 4)) (sIf (isW "take") (sSeq (sAsg (eOp ixV (eOp addW (eVar 3) (eOp mulV (eLst (aCons (eC (.int (0))) aNil)) (eOp addW (eVar 6) (eC (.int (1)))))) (eVar 6)) (gSubV (eVar 1) (eOp ixV (eVar 7) (eC (.int (1)))))) (sAsg (eOp addW (eVar 6) (eC (.int (1)))) (gN 6))) (sIf (isW "tell") (sExpr (eMeth isL appendW (eVar 5) (aCons (eMeth isDc getW (eVar 1) (aCons (eOp ixV (eVar 7) (eC (.int (1)))) (aCons (eC (.int (0))) aNil))) aNil))) (sExpr (eCall f_law_box_row (aCons (eVar 7) (aCons (eVar 1) (aCons (eVar 2) aNil)))))))) (S8 l B S I io t (some (Rw.dd d w a b).W)) H = .ok (.nx (S8 l B S I io' t (some (Rw.dd d w a b).W))) H' /\ Mc ph H' B S t nB nS io' (put1 μ (Rw.dd d w a b).wr v) /\ io'.tk <= io.tk + 1 /\ io'.told.length <= io.told.length + 1 := by
   intro v ha hf
   obtain ⟨w0, H', e, m⟩ := rest v rfl ha
   refine ⟨io, v, H', ha, ?_, m, by omega, by omega⟩
   rw [seq_if_f ((and_t T2).trans (P.trans (by rw [hf]))), if_f T1, if_f T3, if_f T4]
   exact bx e
  by_cases hw : w = .part
  ·subst hw
   by_cases hz0 : μ (true, b) = 0
   ·refine .inl ⟨"nought", ?_, ?_⟩
    ·show (if μ (true, b) = 0 then Act.stop "nought" else _) = _
     rw [if_pos hz0]
    ·exact seq_if_t ((and_t T2).trans (P.trans (by rw [decide_eq_true hz0]; rfl))) (by try simp only [EVA, Nat.reduceSub, List.reduceReplicate, List.set_cons_zero, List.set_cons_succ, if_true, if_false, ↓reduceIte, String.reduceEq, reduceCtorEq])
   ·exact .inr (key (deed .part (μ (true, a)) (μ (true, b))) (by
     show (if μ (true, b) = 0 then Act.stop "nought" else _) = _
     rw [if_neg hz0]
     rfl) (by rw [decide_eq_false hz0, Bool.and_false]))
  ·exact .inr (key (deed w (μ (true, a)) (μ (true, b))) (by cases w <;> first | rfl | exact absurd rfl hw) (by rw [decide_eq_false hw, Bool.false_and]))
 have T2 : isW "do" (S8 l B S I io t (some r.W)) H = .ok false H := (T "do").trans (by rw [decide_eq_false e2])
 rw [seq_if_f (and_f T2), if_f T1]
 by_cases e3 : r.hd = "take"
 ·have T3 : isW "take" (S8 l B S I io t (some r.W)) H = .ok true H := (T "take").trans (by rw [decide_eq_true e3])
  rw [if_t T3]
  obtain ⟨b, rfl⟩ : ∃ b, r = .take b := by cases r <;> simp [Rw.hd] at e3 ⊢
  have i1 := ho.wr (true, b) (by simp [Rw.wr])
  simp only [InR, if_true] at i1
  have gI := h.kp.2 I _ hIn hI
  have e1 : (inp.map W.int) ++ (List.replicate ((io.tk : Int) + 1).toNat [W.int 0]).flatten = (inp ++ List.replicate (io.tk + 1) (0 : Int)).map W.int := by
   rw [rep_one, <- List.map_append, show ((io.tk : Int) + 1).toNat = io.tk + 1 by omega]
  generalize hH2 : H ++ [PO.lst [W.int 0]] = H1
  have x1 : Ex H H1 := by rw [<- hH2]; exact Ex.one _ _
  have g1 : H1[H.length]? = some (.lst [.int 0]) := by rw [<- hH2]; exact get_new _ _
  generalize hH3 : H1 ++ [PO.lst (List.replicate ((io.tk : Int) + 1).toNat [W.int 0]).flatten] = H2
  have x2 : Ex H1 H2 := by rw [<- hH3]; exact Ex.one _ _
  have g2 : H2[H1.length]? = some (.lst (List.replicate ((io.tk : Int) + 1).toNat [W.int 0]).flatten) := by rw [<- hH3]; exact get_new _ _
  have lf : (List.replicate ((io.tk : Int) + 1).toNat [W.int 0]).flatten.length <= 1001 := by rw [rep_one]; simp; omega
  generalize hH4 : H2 ++ [PO.lst ((inp ++ List.replicate (io.tk + 1) (0 : Int)).map W.int)] = H3
  have x3 : Ex H2 H3 := by rw [<- hH4]; exact Ex.one _ _
  have g3 : H3[H2.length]? = some (.lst ((inp ++ List.replicate (io.tk + 1) (0 : Int)).map W.int)) := by rw [<- hH4]; exact get_new _ _
  have h3 := h.ex ((x1.trans x2).trans x3)
  refine .inr ⟨⟨io.turns, io.told, io.tk + 1⟩, inp.getD io.tk 0, H3.set B (.dct (bxD (fun j => if j = b then inp.getD io.tk 0 else μ (true, j)) nB)), rfl, ?_, ?_, Nat.le_refl _, by show io.told.length <= _; omega⟩
  ·simp only [Rw.W]
   try simp only [EVA, Nat.reduceSub, List.reduceReplicate, List.set_cons_zero, List.set_cons_succ, if_true, if_false, ↓reduceIte, String.reduceEq, reduceCtorEq]
   rw [bnd_new _ _ _ (small (by simp)), hH2, bnd_ok (mulv_ref g1 (by omega) (by omega) (small (by simp; omega))), hH3]
   rw [bnd_ok (add_ref (x2.get (x1.get gI)) g2 (small (by rw [List.length_map]; omega))), e1, hH4]
   rw [bnd_ok (ixv_nat g3 (inp_at inp io.tk))]
   rw [bnd_ok (setB h3.bx h3.sz.1 i1.1 i1.2)]
   try simp only [EVA, Nat.reduceSub, List.reduceReplicate, List.set_cons_zero, List.set_cons_succ, if_true, if_false, ↓reduceIte, String.reduceEq, reduceCtorEq]
   rfl
  ·exact (h3.box b _).io rfl
 have T3 : isW "take" (S8 l B S I io t (some r.W)) H = .ok false H := (T "take").trans (by rw [decide_eq_false e3])
 rw [if_f T3]
 by_cases e4 : r.hd = "tell"
 ·have T4 : isW "tell" (S8 l B S I io t (some r.W)) H = .ok true H := (T "tell").trans (by rw [decide_eq_true e4])
  rw [if_t T4]
  obtain ⟨b, rfl⟩ : ∃ b, r = .tell b := by cases r <;> simp [Rw.hd] at e4 ⊢
  have i1 := ho.rd (true, b) (by simp [Rw.rd])
  simp only [InR, if_true] at i1
  refine .inr ⟨⟨io.turns, io.told ++ [μ (true, b)], io.tk⟩, 0, H.set t (.lst ((io.told ++ [μ (true, b)]).map W.int)), rfl, ?_, ?_, by show io.tk <= _; omega, by show (io.told ++ [μ (true, b)]).length <= _; simp⟩
  ·simp only [Rw.W]
   try simp only [EVA, Nat.reduceSub, List.reduceReplicate, List.set_cons_zero, List.set_cons_succ, if_true, if_false, ↓reduceIte, String.reduceEq, reduceCtorEq]
   rw [bnd_ok (chk_ref h.td), bnd_ok (chk_dct h.bx), bnd_ok (getB h.bx i1.1 i1.2)]
   rw [bnd_ok (append_ref h.td (by rw [List.length_map]; exact Nat.lt_of_lt_of_le (by omega) (small (n := 2000) (by omega))) _)]
   rw [List.map_append]
   try simp only [EVA, Nat.reduceSub, List.reduceReplicate, List.set_cons_zero, List.set_cons_succ, if_true, if_false, ↓reduceIte, String.reduceEq, reduceCtorEq]
   rfl
  ·show Mc ph _ B S t nB nS _ (put1 μ [] 0)
   rw [put_0]
   have lt := (List.getElem?_eq_some_iff.mp h.td).1
   exact ⟨h.kp.set (.inr h.tl) _, get_set_ne h.bx h.td (by simp), get_set_ne h.sl h.td (by simp), List.getElem?_set_self lt, h.ne, h.tl, h.sz⟩
 have T4 : isW "tell" (S8 l B S I io t (some r.W)) H = .ok false H := (T "tell").trans (by rw [decide_eq_false e4])
 rw [if_f T4]
 have fin : ∀ v, r.inn = true -> act inp r io (r.rd.map μ) = .go io v -> ∃ io' v H', act inp r io (r.rd.map μ) = .go io' v /\ sExpr (eCall f_law_box_row (aCons (eVar 7) (aCons (eVar 1) (aCons (eVar 2) aNil)))) (S8 l B S I io t (some r.W)) H = .ok (.nx (S8 l B S I io' t (some r.W))) H' /\ Mc ph H' B S t nB nS io' (put1 μ r.wr v) /\ io'.tk <= io.tk + 1 /\ io'.told.length <= io.told.length + 1 := fun v hi ha => by
  obtain ⟨w0, H', e, m⟩ := rest v hi ha
  exact ⟨io, v, H', ha, bx e, m, by omega, by omega⟩
 cases r with
 | take b => exact absurd rfl e3
 | tell b => exact absurd rfl e4
 | turn => exact absurd rfl e1
 | dd d w a b => exact absurd rfl e2
 | _ => exact .inr (fin _ rfl rfl)
end IL.K24
namespace IL.K24
open PySem L2
theorem run_cons (inp : List Int) (r : Rw) (rs : List Rw) (io : Io) (μ : Mem) : runR inp (r :: rs) io μ = match act inp r io (r.rd.map μ) with
  | .stop s => .stop s io
  | .go io' v => runR inp rs io' (put1 μ r.wr v) := rfl
def ResAt (H : PH) (B S t nB nS : Nat) (R : Rs) (w : W) : Prop := match R with
 | .stop s io => w = .tup [.str (Str.ofString s), .ref t, .int (io.tk : Int)] /\ H[t]? = some (.lst (io.told.map W.int))
 | .done io μ => w = .tup [.str "done", .ref t, .int (io.tk : Int), .ref B, .ref S] /\ H[t]? = some (.lst (io.told.map W.int)) /\ H[B]? = some (.dct (bxD (fun i => μ (true, i)) nB)) /\ H[S]? = some (.dct (bxD (fun i => μ (false, i)) nS))
theorem run_s {ph : PH} {l B S I nB nS : Nat} {rs : List Rw} {inp : List Int} {μ0 : Mem} {turns : Int} (hl : ph[l]? = some (.lst (rs.map Rw.W))) (hB : ph[B]? = some (.dct (bxD (fun i => μ0 (true, i)) nB))) (hS : ph[S]? = some (.dct (bxD (fun i => μ0 (false, i)) nS))) (hI : ph[I]? = some (.lst (inp.map W.int)))
  (ne : B ≠ S) (sz : nB <= 1000 /\ nS <= 1000) (ok : ∀ r ∈ rs, r.ok nB nS) (hs : ∀ t, Sml (μ0 t)) (hin : ∀ n ∈ inp, Sml n) (hz : rs.length <= 100) (hz2 : inp.length <= 100) :
  ∃ t w H, f_law_run [.ref l, .ref B, .ref S, .ref I, .int turns] ph = .ok w H /\ Kp [B, S] ph H /\ ph.length <= t /\ ResAt H B S t nB nS (runR inp rs ⟨turns, [], 0⟩ μ0) w := by
 unfold f_law_run
 rw [fM_5]
 simp only [Nat.reduceSub, List.reduceReplicate]
 suffices key : ∃ t w H, b_law_run [some (.ref l), some (.ref B), some (.ref S), some (.ref I), some (.int turns), none, none, none] ph = Out.ok (Fl.rt w) H /\ Kp [B, S] ph H /\ ph.length <= t /\ ResAt H B S t nB nS (runR inp rs ⟨turns, [], 0⟩ μ0) w by
  obtain ⟨t, w, H, k1, k2⟩ := key
  exact ⟨t, w, H, by rw [bnd_ok k1]; rfl, k2⟩
 unfold b_law_run
 rw [seq_asg (w := .ref ph.length) (ph1 := ph ++ [.lst []]) (by
  try simp only [EVA, Nat.reduceSub, List.reduceReplicate, List.set_cons_zero, List.set_cons_succ, if_true, if_false, ↓reduceIte, String.reduceEq, reduceCtorEq]
  rw [new_ap _ _ (small (by simp))])]
 simp only [List.set_cons_zero, List.set_cons_succ]
 rw [seq_asg (w := .int 0) (ph1 := ph ++ [.lst []]) rfl]
 simp only [List.set_cons_zero, List.set_cons_succ]
 generalize hp1 : ph ++ [PO.lst []] = p1
 have x1 : Ex ph p1 := by rw [<- hp1]; exact Ex.one _ _
 have g1 : p1[ph.length]? = some (.lst []) := by rw [<- hp1]; exact get_new _ _
 have lneB : l ∉ [B, S] := by
  intro h
  rcases List.mem_cons.mp h with e | h
  ·rw [e, hB] at hl; cases hl
  ·rw [List.mem_singleton.mp h, hS] at hl; cases hl
 have IneB : I ∉ [B, S] := by
  intro h
  rcases List.mem_cons.mp h with e | h
  ·rw [e, hB] at hI; cases hI
  ·rw [List.mem_singleton.mp h, hS] at hI; cases hI
 rw [sSeq_ap]
 have m0 : Mc ph p1 B S ph.length nB nS ⟨turns, [], 0⟩ μ0 := ⟨Ex.kp x1 _, x1.get hB, x1.get hS, g1, ne, Nat.le_refl _, sz⟩
 have main := forG_ret (chk := fun p => decide (p[l]? = some (.lst (rs.map Rw.W)))) (g := gN 7) (b := runB)
  (fun w H => Kp [B, S] ph H /\ ResAt H B S ph.length nB nS (runR inp rs ⟨turns, [], 0⟩ μ0) w)
  (fun k σ H => ∃ io μ o, σ = S8 l B S I io ph.length o /\ Mc ph H B S ph.length nB nS io μ /\ io.tk <= k /\ io.told.length <= k /\ k <= 100 /\ (∀ t, Sml (μ t)) /\ runR inp (rs.drop k) io μ = runR inp rs ⟨turns, [], 0⟩ μ0)
  (rs.map Rw.W) 0 (S8 l B S I ⟨turns, [], 0⟩ ph.length none) p1
  (fun k σ H hI => by obtain ⟨_, _, _, _, m, _⟩ := hI; exact decide_eq_true (m.kp.2 l _ lneB hl))
  (fun k w σ H hk hI' => by
   rw [Nat.zero_add] at hI' ⊢
   obtain ⟨io, μ, o, rfl, m, b1, b2, b3, hsm, hr⟩ := hI'
   rw [List.getElem?_map] at hk
   cases hrk : rs[k]? with
   | none => rw [hrk] at hk; cases hk
   | some r =>
    rw [hrk] at hk
    cases hk
    obtain ⟨hkl, hkr⟩ := List.getElem?_eq_some_iff.mp hrk
    have hok := ok r (hkr ▸ List.getElem_mem hkl)
    have hd : runR inp (r :: rs.drop (k + 1)) io μ = runR inp rs ⟨turns, [], 0⟩ μ0 := by rw [<- hr, List.drop_eq_getElem_cons hkl, hkr]
    rw [run_cons] at hd
    refine ⟨S8 l B S I io ph.length (some r.W), H, rfl, ?_⟩
    rcases run_step (l := l) m hI IneB hz2 (by omega) (by omega) hsm hok with ⟨s, ea, er⟩ | ⟨io', v, H', ea, er, m', c1, c2⟩
    ·refine ⟨_, H, er, .inr ⟨_, rfl, m.kp, ?_⟩⟩
     rw [ea] at hd
     rw [<- hd]
     exact ⟨rfl, m.td⟩
    ·refine ⟨_, H', er, .inl ⟨_, .inl rfl, io', put1 μ r.wr v, _, rfl, m', by omega, by omega, by omega, fun t => ?_, ?_⟩⟩
     ·unfold put1
      split
      ·exact act_sml hok hin (fun n hn => by obtain ⟨q, _, rfl⟩ := List.mem_map.mp hn; exact hsm q) ea
      ·exact hsm t
     ·rw [ea] at hd
      exact hd)
  ⟨⟨turns, [], 0⟩, μ0, none, rfl, m0, Nat.le_refl _, by simp, by omega, hs, by simp⟩
 have lp : iBoth (eVar 0) (S8 l B S I ⟨turns, [], 0⟩ ph.length none) p1 = .ok (rs.map Rw.W, fun p => decide (p[l]? = some (.lst (rs.map Rw.W)))) p1 := iBoth_ref (m := eVar 0) rfl (x1.get hl)
 have sf : ∀ {f : Fl} {H : PH}, forG (fun p => decide (p[l]? = some (.lst (rs.map Rw.W)))) (gN 7) runB (rs.map Rw.W) (S8 l B S I ⟨turns, [], 0⟩ ph.length none) p1 = .ok f H -> sFor (iBoth (eVar 0)) (gN 7) runB (S8 l B S I ⟨turns, [], 0⟩ ph.length none) p1 = .ok f H := fun {f H} e => by
  unfold sFor
  rw [bnd_ok lp]
  exact e
 rcases main with ⟨σ', H, e, io, μ, o, rfl, m, _, _, _, _, hr⟩ | ⟨w, H, e, kp, hR⟩
 ·refine ⟨ph.length, .tup [.str "done", .ref ph.length, .int (io.tk : Int), .ref B, .ref S], H, ?_, m.kp, Nat.le_refl _, ?_⟩
  ·have e2 := sf e
   unfold runB at e2
   refine Eq.trans (bnd_ok e2) ?_
   try simp only [EVA, Nat.reduceSub, List.reduceReplicate, List.set_cons_zero, List.set_cons_succ, if_true, if_false, ↓reduceIte, String.reduceEq, reduceCtorEq]
  ·rw [List.length_map, Nat.zero_add, List.drop_length] at hr
   rw [<- hr]
   exact ⟨rfl, m.td, m.bx, m.sl⟩
 ·refine ⟨ph.length, w, H, ?_, kp, Nat.le_refl _, hR⟩
  have e2 := sf e
  unfold runB at e2
  exact Eq.trans (bnd_ok e2) rfl
theorem ints_dat {ph : PH} {i : Nat} {a : List Int} (n : Nat) (h : ph[i]? = some (.lst (a.map W.int))) : dat ph (n + 1) (.ref i) = some (.list (a.map PyData.int)) := by
 unfold dat
 simp only [h]
 rw [mapO_map (dat ph n) W.int PyData.int (fun r => dat_i ph n r)]
 rfl
theorem eqDct_bx (ph : PH) (f : Int -> Int) (n : Nat) : eqDct ph (bxD f n) (bxD f n) = some true := by
 unfold eqDct
 rw [bx_noT, if_pos (by simp), if_pos rfl]
 have : mapO (eqP ph (bxD f n)) (bxD f n) = some ((bxD f n).map fun _ => true) := by
  have key : ∀ l : List (W × W), (∀ p ∈ l, eqP ph (bxD f n) p = some true) -> mapO (eqP ph (bxD f n)) l = some (l.map fun _ => true) := by
   intro l
   induction l with
   | nil => intro _; rfl
   | cons p l ih =>
    intro h
    unfold mapO
    rw [h p (by simp), ih fun q hq => h q (by simp [hq])]
    rfl
  apply key
  intro p hp
  unfold bxD at hp
  obtain ⟨j, hj, rfl⟩ := List.mem_map.mp hp
  have hj := List.mem_range.mp hj
  unfold eqP
  simp only
  rw [bx_get f n j (by omega) (by omega)]
  show eqD ph (.int _) (.int _) = _
  exact eqD_of (dat_i _ _ _) (dat_i _ _ _)
 rw [this]
 simp
theorem eqE_D {ph : PH} {x y : W} {b : Bool} (h : eqD ph x y = some b) : eqE ph x y = some b := by unfold eqE; rw [h]
theorem eqE_bx {ph : PH} {i j : Nat} {f : Int -> Int} {n : Nat} (hi : ph[i]? = some (.dct (bxD f n))) (hj : ph[j]? = some (.dct (bxD f n))) : eqE ph (.ref i) (.ref j) = some true := by
 unfold eqE
 rw [eqD_dct hi]
 simp only [dct_d hi, dct_d hj, bx_isI, Bool.and_self, if_true, eqDct_bx]
 split <;> rfl
theorem res_eq {H : PH} {B S t B' S' t' nB nS : Nat} {R : Rs} {w w' : W} (h : ResAt H B S t nB nS R w) (h' : ResAt H B' S' t' nB nS R w') : lift (eqV w w') H = .ok (.bl true) H := by
 cases R with
 | stop s io =>
  obtain ⟨rfl, g⟩ := h
  obtain ⟨rfl, g'⟩ := h'
  have d1 := ints_dat (n := 38) g
  have d2 := ints_dat (n := 38) g'
  refine eqV_D (eqD_of (d := .tuple [.str (Str.ofString s), .list (io.told.map PyData.int), .int (io.tk : Int)]) ?_ ?_)
  ·show (mapO (dat H 39) _).map PyData.tuple = _
   simp only [mapO, d1, dat_i]
   simp [dat, so]
  ·show (mapO (dat H 39) _).map PyData.tuple = _
   simp only [mapO, d2, dat_i]
   simp [dat, so]
 | done io μ =>
  obtain ⟨rfl, g1, g2, g3⟩ := h
  obtain ⟨rfl, g1', g2', g3'⟩ := h'
  have dn : dat H 39 (.ref B) = none := by unfold dat; simp only [g2]
  have e1 : eqD H (.tup [.str "done", .ref t, .int (io.tk : Int), .ref B, .ref S]) (.tup [.str "done", .ref t', .int (io.tk : Int), .ref B', .ref S']) = none := by
   unfold eqD
   have : dat H 40 (.tup [.str "done", .ref t, .int (io.tk : Int), .ref B, .ref S]) = none := by
    show (mapO (dat H 39) _).map PyData.tuple = _
    simp only [mapO, dn]
    simp
   rw [this]
  have e2 : eqT H (.tup [.str "done", .ref t, .int (io.tk : Int), .ref B, .ref S]) (.tup [.str "done", .ref t', .int (io.tk : Int), .ref B', .ref S']) = some true := by
   have a1 : eqE H (.str "done") (.str "done") = some true := eqE_D (eqD_of (d := .str "done") (by simp [dat, so]) (by simp [dat, so]))
   have a2 : eqE H (.ref t) (.ref t') = some true := eqE_D (eqD_of (ints_dat 39 g1) (ints_dat 39 g1'))
   have a3 : eqE H (.int (io.tk : Int)) (.int (io.tk : Int)) = some true := eqE_D (eqD_of (dat_i _ _ _) (dat_i _ _ _))
   unfold eqT
   simp only [List.length_cons, List.length_nil, if_true, List.zip_cons_cons, List.zip_nil_left, mapO, a1, a2, a3, eqE_bx g2 g2', eqE_bx g3 g3']
   rfl
  unfold lift eqV eqG
  simp only [e1, e2]
  rfl
end IL.K24
namespace IL.K24
open PySem L2
noncomputable def b_law_13 : SM := (sRet (eOp eqV (eCall f_law_run (aCons (eCall f_ordered (aCons (eCallB listW (aCons (eVar 4) aNil)) aNil)) (aCons (eCallB dictV (aCons (eVar 7) aNil)) (aCons (eCallB dictV (aCons (eVar 8) aNil)) (aCons (eVar 5) (aCons (eVar 6) aNil)))))) (eVar 10)))
noncomputable def b_law_12 : SM := sSeq (sAsg (eCall f_law_run (aCons (eVar 4) (aCons (eCallB dictV (aCons (eVar 7) aNil)) (aCons (eCallB dictV (aCons (eVar 8) aNil)) (aCons (eVar 5) (aCons (eVar 6) aNil)))))) (gN 10)) b_law_13
noncomputable def b_law_11 : SM := sSeq (sFor (iR1 (aCons (eVar 3) aNil)) (gN 9) (sAsg (eCall f_law_number_by (aCons (eCall f_law_cell_at (aCons (eVar 0) (aCons (eOp addW (eC (.int (29))) (eVar 9)) aNil))) aNil)) (gSubV (eVar 8) (eVar 9)))) b_law_12
noncomputable def b_law_10 : SM := sSeq (sFor (iR1 (aCons (eVar 2) aNil)) (gN 9) (sAsg (eCall f_law_number_by (aCons (eCall f_law_cell_at (aCons (eVar 0) (aCons (eOp addW (eC (.int (20))) (eVar 9)) aNil))) aNil)) (gSubV (eVar 7) (eVar 9)))) b_law_11
noncomputable def b_law_9 : SM := sSeq (sAsg eDct (gN 8)) b_law_10
noncomputable def b_law_8 : SM := sSeq (sAsg eDct (gN 7)) b_law_9
noncomputable def b_law_7 : SM := sSeq (sAsg (eOp modW (eOp divW (eCall f_law_cell_at (aCons (eVar 0) (aCons (eC (.int (14))) aNil))) (eC (.int (6)))) (eC (.int (4)))) (gN 6)) b_law_8
noncomputable def b_law_6 : SM := sSeq (sAsg (eComp (iR1 (aCons (eOp modW (eCall f_law_cell_at (aCons (eVar 0) (aCons (eC (.int (14))) aNil))) (eC (.int (6)))) aNil)) [none, some 0] (gN 0) cTrue (eCall f_law_number_by (aCons (eCall f_law_cell_at (aCons (eVar 1) (aCons (eOp addW (eC (.int (15))) (eVar 0)) aNil))) aNil))) (gN 5)) b_law_7
noncomputable def b_law_5 : SM := sSeq (sAsg (eComp (iR1 (aCons (eVar 1) aNil)) [none, some 2, some 3, some 0] (gN 0) cTrue (eCall f_law_row_by (aCons (eOp addW (eCall f_law_cell_at (aCons (eVar 3) (aCons (eOp addW (eC (.int (2))) (eVar 0)) aNil))) (eOp mulV (eC (.int (7))) (eOp divW (eVar 0) (eC (.int (13)))))) (aCons (eVar 1) (aCons (eVar 2) aNil))))) (gN 4)) b_law_6
noncomputable def b_law_4 : SM := sSeq (sIf (eT (eOp eqW (eOp modW (eOp divW (eCall f_law_cell_at (aCons (eVar 0) (aCons (eC (.int (1))) aNil))) (eC (.int (96)))) (eC (.int (3)))) (eC (.int (1))))) (sSeq (sAsg (eC (.int (2))) (gN 2)) (sAsg (eC (.int (1))) (gN 3))) sNext) b_law_5
noncomputable def b_law_3 : SM := sSeq (sAsg (eOp addW (eC (.int (1))) (eOp modW (eOp divW (eCall f_law_cell_at (aCons (eVar 0) (aCons (eC (.int (1))) aNil))) (eC (.int (8)))) (eC (.int (12))))) (gN 3)) b_law_4
noncomputable def b_law_2 : SM := sSeq (sAsg (eOp addW (eC (.int (2))) (eOp modW (eCall f_law_cell_at (aCons (eVar 0) (aCons (eC (.int (1))) aNil))) (eC (.int (8))))) (gN 2)) b_law_3
noncomputable def b_law_1 : SM := sSeq (sIf (eT (eOp eqW (eOp modW (eOp divW (eCall f_law_cell_at (aCons (eVar 0) (aCons (eC (.int (0))) aNil))) (eC (.int (13)))) (eC (.int (9)))) (eC (.int (1))))) (sAsg (eOp addW (eC (.int (13))) (eOp modW (eOp divW (eCall f_law_cell_at (aCons (eVar 0) (aCons (eC (.int (0))) aNil))) (eC (.int (117)))) (eC (.int (12))))) (gN 1)) sNext) b_law_2
noncomputable def b_law_0 : SM := sSeq (sAsg (eOp modW (eCall f_law_cell_at (aCons (eVar 0) (aCons (eC (.int (0))) aNil))) (eC (.int (13)))) (gN 1)) b_law_1
theorem b_law_eq : b_law = b_law_0 := rfl
def Fine (o : Out Fl) : Prop := ∃ ph', o = .ok (.rt (.bl true)) ph'
theorem rows_of (P : Rw -> Prop) : ∀ ws : List W, (∀ (j : Nat) w, ws[j]? = some w -> ∃ r : Rw, w = r.W /\ P r) -> ∃ rs : List Rw, ws = rs.map Rw.W /\ ∀ r ∈ rs, P r
 | [], _ => ⟨[], rfl, fun _ h => nomatch h⟩
 | w :: ws, h => by
  obtain ⟨r, rfl, hp⟩ := h 0 w rfl
  obtain ⟨rs, rfl, hq⟩ := rows_of P ws fun j u hu => h (j + 1) u (by simpa using hu)
  exact ⟨r :: rs, rfl, fun x hx => by
   rcases List.mem_cons.mp hx with rfl | hx
   ·exact hp
   ·exact hq x hx⟩
theorem ints_of (P : Int -> Prop) : ∀ ws : List W, (∀ (j : Nat) w, ws[j]? = some w -> ∃ r : Int, w = .int r /\ P r) -> ∃ rs : List Int, ws = rs.map W.int /\ ∀ r ∈ rs, P r
 | [], _ => ⟨[], rfl, fun _ h => nomatch h⟩
 | w :: ws, h => by
  obtain ⟨r, rfl, hp⟩ := h 0 w rfl
  obtain ⟨rs, rfl, hq⟩ := ints_of P ws fun j u hu => h (j + 1) u (by simpa using hu)
  exact ⟨r :: rs, rfl, fun x hx => by
   rcases List.mem_cons.mp hx with rfl | hx
   ·exact hp
   ·exact hq x hx⟩
theorem lt_len {H : PH} {i : Nat} {o : PO} (e : H[i]? = some o) : i < H.length := (List.getElem?_eq_some_iff.mp e).1
theorem ResAt.mv {H H' : PH} {B S t nB nS : Nat} {R : Rs} {w : W} (h : ResAt H B S t nB nS R w) (k : ∀ i o, i = B \/ i = S \/ i = t -> H[i]? = some o -> H'[i]? = some o) : ResAt H' B S t nB nS R w := by
 cases R with
 | stop s io => exact ⟨h.1, k _ _ (.inr (.inr rfl)) h.2⟩
 | done io μ => exact ⟨h.1, k _ _ (.inr (.inr rfl)) h.2.1, k _ _ (.inl rfl) h.2.2.1, k _ _ (.inr (.inl rfl)) h.2.2.2⟩
theorem t12 {ph : PH} {R I F G nB nS : Nat} {rs : List Rw} {inp : List Int} {f g : Int -> Int} {turns : Int} (hR : ph[R]? = some (.lst (rs.map Rw.W))) (hI : ph[I]? = some (.lst (inp.map W.int))) (hF : ph[F]? = some (.dct (bxD f nB))) (hG : ph[G]? = some (.dct (bxD g nS))) (sz : nB <= 1000 /\ nS <= 1000)
  (ok : ∀ r ∈ rs, r.ok nB nS) (hf : ∀ i, Sml (f i)) (hg : ∀ i, Sml (g i)) (hin : ∀ n ∈ inp, Sml n) (hz : rs.length <= 50) (hz2 : inp.length <= 100) (s a b c : W) (x y : Option W) :
  Fine (b_law_12 [some s, some a, some b, some c, some (.ref R), some (.ref I), some (.int turns), some (.ref F), some (.ref G), x, y] ph) := by
 unfold b_law_12 b_law_13
 generalize hp1 : ph ++ [PO.dct (bxD f nB)] = p1
 have x1 : Ex ph p1 := by rw [<- hp1]; exact Ex.one _ _
 have g1 : p1[ph.length]? = some (.dct (bxD f nB)) := by rw [<- hp1]; exact get_new _ _
 generalize hp2 : p1 ++ [PO.dct (bxD g nS)] = p2
 have x2 : Ex p1 p2 := by rw [<- hp2]; exact Ex.one _ _
 have g2 : p2[p1.length]? = some (.dct (bxD g nS)) := by rw [<- hp2]; exact get_new _ _
 have l1 : p1.length = ph.length + 1 := by rw [<- hp1]; simp
 have l2 : p2.length = ph.length + 2 := by rw [<- hp2]; simp; omega
 let μ0 : Mem := fun t => cond t.1 (f t.2) (g t.2)
 have hμ : ∀ t, Sml (μ0 t) := fun t => by
  obtain ⟨k, i⟩ := t
  cases k with
  | true => exact hf i
  | false => exact hg i
 obtain ⟨t1, w1, H1, e1, k1, tl1, r1⟩ := run_s (μ0 := μ0) (turns := turns) (x2.get (x1.get hR)) (x2.get g1) g2 (x2.get (x1.get hI)) (by omega) sz ok hμ hin (by omega) hz2
 rw [seq_asg (w := w1) (ph1 := H1) (by
  try simp only [EVA, Nat.reduceSub, List.reduceReplicate, List.set_cons_zero, List.set_cons_succ, if_true, if_false, ↓reduceIte, String.reduceEq, reduceCtorEq]
  rw [bnd_ok (dictV_dct hF (bx_noT f nB)), hp1, bnd_ok (dictV_dct (x1.get hG) (bx_noT g nS)), hp2]
  exact e1)]
 simp only [List.set_cons_zero, List.set_cons_succ]
 have keep : ∀ i o, i < ph.length -> ph[i]? = some o -> H1[i]? = some o := fun i o hi e => k1.2 i o (by simp; omega) (x2.get (x1.get e))
 have lt : ∀ {i : Nat} {o : PO}, ph[i]? = some o -> i < ph.length := fun e => (List.getElem?_eq_some_iff.mp e).1
 have hR1 := keep R _ (lt hR) hR
 have hI1 := keep I _ (lt hI) hI
 have hF1 := keep F _ (lt hF) hF
 have hG1 := keep G _ (lt hG) hG
 generalize hq1 : H1 ++ [PO.lst (rs.map Rw.W)] = q1
 have y1 : Ex H1 q1 := by rw [<- hq1]; exact Ex.one _ _
 have gq : q1[H1.length]? = some (.lst (rs.map Rw.W)) := by rw [<- hq1]; exact get_new _ _
 obtain ⟨D, tl, q2, e2, y2, hD, gD, sw, _, _⟩ := ordered_s gq hz
 generalize hq3 : q2 ++ [PO.dct (bxD f nB)] = q3
 have y3 : Ex q2 q3 := by rw [<- hq3]; exact Ex.one _ _
 have g3 : q3[q2.length]? = some (.dct (bxD f nB)) := by rw [<- hq3]; exact get_new _ _
 generalize hq4 : q3 ++ [PO.dct (bxD g nS)] = q4
 have y4 : Ex q3 q4 := by rw [<- hq4]; exact Ex.one _ _
 have g4 : q4[q3.length]? = some (.dct (bxD g nS)) := by rw [<- hq4]; exact get_new _ _
 have l3 : q3.length = q2.length + 1 := by rw [<- hq3]; simp
 have yy : Ex H1 q4 := ((y1.trans y2).trans y3).trans y4
 obtain ⟨t2, w2, H2, e3, k2, tl2, r2⟩ := run_s (μ0 := μ0) (turns := turns) (rs := tl) (y4.get (y3.get gD)) (y4.get g3) g4 (yy.get hI1) (by omega) sz (sw.all ok) hμ hin (by rw [sw.len]; omega) hz2
 rw [<- sw.run inp] at r2
 have lH : H1.length <= q2.length := (y1.trans y2).len
 have r1' : ResAt H2 ph.length p1.length t1 nB nS (runR inp rs ⟨turns, [], 0⟩ μ0) w1 := r1.mv fun i o _ e => k2.2 i o (by have := lt_len e; simp; omega) (yy.get e)
 refine ⟨H2, ?_⟩
 try simp only [EVA, Nat.reduceSub, List.reduceReplicate, List.set_cons_zero, List.set_cons_succ, if_true, if_false, ↓reduceIte, String.reduceEq, reduceCtorEq]
 rw [bnd_ok (list_ref hR1), hq1, bnd_ok e2, bnd_ok (dictV_dct ((y1.trans y2).get hF1) (bx_noT f nB)), hq3, bnd_ok (dictV_dct (((y1.trans y2).trans y3).get hG1) (bx_noT g nS)), hq4]
 rw [bnd_ok e3, bnd_ok (res_eq r2 r1')]
 rfl
end IL.K24
namespace IL.K24
open PySem L2
theorem bx_app (f : Int -> Int) (k : Nat) (v : Int) : dputW (bxD f k) (.int (k : Int)) (.int v) = bxD (fun j => if j = (k : Int) then v else f j) (k + 1) := by
 unfold dputW
 have : ((bxD f k).any fun p => decide (p.1 = .int (k : Int))) = false := by
  rw [List.any_eq_false]
  intro p hp
  unfold bxD at hp
  obtain ⟨i, hi, rfl⟩ := List.mem_map.mp hp
  have := List.mem_range.mp hi
  simp
  omega
 rw [this]
 simp only [Bool.false_eq_true, if_false]
 unfold bxD
 rw [List.range_succ, List.map_append]
 congr 1
 ·apply List.map_congr_left
  intro i hi
  have := List.mem_range.mp hi
  show (W.int (i : Int), W.int (f i)) = (W.int (i : Int), W.int (if (i : Int) = (k : Int) then v else f i))
  rw [if_neg (by omega)]
 ·simp
noncomputable def fillB (off : Int) (d : Nat) : SM := (sAsg (eCall f_law_number_by (aCons (eCall f_law_cell_at (aCons (eVar 0) (aCons (eOp addW (eC (.int (off))) (eVar 9)) aNil))) aNil)) (gSubV (eVar d) (eVar 9)))
abbrev SL (ns : List Int) (a b c d e f g h : Option W) (k y : Option W) : PSt := [some (.fl (ns.map W.int)), a, b, c, d, e, f, g, h, k, y]
theorem fill_g {ph : PH} {D : Nat} (ns : List Int) (off : Nat) (n : Nat) (hn : n <= 100) (hD : ph[D]? = some (.dct [])) (d : Nat) (a b c x e f g h k y : Option W) (hs : ∀ k', eVar d (SL ns a b c x e f g h k' y) = pur (.ref D)) :
  ∃ k' H F, forG (fun _ => true) (gN 9) (fillB (off : Int) d) (rngW 0 n) (SL ns a b c x e f g h k y) ph = .ok (.nx (SL ns a b c x e f g h k' y)) H /\ Kp [D] ph H /\ H[D]? = some (.dct (bxD F n)) /\ ∀ i, Sml (F i) := by
 obtain ⟨σ', H, e1, k', F, rfl, kp, hd, hF⟩ := forG_inv (chk := fun _ => true) (g := gN 9) (b := fillB (off : Int) d)
  (fun j σ H => ∃ k' F, σ = SL ns a b c x e f g h k' y /\ Kp [D] ph H /\ H[D]? = some (.dct (bxD F j)) /\ ∀ i, Sml (F i))
  (rngW 0 n) (SL ns a b c x e f g h k y) ph (fun _ _ _ _ => rfl)
  (fun j w σ H hj hI => by
   obtain ⟨k', F, rfl, kp, hd, hF⟩ := hI
   obtain ⟨hjn, rfl⟩ := rngW_get hj
   rw [Int.zero_add]
   obtain ⟨v, H1, e1, x1, v1, v2⟩ := number_by (ns.getD (off + j) 0) H
   refine ⟨SL ns a b c x e f g h (some (.int (j : Int))) y, H, rfl, .nx (SL ns a b c x e f g h (some (.int (j : Int))) y), H1.set D (.dct (bxD (fun i => if i = (j : Int) then v else F i) (j + 1))), ?_, _, .inl rfl, _, _, rfl, (kp.trans (Ex.kp x1 _)).set (.inl (by simp)) _, List.getElem?_set_self (lt_len (x1.get hd)), fun i => ?_⟩
   ·unfold fillB
    have ev := hs (some (.int (j : Int)))
    try simp only [EVA, Nat.reduceSub, List.reduceReplicate, List.set_cons_zero, List.set_cons_succ, if_true, if_false, ↓reduceIte, String.reduceEq, reduceCtorEq]
    rw [show (off : Int) + (j : Int) = ((off + j : Nat) : Int) by omega, bnd_ok (cell_at ns (off + j) H), bnd_ok e1]
    try simp only [EVA, Nat.reduceSub, List.reduceReplicate, List.set_cons_zero, List.set_cons_succ, if_true, if_false, ↓reduceIte, String.reduceEq, reduceCtorEq, ev]
    rw [bnd_ok (setv_dct (x1.get hd) (bx_ok F j (j : Int)) (by rw [bx_len]; exact Nat.lt_of_lt_of_le (by omega) (small (n := 1000) (by omega))) _), bx_app]
    rfl
   ·by_cases hi : i = (j : Int)
    ·simp only [hi, if_true]; exact ⟨v1, v2⟩
    ·simp only [hi, if_false]; exact hF i)
  ⟨k, fun _ => 0, rfl, Kp.refl _ _, hD, fun _ => ⟨by show -4294967296 <= (0 : Int); decide, by show (0 : Int) <= 4294967296; decide⟩⟩
 rw [rngW_len] at hd
 exact ⟨k', H, F, e1, kp, hd, hF⟩
theorem sfor_r {m : AM} {σ : PSt} {q : PH} {k : Nat} {g : GM} {b : SM} {r : Out Fl} (h : m σ q = .ok [.int (k : Int)] q) (hk : k <= 100) (e : forG (fun _ => true) g b (rngW 0 k) σ q = r) : sFor (iR1 m) g b σ q = r := by
 unfold sFor
 rw [bnd_ok (iR1_ap h (by omega) (by omega)), Int.toNat_natCast]
 exact e
theorem rows_s (ns : List Int) (n : Nat) (bx sl : Int) (hb : 0 < bx) (hs : 0 < sl) (hn : n <= 40) (ph : PH) (a b c d e0 f g : Option W) : ∃ (rs : List Rw) (ph' : PH), rs.length = n /\ (∀ r ∈ rs, r.ok bx sl) /\ eComp (iR1 (aCons (eVar 1) aNil)) [none, some 2, some 3, some 0] (gN 0) cTrue (eCall f_law_row_by (aCons (eOp addW (eCall f_law_cell_at (aCons (eVar 3) (aCons (eOp addW (eC (.int (2))) (eVar 0)) aNil))) (eOp mulV (eC (.int (7))) (eOp divW (eVar 0) (eC (.int (13)))))) (aCons (eVar 1) (aCons (eVar 2) aNil)))) (SL ns (some (.int (n : Int))) (some (.int bx)) (some (.int sl)) a b c d e0 f g) ph = .ok (.ref ph.length) ph' /\ Ex (ph ++ [.lst (rs.map Rw.W)]) ph' := by
 have him : iR1 (aCons (eVar 1) aNil) (SL ns (some (.int (n : Int))) (some (.int bx)) (some (.int sl)) a b c d e0 f g) ph = .ok ((List.range n).map fun k : Nat => W.int (0 + ((k : Nat) : Int)), fun _ => true) ph := by
  rw [iR1_ap (j := (n : Int)) (ph' := ph) (by try simp only [EVA, Nat.reduceSub, List.reduceReplicate, List.set_cons_zero, List.set_cons_succ, if_true, if_false, ↓reduceIte, String.reduceEq, reduceCtorEq]) (by omega) (by omega), Int.toNat_natCast]; rfl
 obtain ⟨ws, ph', e, x, hl, hR⟩ := comp_rel (cap := [none, some 2, some 3, some 0]) (g := gN 0) (c := cTrue) (e := eCall f_law_row_by (aCons (eOp addW (eCall f_law_cell_at (aCons (eVar 3) (aCons (eOp addW (eC (.int (2))) (eVar 0)) aNil))) (eOp mulV (eC (.int (7))) (eOp divW (eVar 0) (eC (.int (13)))))) (aCons (eVar 1) (aCons (eVar 2) aNil)))) _ _ him (fun _ _ => rfl) (small (by simp; omega)) (fun _ w => ∃ r : Rw, w = r.W /\ r.ok bx sl) (fun σ => ∃ y, σ = [y, some (.int bx), some (.int sl), some (.fl (ns.map W.int))]) ⟨none, rfl⟩ (fun j k hk σ H hS hE => by
  obtain ⟨y, rfl⟩ := hS
  refine ⟨_, rfl, ⟨_, rfl⟩, H, rfl, Ex.refl _, ?_⟩
  show ∃ w H2, eCall f_law_row_by (aCons (eOp addW (eCall f_law_cell_at (aCons (eVar 3) (aCons (eOp addW (eC (.int (2))) (eVar 0)) aNil))) (eOp mulV (eC (.int (7))) (eOp divW (eVar 0) (eC (.int (13)))))) (aCons (eVar 1) (aCons (eVar 2) aNil))) [some (.int (0 + (k : Int))), some (.int bx), some (.int sl), some (.fl (ns.map W.int))] H = .ok w H2 /\ Ex H H2 /\ ∃ r : Rw, w = r.W /\ r.ok bx sl
  have hm : mulC 7 ((0 + (k : Int)).fdiv 13) = true := by unfold mulC; simp
  try simp only [EVA, Nat.reduceSub, List.reduceReplicate, List.set_cons_zero, List.set_cons_succ, if_true, if_false, ↓reduceIte, String.reduceEq, reduceCtorEq, l_div (show (13 : Int) ≠ 0 by decide) (by decide), l_mul hm]
  have ht : 2 + (0 + (k : Int)) = ((2 + k : Nat) : Int) := by omega
  rw [ht, bnd_ok (cell_at ns (2 + k) H)]
  try simp only [EVA, Nat.reduceSub, List.reduceReplicate, List.set_cons_zero, List.set_cons_succ, if_true, if_false, ↓reduceIte, String.reduceEq, reduceCtorEq]
  obtain ⟨r, H2, e, x, ok⟩ := row_by (ns.getD (2 + k) 0 + 7 * (0 + (k : Int)).fdiv 13) bx sl hb hs H
  exact ⟨_, H2, e, x, r, rfl, ok⟩)
 obtain ⟨rs, rfl, hok⟩ := rows_of (fun r => r.ok bx sl) ws hR
 exact ⟨rs, ph', by simpa using hl, hok, e, x⟩
theorem inputs_s (ns : List Int) (n : Nat) (hn : n <= 40) {m : EM} (σ : PSt) (ph : PH) (hm : m σ ph = .ok (.int (n : Int)) ph) (hc : capP [none, some 0] σ = [none, some (.fl (ns.map W.int))]) : ∃ (inp : List Int) (ph' : PH), inp.length = n /\ (∀ r ∈ inp, Sml r) /\ eComp (iR1 (aCons m aNil)) [none, some 0] (gN 0) cTrue (eCall f_law_number_by (aCons (eCall f_law_cell_at (aCons (eVar 1) (aCons (eOp addW (eC (.int (15))) (eVar 0)) aNil))) aNil)) σ ph = .ok (.ref ph.length) ph' /\ Ex (ph ++ [.lst (inp.map W.int)]) ph' := by
 have him : iR1 (aCons m aNil) σ ph = .ok ((List.range n).map fun k : Nat => W.int (0 + ((k : Nat) : Int)), fun _ => true) ph := by
  rw [iR1_ap (j := (n : Int)) (ph' := ph) (by
   try simp only [EVA, Nat.reduceSub, List.reduceReplicate, List.set_cons_zero, List.set_cons_succ, if_true, if_false, ↓reduceIte, String.reduceEq, reduceCtorEq]
   rw [bnd_ok hm]
   rfl) (by omega) (by omega), Int.toNat_natCast]; rfl
 obtain ⟨ws, ph', e, x, hl, hR⟩ := comp_rel (cap := [none, some 0]) (g := gN 0) (c := cTrue) (e := eCall f_law_number_by (aCons (eCall f_law_cell_at (aCons (eVar 1) (aCons (eOp addW (eC (.int (15))) (eVar 0)) aNil))) aNil)) _ _ him (fun _ _ => rfl) (small (by simp; omega)) (fun _ w => ∃ r : Int, w = .int r /\ Sml r) (fun σ => ∃ y, σ = [y, some (.fl (ns.map W.int))]) ⟨none, hc⟩ (fun j k hk σ H hS hE => by
  obtain ⟨y, rfl⟩ := hS
  refine ⟨_, rfl, ⟨_, rfl⟩, H, rfl, Ex.refl _, ?_⟩
  show ∃ w H2, eCall f_law_number_by (aCons (eCall f_law_cell_at (aCons (eVar 1) (aCons (eOp addW (eC (.int (15))) (eVar 0)) aNil))) aNil) [some (.int (0 + (k : Int))), some (.fl (ns.map W.int))] H = .ok w H2 /\ Ex H H2 /\ ∃ r : Int, w = .int r /\ Sml r
  try simp only [EVA, Nat.reduceSub, List.reduceReplicate, List.set_cons_zero, List.set_cons_succ, if_true, if_false, ↓reduceIte, String.reduceEq, reduceCtorEq]
  have ht : 15 + (0 + (k : Int)) = ((15 + k : Nat) : Int) := by omega
  rw [ht, bnd_ok (cell_at ns (15 + k) H)]
  obtain ⟨v, H2, e, x, v1, v2⟩ := number_by (ns.getD (15 + k) 0) H
  exact ⟨_, H2, e, x, v, rfl, v1, v2⟩)
 obtain ⟨rs, rfl, hok⟩ := ints_of Sml ws hR
 exact ⟨rs, ph', by simpa using hl, hok, e, x⟩
theorem t5 (ns : List Int) (n nB nS : Nat) (hn : n <= 40) (hB : 0 < nB /\ nB <= 20) (hS : 0 < nS /\ nS <= 20) (ph : PH) (a b c d e f g : Option W) : Fine (b_law_5 (SL ns (some (.int (n : Int))) (some (.int (nB : Int))) (some (.int (nS : Int))) a b c d e f g) ph) := by
 unfold b_law_5
 obtain ⟨rs, p1, hl, ok, e1, x1⟩ := rows_s ns n (nB : Int) (nS : Int) (by omega) (by omega) hn ph a b c d e f g
 rw [seq_asg e1]
 simp only [List.set_cons_zero, List.set_cons_succ]
 unfold b_law_6
 have q1 := fmod_range (ns.getD 14 0) 6 (by decide)
 have c14 : f_law_cell_at [.fl (ns.map W.int), .int 14] p1 = .ok (.int (ns.getD 14 0)) p1 := cell_at ns 14 p1
 obtain ⟨k6, hk6⟩ : ∃ k : Nat, (ns.getD 14 0).fmod 6 = (k : Int) := ⟨((ns.getD 14 0).fmod 6).toNat, by omega⟩
 obtain ⟨inp, p2, hi, si, e2, x2⟩ := inputs_s ns k6 (by omega) (m := eOp modW (eCall f_law_cell_at (aCons (eVar 0) (aCons (eC (.int (14))) aNil))) (eC (.int (6)))) (SL ns (some (.int (n : Int))) (some (.int (nB : Int))) (some (.int (nS : Int))) (some (.ref ph.length)) b c d e f g) p1 (by
  try simp only [EVA, Nat.reduceSub, List.reduceReplicate, List.set_cons_zero, List.set_cons_succ, if_true, if_false, ↓reduceIte, String.reduceEq, reduceCtorEq]
  rw [bnd_ok c14]
  try simp only [EVA, Nat.reduceSub, List.reduceReplicate, List.set_cons_zero, List.set_cons_succ, if_true, if_false, ↓reduceIte, String.reduceEq, reduceCtorEq, l_mod (show (6 : Int) ≠ 0 by decide)]
  rw [hk6]) rfl
 rw [seq_asg e2]
 simp only [List.set_cons_zero, List.set_cons_succ]
 unfold b_law_7
 have c14' : f_law_cell_at [.fl (ns.map W.int), .int 14] p2 = .ok (.int (ns.getD 14 0)) p2 := cell_at ns 14 p2
 rw [seq_asg (w := .int (((ns.getD 14 0).fdiv 6).fmod 4)) (ph1 := p2) (by
  try simp only [EVA, Nat.reduceSub, List.reduceReplicate, List.set_cons_zero, List.set_cons_succ, if_true, if_false, ↓reduceIte, String.reduceEq, reduceCtorEq]
  rw [bnd_ok c14']
  try simp only [EVA, Nat.reduceSub, List.reduceReplicate, List.set_cons_zero, List.set_cons_succ, if_true, if_false, ↓reduceIte, String.reduceEq, reduceCtorEq, l_mod (show (4 : Int) ≠ 0 by decide), l_div (show (6 : Int) ≠ 0 by decide) (by decide)])]
 simp only [List.set_cons_zero, List.set_cons_succ]
 unfold b_law_8 b_law_9
 rw [seq_asg (w := .ref p2.length) (ph1 := p2 ++ [.dct []]) rfl]
 simp only [List.set_cons_zero, List.set_cons_succ]
 rw [seq_asg (w := .ref (p2 ++ [PO.dct []]).length) (ph1 := p2 ++ [.dct []] ++ [.dct []]) rfl]
 simp only [List.set_cons_zero, List.set_cons_succ]
 generalize hp3 : p2 ++ [PO.dct []] = p3
 have x3 : Ex p2 p3 := by rw [<- hp3]; exact Ex.one _ _
 have g3 : p3[p2.length]? = some (.dct []) := by rw [<- hp3]; exact get_new _ _
 have l3 : p3.length = p2.length + 1 := by rw [<- hp3]; simp
 generalize hp4 : p3 ++ [PO.dct []] = p4
 have x4 : Ex p3 p4 := by rw [<- hp4]; exact Ex.one _ _
 have g4 : p4[p3.length]? = some (.dct []) := by rw [<- hp4]; exact get_new _ _
 unfold b_law_10
 obtain ⟨k5, p5, F, e5, kp5, d5, s5⟩ := fill_g (ph := p4) (D := p2.length) ns 20 nB (by omega) (x4.get g3) 7 (some (.int (n : Int))) (some (.int (nB : Int))) (some (.int (nS : Int))) (some (.ref ph.length)) (some (.ref p1.length)) (some (.int (((ns.getD 14 0).fdiv 6).fmod 4))) (some (.ref p2.length)) (some (.ref p3.length)) f g (fun _ => rfl)
 have ef := sfor_r (m := aCons (eVar 2) aNil) (k := nB) (by try simp only [EVA, Nat.reduceSub, List.reduceReplicate, List.set_cons_zero, List.set_cons_succ, if_true, if_false, ↓reduceIte, String.reduceEq, reduceCtorEq]) (by omega) e5
 unfold fillB at ef
 rw [show ((20 : Nat) : Int) = 20 from rfl] at ef
 rw [sSeq_ap, bnd_ok ef]
 unfold b_law_11
 have ne23 : p3.length ∉ [p2.length] := by simp; omega
 obtain ⟨k6', p6, G, e6, kp6, d6, s6⟩ := fill_g (ph := p5) (D := p3.length) ns 29 nS (by omega) (kp5.2 _ _ ne23 g4) 8 (some (.int (n : Int))) (some (.int (nB : Int))) (some (.int (nS : Int))) (some (.ref ph.length)) (some (.ref p1.length)) (some (.int (((ns.getD 14 0).fdiv 6).fmod 4))) (some (.ref p2.length)) (some (.ref p3.length)) k5 g (fun _ => rfl)
 have ef6 := sfor_r (m := aCons (eVar 3) aNil) (k := nS) (by try simp only [EVA, Nat.reduceSub, List.reduceReplicate, List.set_cons_zero, List.set_cons_succ, if_true, if_false, ↓reduceIte, String.reduceEq, reduceCtorEq]) (by omega) e6
 unfold fillB at ef6
 rw [show ((29 : Nat) : Int) = 29 from rfl] at ef6
 show Fine (sSeq _ _ _ p5)
 rw [sSeq_ap, bnd_ok ef6]
 have gR : p2[ph.length]? = some (.lst (rs.map Rw.W)) := x2.get ((Ex.one _ _).get (x1.get (get_new _ _)))
 have gI : p2[p1.length]? = some (.lst (inp.map W.int)) := x2.get (get_new _ _)
 have keep : ∀ i o, i < p2.length -> p2[i]? = some o -> p6[i]? = some o := fun i o hi e => kp6.2 i o (by simp; omega) (kp5.2 i o (by simp; omega) (x4.get (x3.get e)))
 exact t12 (keep _ _ (lt_len gR) gR) (keep _ _ (lt_len gI) gI) (kp6.2 _ _ (by simp; omega) d5) d6 ⟨by omega, by omega⟩ ok s5 s6 si (by omega) (by omega) _ _ _ _ _ _
theorem t2 (ns : List Int) (n : Nat) (hn : n <= 40) (ph : PH) (a b c d e f g h i : Option W) : Fine (b_law_2 (SL ns (some (.int (n : Int))) a b c d e f g h i) ph) := by
 unfold b_law_2 b_law_3
 try simp only [EVA, Nat.reduceSub, List.reduceReplicate, List.set_cons_zero, List.set_cons_succ, if_true, if_false, ↓reduceIte, String.reduceEq, reduceCtorEq]
 rw [bnd_ok (cell_1 ns ph)]
 try simp only [EVA, Nat.reduceSub, List.reduceReplicate, List.set_cons_zero, List.set_cons_succ, if_true, if_false, ↓reduceIte, String.reduceEq, reduceCtorEq, l_mod (show (8 : Int) ≠ 0 by decide)]
 rw [bnd_ok (cell_1 ns ph)]
 try simp only [EVA, Nat.reduceSub, List.reduceReplicate, List.set_cons_zero, List.set_cons_succ, if_true, if_false, ↓reduceIte, String.reduceEq, reduceCtorEq, l_mod (show (12 : Int) ≠ 0 by decide), l_div (show (8 : Int) ≠ 0 by decide) (by decide)]
 have q1 := fmod_range (ns.getD 1 0) 8 (by decide)
 have q2 := fmod_range ((ns.getD 1 0).fdiv 8) 12 (by decide)
 unfold b_law_4
 try simp only [EVA, Nat.reduceSub, List.reduceReplicate, List.set_cons_zero, List.set_cons_succ, if_true, if_false, ↓reduceIte, String.reduceEq, reduceCtorEq]
 rw [bnd_ok (cell_1 ns ph)]
 try simp only [EVA, Nat.reduceSub, List.reduceReplicate, List.set_cons_zero, List.set_cons_succ, if_true, if_false, ↓reduceIte, String.reduceEq, reduceCtorEq, l_mod (show (3 : Int) ≠ 0 by decide), l_div (show (96 : Int) ≠ 0 by decide) (by decide)]
 by_cases h3 : ((ns.getD 1 0).fdiv 96).fmod 3 = 1
 ·simp only [decide_eq_true h3, if_true]
  exact t5 ns n 2 1 hn ⟨by decide, by decide⟩ ⟨by decide, by decide⟩ ph _ _ _ _ _ _ _
 ·simp only [decide_eq_false h3, Bool.false_eq_true, if_false]
  obtain ⟨nB, hB⟩ : ∃ k : Nat, 2 + (ns.getD 1 0).fmod 8 = (k : Int) := ⟨(2 + (ns.getD 1 0).fmod 8).toNat, by omega⟩
  obtain ⟨nS, hS⟩ : ∃ k : Nat, 1 + ((ns.getD 1 0).fdiv 8).fmod 12 = (k : Int) := ⟨(1 + ((ns.getD 1 0).fdiv 8).fmod 12).toNat, by omega⟩
  rw [hB, hS]
  exact t5 ns n nB nS hn ⟨by omega, by omega⟩ ⟨by omega, by omega⟩ ph _ _ _ _ _ _ _
theorem good (ns : List Int) (_ : ns.length <= 63) : ∃ ph', f_law [.fl (ns.map W.int)] [] = .ok (.bl true) ph' := by
 unfold f_law
 rw [b_law_eq]
 unfold b_law_0 b_law_1
 try simp only [EVA, Nat.reduceSub, List.reduceReplicate, List.set_cons_zero, List.set_cons_succ, if_true, if_false, ↓reduceIte, String.reduceEq, reduceCtorEq]
 rw [bnd_ok (cell_0 ns _)]
 try simp only [EVA, Nat.reduceSub, List.reduceReplicate, List.set_cons_zero, List.set_cons_succ, if_true, if_false, ↓reduceIte, String.reduceEq, reduceCtorEq, l_mod (show (13 : Int) ≠ 0 by decide)]
 rw [bnd_ok (cell_0 ns _)]
 try simp only [EVA, Nat.reduceSub, List.reduceReplicate, List.set_cons_zero, List.set_cons_succ, if_true, if_false, ↓reduceIte, String.reduceEq, reduceCtorEq, l_mod (show (9 : Int) ≠ 0 by decide), l_div (show (13 : Int) ≠ 0 by decide) (by decide)]
 have q1 := fmod_range (ns.getD 0 0) 13 (by decide)
 by_cases h : ((ns.getD 0 0).fdiv 13).fmod 9 = 1
 ·simp only [decide_eq_true h, if_true]
  rw [bnd_ok (cell_0 ns _)]
  try simp only [EVA, Nat.reduceSub, List.reduceReplicate, List.set_cons_zero, List.set_cons_succ, if_true, if_false, ↓reduceIte, String.reduceEq, reduceCtorEq, l_mod (show (12 : Int) ≠ 0 by decide), l_div (show (117 : Int) ≠ 0 by decide) (by decide)]
  have q2 := fmod_range ((ns.getD 0 0).fdiv 117) 12 (by decide)
  obtain ⟨n, hn⟩ : ∃ n : Nat, 13 + ((ns.getD 0 0).fdiv 117).fmod 12 = (n : Int) := ⟨(13 + ((ns.getD 0 0).fdiv 117).fmod 12).toNat, by omega⟩
  rw [hn]
  obtain ⟨ph', e⟩ := t2 ns n (by omega) [] none none none none none none none none none
  rw [bnd_ok e]
  exact ⟨_, rfl⟩
 ·simp only [decide_eq_false h, Bool.false_eq_true, if_false]
  obtain ⟨n, hn⟩ : ∃ n : Nat, (ns.getD 0 0).fmod 13 = (n : Int) := ⟨((ns.getD 0 0).fmod 13).toNat, by omega⟩
  rw [hn]
  obtain ⟨ph', e⟩ := t2 ns n (by omega) [] none none none none none none none none none
  rw [bnd_ok e]
  exact ⟨_, rfl⟩
end IL.K24
open PySem PySem.W PyProof.Rows
set_option maxHeartbeats 0 in
theorem PySem.Challenge.cw_boxwright_k24_whole_order_alike_holds : PySem.Challenge.rw_boxwright_k24_whole_order_alike.Holds := by
 w_on
 o_law
 k_head
 (case hw => w_witness2)
 k_fill
 refine IL.K24.walk_law (l := PySem.Challenge.rw_boxwright_k24_whole_order_alike) (fun ns hn => IL.K24.good ns hn) rfl rfl (fun w h Y => PySem.W.kIn_of Y) ?F
 case F =>
  intro w mg fa h KX G hmg
  refine' IL.K24.all_mk KX G hmg ?a_law_cell_at ?l_law_cell_at ?c_law_cell_at ?k_law_cell_at ?a_law_number_by ?l_law_number_by ?c_law_number_by ?k_law_number_by ?a_law_row_by ?l_law_row_by ?c_law_row_by ?k_law_row_by ?a_law_fit ?l_law_fit ?c_law_fit ?k_law_fit ?a_law_deed ?l_law_deed ?c_law_deed ?k_law_deed ?a_law_box_row ?l_law_box_row ?c_law_box_row ?k_law_box_row ?a_law_run ?l_law_run ?c_law_run ?k_law_run ?a_Timing_init ?i_Timing_init ?l_Timing_init ?c_Timing_init ?k_Timing_init ?a_things_read ?l_things_read ?c_things_read ?k_things_read ?a_things_written ?l_things_written ?c_things_written ?k_things_written ?a_wait_of ?l_wait_of ?c_wait_of ?k_wait_of ?a_timing_behind ?l_timing_behind ?c_timing_behind ?k_timing_behind ?a_timings_of ?l_timings_of ?c_timings_of ?k_timings_of ?a_mosts_from ?l_mosts_from ?c_mosts_from ?k_mosts_from ?a_beats_from ?l_beats_from ?c_beats_from ?k_beats_from ?a_is_outward ?l_is_outward ?c_is_outward ?k_is_outward ?a_share ?l_share ?c_share ?k_share ?a_are_bound ?l_are_bound ?c_are_bound ?k_are_bound ?a_improved ?l_improved ?c_improved ?k_improved ?a_ordered ?l_ordered ?c_ordered ?k_ordered ?a_law ?l_law ?c_law ?k_law ?z_any ?z_dict ?z_int ?z_len ?z_list ?z_max ?z_range ?x_Timing ?pg_Timing ?hd_Timing ?po_Timing ?sa_Timing ?mk_Timing ?kc_Timing ?na_most_Timing ?na_next_beat_Timing ?na_waits_Timing
  (case x_Timing => k_is)
  (case a_law_cell_at => k_is)
  (case l_law_cell_at => k_is)
  (case c_law_cell_at => k_is)
  (case k_law_cell_at => k_is)
  (case a_law_number_by => k_is)
  (case l_law_number_by => k_is)
  (case c_law_number_by => k_is)
  (case k_law_number_by => k_is)
  (case a_law_row_by => k_is)
  (case l_law_row_by => k_is)
  (case c_law_row_by => k_is)
  (case k_law_row_by => k_is)
  (case a_law_fit => k_is)
  (case l_law_fit => k_is)
  (case c_law_fit => k_is)
  (case k_law_fit => k_is)
  (case a_law_deed => k_is)
  (case l_law_deed => k_is)
  (case c_law_deed => k_is)
  (case k_law_deed => k_is)
  (case a_law_box_row => k_is)
  (case l_law_box_row => k_is)
  (case c_law_box_row => k_is)
  (case k_law_box_row => k_is)
  (case a_law_run => k_is)
  (case l_law_run => k_is)
  (case c_law_run => k_is)
  (case k_law_run => k_is)
  (case a_Timing_init => k_is)
  (case i_Timing_init => k_is)
  (case l_Timing_init => k_is)
  (case c_Timing_init => k_is)
  (case k_Timing_init => k_is)
  (case a_things_read => k_is)
  (case l_things_read => k_is)
  (case c_things_read => k_is)
  (case k_things_read => k_is)
  (case a_things_written => k_is)
  (case l_things_written => k_is)
  (case c_things_written => k_is)
  (case k_things_written => k_is)
  (case a_wait_of => k_is)
  (case l_wait_of => k_is)
  (case c_wait_of => k_is)
  (case k_wait_of => k_is)
  (case a_timing_behind => k_is)
  (case l_timing_behind => k_is)
  (case c_timing_behind => k_is)
  (case k_timing_behind => k_is)
  (case a_timings_of => k_is)
  (case l_timings_of => k_is)
  (case c_timings_of => k_is)
  (case k_timings_of => k_is)
  (case a_mosts_from => k_is)
  (case l_mosts_from => k_is)
  (case c_mosts_from => k_is)
  (case k_mosts_from => k_is)
  (case a_beats_from => k_is)
  (case l_beats_from => k_is)
  (case c_beats_from => k_is)
  (case k_beats_from => k_is)
  (case a_is_outward => k_is)
  (case l_is_outward => k_is)
  (case c_is_outward => k_is)
  (case k_is_outward => k_is)
  (case a_share => k_is)
  (case l_share => k_is)
  (case c_share => k_is)
  (case k_share => k_is)
  (case a_are_bound => k_is)
  (case l_are_bound => k_is)
  (case c_are_bound => k_is)
  (case k_are_bound => k_is)
  (case a_improved => k_is)
  (case l_improved => k_is)
  (case c_improved => k_is)
  (case k_improved => k_is)
  (case a_ordered => k_is)
  (case l_ordered => k_is)
  (case c_ordered => k_is)
  (case k_ordered => k_is)
  (case a_law => k_is)
  (case l_law => k_is)
  (case c_law => k_is)
  (case k_law => k_is)
  (case z_any => k_is)
  (case z_dict => k_is)
  (case z_int => k_is)
  (case z_len => k_is)
  (case z_list => k_is)
  (case z_max => k_is)
  (case z_range => k_is)
  (case pg_Timing => k_is)
  (case hd_Timing => k_is)
  (case po_Timing => k_is)
  (case sa_Timing => k_is)
  (case mk_Timing => k_is)
  (case kc_Timing => k_is)
  (case na_most_Timing => k_is)
  (case na_next_beat_Timing => k_is)
  (case na_waits_Timing => k_is)
