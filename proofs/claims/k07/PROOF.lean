import PyProof.Rows.All
import Wide.All
import OpenK.AllK
import Wide.FinOn
import Lean
import PyProof.EqAt
import PyProof.EqKinds
import PyProof.TupleCall
import KE.KLam
import PyProof.P3Eq
import PyProof.NeData
import PyProof.AttrMissHeap
import KE.KDictOf
import PyProof.DictItems
import PyProof.Rows.Range3
import KE.KEqDict
import PyProof.FactsAll.NoneType_1
import PyProof.FactsAll.bool_1
import KE.KDictSum
import KE.KSorted
import PySem.Challenge.RW_boxwright_k07_whole_gates
set_option Elab.async false
set_option linter.all false
set_option maxRecDepth 100000
set_option maxHeartbeats 8000000
namespace L2
open PySem PySem.Spec PyProof.Rows
abbrev Key := Sum Int Str
def keyIs : Key -> Value -> Bool
 | .inl k, v => Value.isInt k v
 | .inr x, v => Value.isStrOf x v
def keyH (w : World) : Key -> Int
 | .inl k => hashInt k
 | .inr x => hashStr w x
theorem keyIs_shape : ∀ {k : Key} {v : Value}, keyIs k v = true -> (∃ i t, k = Sum.inl i /\ v = Value.int i t) \/ (∃ x t, k = Sum.inr x /\ v = Value.str x t)
 | .inl i, v, h => by
  obtain ⟨t, e⟩ := Value.isInt_shape (k := i) (v := v) h
  exact .inl ⟨i, t, rfl, e⟩
 | .inr x, v, h => by
  obtain ⟨t, e⟩ := Value.isStrOf_shape (x := x) (v := v) h
  exact .inr ⟨x, t, rfl, e⟩
theorem keyIs_int (i : Int) (t : Tok) : keyIs (.inl i) (.int i t) = true := by simp [keyIs, Value.isInt]
theorem keyIs_str (x : Str) (t : Tok) : keyIs (.inr x) (.str x t) = true := by simp [keyIs, Value.isStrOf]
theorem key_ll (a b : Int) : decide ((Sum.inl a : Key) = Sum.inl b) = (a == b) := by
 by_cases e : a = b
 ·subst e; simp
 ·have h : ¬ (Sum.inl a : Key) = Sum.inl b := fun q => e (Sum.inl.inj q)
  rw [decide_eq_false h]
  exact (beq_eq_false_iff_ne.mpr e).symm
theorem key_rr (a b : Str) : decide ((Sum.inr a : Key) = Sum.inr b) = decide (a = b) := by
 by_cases e : a = b
 ·subst e; simp
 ·have h : ¬ (Sum.inr a : Key) = Sum.inr b := fun q => e (Sum.inr.inj q)
  rw [decide_eq_false h, decide_eq_false e]
theorem key_lr (a : Int) (b : Str) : decide ((Sum.inl a : Key) = Sum.inr b) = false := decide_eq_false (fun q => nomatch q)
theorem key_rl (a : Str) (b : Int) : decide ((Sum.inr a : Key) = Sum.inl b) = false := decide_eq_false (fun q => nomatch q)
def mixKind (prog : Program) (w : World) : PySem.KeyKind prog w Key where
 is := keyIs
 hash := keyH w
 inj := fun v a b ha hb => by
  rcases keyIs_shape ha with ⟨i, t, rfl, rfl⟩ | ⟨x, t, rfl, rfl⟩
  ·rcases keyIs_shape hb with ⟨j, u, rfl, e⟩ | ⟨y, u, rfl, e⟩
   ·injection e with e1 _; rw [e1]
   ·exact nomatch e
  ·rcases keyIs_shape hb with ⟨j, u, rfl, e⟩ | ⟨y, u, rfl, e⟩
   ·exact nomatch e
   ·injection e with e1 _; rw [e1]
 byValue := fun k v h => by
  rcases keyIs_shape h with ⟨i, t, rfl, rfl⟩ | ⟨x, t, rfl, rfl⟩ <;> rfl
 pyHash := fun hv h => by
  rcases keyIs_shape hv with ⟨i, t, rfl, rfl⟩ | ⟨x, t, rfl, rfl⟩
  ·exact wpAny_pyHash_int h
  ·exact wpAny_pyHash_str h
 eqBool := fun hu hv h => by
  rcases keyIs_shape hu with ⟨i, t, rfl, rfl⟩ | ⟨x, t, rfl, rfl⟩
  ·rcases keyIs_shape hv with ⟨j, u, rfl, rfl⟩ | ⟨y, u, rfl, rfl⟩
   ·rw [key_ll] at h; exact wpAny_eqBool_int h
   ·rw [key_lr] at h; exact SeqAt.EqAt.int_str i t y u _ _ _ _ h
  ·rcases keyIs_shape hv with ⟨j, u, rfl, rfl⟩ | ⟨y, u, rfl, rfl⟩
   ·rw [key_rl] at h; exact SeqAt.EqAt.str_int x t j u _ _ _ _ h
   ·rw [key_rr] at h; exact wpAny_eqBool_str h
 «strs» := fun k x t v h => by
  rcases keyIs_shape h with ⟨i, u, rfl, e⟩ | ⟨y, u, rfl, e⟩
  ·exact nomatch e
  ·injection e with e1 _
   subst e1
   cases v <;> rfl
theorem mixKind_int (prog : Program) (w : World) (i : Int) (t : Tok) : (mixKind prog w).is (.inl i) (.int i t) = true := keyIs_int i t
theorem mixKind_str (prog : Program) (w : World) (x : Str) (t : Tok) : (mixKind prog w).is (.inr x) (.str x t) = true := keyIs_str x t
inductive V where
 | non | bl (b : Bool) | int (i : Int) | str (x : Str) | byt (b : Array UInt8) | flt (b : UInt64) | ref (a : Addr) | ty (n : String)
 deriving DecidableEq
def RelV : V -> Value -> Prop
 | .non, u => u = Value.none
 | .bl b, u => u = Value.bool b
 | .int i, u => ∃ t, u = Value.int i t
 | .str x, u => ∃ t, u = Value.str x t
 | .byt b, u => ∃ t, u = Value.bytes b t
 | .flt b, u => ∃ t, u = Value.float b t
 | .ref a, u => u = Value.ref a
 | .ty n, u => u = Value.type n
abbrev Vals : List V -> List Value -> Prop := Paired RelV
theorem Vals.length {xs : List V} {us : List Value} (r : Vals xs us) : xs.length = us.length := Paired.length r
theorem Vals.get : ∀ {xs : List V} {us : List Value} {i : Nat} {x : V}, Vals xs us -> xs[i]? = some x -> ∃ u, us[i]? = some u /\ RelV x u
 | _, _, _, _, .nil, e => by simp at e
 | _, _, 0, _, .cons r _, e => by simp at e; subst e; exact ⟨_, rfl, r⟩
 | _, _, i + 1, x, .cons _ t, e => by
  obtain ⟨u, h1, h2⟩ := Vals.get (i := i) (x := x) t (by simpa using e)
  exact ⟨u, by simpa using h1, h2⟩
theorem Vals.set {x : V} {u : Value} (r : RelV x u) : ∀ {xs : List V} {us : List Value} (i : Nat), Vals xs us -> Vals (xs.set i x) (us.set i u)
 | _, _, _, .nil => .nil
 | _, _, 0, .cons _ t => .cons r t
 | _, _, i + 1, .cons q t => .cons q (Vals.set r i t)
theorem Vals.append : ∀ {xs ys : List V} {us ws : List Value}, Vals xs us -> Vals ys ws -> Vals (xs ++ ys) (us ++ ws)
 | _, _, _, _, .nil, s => s
 | _, _, _, _, .cons r t, s => .cons r (Vals.append t s)
theorem Vals.take : ∀ {xs : List V} {us : List Value} (n : Nat), Vals xs us -> Vals (xs.take n) (us.take n)
 | _, _, 0, _ => .nil
 | _, _, _ + 1, .nil => .nil
 | _, _, n + 1, .cons r t => .cons r (Vals.take n t)
theorem Vals.drop : ∀ {xs : List V} {us : List Value} (n : Nat), Vals xs us -> Vals (xs.drop n) (us.drop n)
 | _, _, 0, r => r
 | _, _, _ + 1, .nil => .nil
 | _, _, n + 1, .cons _ t => Vals.drop n t
def RelO : Option V -> Option Value -> Prop
 | some v, some u => RelV v u
 | none, none => True
 | _, _ => False
def KV {κ : Type} : List (κ × V) -> List (κ × Value) -> Prop := Paired fun (p : κ × V) (q : κ × Value) => p.1 = q.1 /\ RelV p.2 q.2
def kV : Key -> V
 | .inl i => .int i
 | .inr x => .str x
def uA : V -> Option Key
 | .int i => some (.inl i)
 | .bl b => some (.inl (if b then 1 else 0))
 | .str x => some (.inr x)
 | _ => none
def uAs : List V -> Option (List Key)
 | [] => some []
 | v :: vs => match uA v, uAs vs with
  | some k, some ks => some (k :: ks)
  | _, _ => none
inductive HO where
  | lst (xs : List V)
  | tup (xs : List V)
  | dK (kvs : List (Key × V)) | dT (kvs : List (List Key × V))
  | dU (kvs : List (V × V))
  | set (S : Int -> Bool) (n : Nat)
  | ins (C dx : Addr) (fs : List (Str × V))
  | own (x : Addr)
  | xd (fs : List (Str × V))
  | met (f x : Addr)
  | rng (lo hi : Int)
  | frz (o : Obj) (u : HO)
  | tbl (ps : Array Value)
  | ext (φ : Heap -> Prop)
abbrev Hp := Addr -> Option HO
def upd (H : Hp) (a : Addr) (o : HO) : Hp := fun b => if b = a then some o else H b
theorem upd_same {H : Hp} {a : Addr} {o : HO} : upd H a o a = some o := by unfold upd; rw [if_pos rfl]
theorem upd_ne {H : Hp} {a b : Addr} {o : HO} (h : b ≠ a) : upd H a o b = H b := by unfold upd; rw [if_neg h]
theorem upd_upd {H : Hp} {a : Addr} {o u : HO} : upd (upd H a o) a u = upd H a u := by
 funext b; unfold upd; split <;> rfl
theorem ne_of {H : Hp} {a b : Addr} {o u : HO} (h : H a = some o) (h' : H b = some u) (d : o ≠ u) : a ≠ b := by
 intro e; subst e; rw [h] at h'; exact d (Option.some.inj h')
theorem ne_of_none {H : Hp} {a b : Addr} {o : HO} (h : H a = some o) (h' : H b = none) : a ≠ b := by
 intro e; subst e; rw [h] at h'; cases h'
section
variable (P : Program) (w : World)
def ObjOk (H : Hp) (h : Heap) (a : Addr) : HO -> Prop
 | .lst xs => xs.length <= sizeLine /\ ∃ (its : List Value) (n : Nat), Vals xs its /\ h.get? a = some { cls := .type "list", data := .seq its.toArray n }
 | .tup xs => xs.length <= sizeLine /\ ∃ its : List Value, Vals xs its /\ IsTup h a its.toArray
 | .dK kvs => kvs.length <= sizeLine /\ (a == sysModules) = false /\ ∃ vs, KV kvs vs /\ h.DictOf (mixKind P w) a vs
 | .dT kvs => kvs.length <= sizeLine /\ (a == sysModules) = false /\ ∃ xs : List (List Key × Addr × Value),
   Paired (fun (p : List Key × V) (q : List Key × Addr × Value) => p.1 = q.1 /\ H q.2.1 = some (.tup (p.1.map kV)) /\ RelV p.2 q.2.2) kvs xs /\
   ∃ o es ep, h.get? a = some o /\ o.ExactDict /\ o.data = .dict es ep /\ es.toList = xs.map (entryOfKey (tupleKind (mixKind P w))) /\ (xs.map (·.1)).Nodup
 | .dU kvs => kvs.length <= sizeLine /\ (a == sysModules) = false /\ ∃ o es ep, h.get? a = some o /\ o.ExactDict /\ o.data = .dict es ep /\ Paired (fun (p : V × V) (e : DictEntry) => RelV p.1 e.key /\ RelV p.2 e.val /\
   ((∃ k, uA p.1 = some k /\ e.hash = keyH w k) \/ ∃ b ts ks, p.1 = .ref b /\ H b = some (.tup ts) /\ uAs ts = some ks /\ e.hash = tupleKeyHash (mixKind P w) ks)) kvs es.toList
 | .set S n => h.SetOf (intKind P w) a S n
 | .ins C dx fs => H dx = some (.own a) /\ fs.length <= 1000 /\ dx ≠ a /\ h.get? a = some (PySem.W.instObj C dx) /\
   ∃ mA, h.Ns1 dx mA /\ (∀ f, RelO (fs.lookup f) (mA f)) /\ PySem.Within mA (fs.map (·.1))
 | .own _ => ∃ o, h.get? a = some o
 | .xd fs => ∃ mA, h.Ns1 a mA /\ ∀ f, RelO (fs.lookup f) (mA f)
 | .rng lo hi => ∃ t u v, h.get? a = some { cls := .type "range", data := .fields #[.int lo t, .int hi u, .int 1 v] }
 | .frz o u => h.get? a = some o /\ ObjOk H h a u
 | .tbl ps => h.get? a = some { cls := .none, data := .fields ps }
 | .met f x => h.get? a = some (PySem.W.methodObj (.ref f) (.ref x))
 | .ext φ => φ h /\ (∃ o, h.get? a = some o) /\ ∀ h1 h2 : Heap, φ h1 -> (∀ o, h1.get? a = some o -> h2.get? a = some o) -> φ h2
def HOk (H : Hp) (h : Heap) : Prop := ∀ a o, H a = some o -> ObjOk P w H h a o
end
section
variable {P : Program} {w : World} {H H' : Hp} {h h' : Heap} {a : Addr} {o : HO}
theorem ObjOk.lt (x : ObjOk P w H h a o) : a < h.objs.size := by
 cases o with
 | lst xs => obtain ⟨_, _, _, _, e⟩ := x; exact Heap.lt_size e
 | tup xs => obtain ⟨_, _, _, p⟩ := x; exact p.lt
 | dK kvs => obtain ⟨_, _, _, _, o, _, _, e, _⟩ := x; exact Heap.lt_size e
 | dT kvs => obtain ⟨_, _, _, _, o, _, _, e, _⟩ := x; exact Heap.lt_size e
 | dU kvs => obtain ⟨_, _, o, _, _, e, _⟩ := x; exact Heap.lt_size e
 | set S n => obtain ⟨o, _, _, _, e, _⟩ := x; exact Heap.lt_size e
 | ins C dx fs => obtain ⟨_, _, _, e, _⟩ := x; exact Heap.lt_size e
 | own y => obtain ⟨_, e⟩ := x; exact Heap.lt_size e
 | xd fs => obtain ⟨_, ⟨_, _, _, e, _⟩, _⟩ := x; exact Heap.lt_size e
 | rng lo hi => obtain ⟨_, _, _, e⟩ := x; exact Heap.lt_size e
 | frz ob u => obtain ⟨e, _⟩ := x; exact Heap.lt_size e
 | tbl ps => exact Heap.lt_size (show h.get? a = some _ from x)
 | met f y => exact Heap.lt_size (show h.get? a = some _ from x)
 | ext φ => obtain ⟨_, ⟨_, e⟩, _⟩ := x; exact Heap.lt_size e
theorem Paired.mapP {α β : Type} {F G : α -> β -> Prop} : ∀ {l₁ : List α} {l₂ : List β}, Paired F l₁ l₂ -> (∀ a b, F a b -> G a b) -> Paired G l₁ l₂
 | _, _, .nil, _ => .nil
 | _, _, .cons r t, f => .cons (f _ _ r) (Paired.mapP t f)
theorem ObjOk.stay (x : ObjOk P w H h a o) (k : ∀ b u, (b = a \/ H b = some (.own a)) -> h.get? b = some u -> h'.get? b = some u)
  (ho : ∀ b, H b = some (.own a) -> H' b = some (.own a)) (ht : ∀ b xs, H b = some (.tup xs) -> H' b = some (.tup xs)) : ObjOk P w H' h' a o := by
 induction o with
 | lst xs => obtain ⟨z, its, n, r, e⟩ := x; exact ⟨z, its, n, r, k _ _ (.inl rfl) e⟩
 | tup xs => obtain ⟨z, its, r, ob, e, c⟩ := x; exact ⟨z, its, r, ob, k _ _ (.inl rfl) e, c⟩
 | dK kvs => obtain ⟨z, y, vs, r, ob, es, ep, e, c⟩ := x; exact ⟨z, y, vs, r, ob, es, ep, k _ _ (.inl rfl) e, c⟩
 | dT kvs =>
  obtain ⟨z, y, xs, r, ob, es, ep, e, c⟩ := x
  exact ⟨z, y, xs, Paired.mapP r fun p q z => ⟨z.1, ht _ _ z.2.1, z.2.2⟩, ob, es, ep, k _ _ (.inl rfl) e, c⟩
 | dU kvs =>
  obtain ⟨z, y, ob, es, ep, e, c1, c2, r⟩ := x
  exact ⟨z, y, ob, es, ep, k _ _ (.inl rfl) e, c1, c2, Paired.mapP r fun p q z => ⟨z.1, z.2.1, z.2.2.imp_right fun ⟨b, ts, ks, h1, h2, h3⟩ => ⟨b, ts, ks, h1, ht _ _ h2, h3⟩⟩⟩
 | set S n => obtain ⟨ob, es, ep, t, e, c⟩ := x; exact ⟨ob, es, ep, t, k _ _ (.inl rfl) e, c⟩
 | ins C dx fs =>
  obtain ⟨d, z, ne, e, mA, ⟨od, es, ep, e2, c⟩, r⟩ := x
  exact ⟨ho _ d, z, ne, k _ _ (.inl rfl) e, mA, ⟨od, es, ep, k _ _ (.inr d) e2, c⟩, r⟩
 | own y => obtain ⟨ob, e⟩ := x; exact ⟨ob, k _ _ (.inl rfl) e⟩
 | xd fs => obtain ⟨mA, ⟨od, es, ep, e, c⟩, r⟩ := x; exact ⟨mA, ⟨od, es, ep, k _ _ (.inl rfl) e, c⟩, r⟩
 | rng lo hi => obtain ⟨t, u, v, e⟩ := x; exact ⟨t, u, v, k _ _ (.inl rfl) e⟩
 | frz ob u ih => obtain ⟨e, q⟩ := x; exact ⟨k _ _ (.inl rfl) e, ih q⟩
 | tbl ps =>
  have e : h.get? a = some { cls := .none, data := .fields ps } := x
  show h'.get? a = some { cls := .none, data := .fields ps }
  exact k a _ (.inl rfl) e
 | met f y =>
  have e : h.get? a = some (PySem.W.methodObj (.ref f) (.ref y)) := x
  show h'.get? a = some (PySem.W.methodObj (.ref f) (.ref y))
  exact k a _ (.inl rfl) e
 | ext φ => obtain ⟨p, ⟨o, e⟩, st⟩ := x; exact ⟨st _ _ p fun o q => k _ _ (.inl rfl) q, ⟨o, k _ _ (.inl rfl) e⟩, st⟩
theorem HOk.lt (x : HOk P w H h) (e : H a = some o) : a < h.objs.size := (x a o e).lt
theorem HOk.fresh (x : HOk P w H h) (e : h.objs.size <= a) : H a = none := by
 cases q : H a with
 | none => rfl
 | some u => exact absurd (Nat.lt_of_lt_of_le (x.lt q) e) (Nat.lt_irrefl _)
theorem HOk.kept (x : HOk P w H h) (k : ∀ b u, h.get? b = some u -> h'.get? b = some u) : HOk P w H h' := fun a o e =>
 (x a o e).stay (fun b u _ q => k b u q) (fun _ q => q) fun _ _ q => q
theorem HOk.laid (x : HOk P w H h) (k : ∀ b u, h.get? b = some u -> h'.get? b = some u) (hp : h.objs.size <= a) (new : ObjOk P w (upd H a o) h' a o) : HOk P w (upd H a o) h' := fun b u e => by
 have hn := x.fresh hp
 by_cases hb : b = a
 ·subst hb; rw [upd_same] at e; cases e; exact new
 ·rw [upd_ne hb] at e
  exact (x b u e).stay (fun c v _ q => k c v q) (fun c q => by rw [upd_ne (ne_of_none q hn)]; exact q) fun c xs q => by rw [upd_ne (ne_of_none q hn)]; exact q
end
def Rd (H : Hp) (a : Addr) (u : HO) : Prop := H a = some u \/ ∃ o, H a = some (.frz o u)
theorem Rd.ok {P : Program} {w : World} {H : Hp} {h : Heap} {a : Addr} {u : HO} (r : Rd H a u) (x : HOk P w H h) : ObjOk P w H h a u := by
 rcases r with r | ⟨o, r⟩
 ·exact x a u r
 ·obtain ⟨_, q⟩ := x a _ r
  exact q
def Mut : Option HO -> Prop
 | some (.lst _) => True
 | some (.dK _) => True
 | some (.dT _) => True
 | some (.dU _) => True
 | some (.set _ _) => True
 | some (.ins _ _ _) => True
 | some (.ext _) => True
 | _ => False
section
variable {P : Program} {w : World} {H : Hp} {h h' : Heap} {x e : Addr} {o' : HO}
theorem HOk.write (ok : HOk P w H h) (mu : Mut (H x)) (he : e = x \/ H e = some (.own x)) (k : ∀ b u, b ≠ e -> h.get? b = some u -> h'.get? b = some u) (heo : ∃ u, h'.get? e = some u)
  (new : ObjOk P w (upd H x o') h' x o') : HOk P w (upd H x o') h' := fun b u q => by
 have nown : ∀ c y, H c = some (.own y) -> c ≠ x := fun c y r z => by subst z; rw [r] at mu; exact mu
 have ntup : ∀ c xs, H c = some (.tup xs) -> c ≠ x := fun c xs r z => by subst z; rw [r] at mu; exact mu
 by_cases hb : b = x
 ·subst hb; rw [upd_same] at q; cases q; exact new
 ·rw [upd_ne hb] at q
  by_cases hbe : b = e
  ·have q' : H b = some (.own x) := by
    rcases he with z | z
    ·exact absurd (hbe.trans z) hb
    ·rw [hbe]; exact z
   rw [q] at q'; cases q'
   obtain ⟨v, hv⟩ := heo
   exact ⟨v, by rw [hbe]; exact hv⟩
  ·refine (ok b u q).stay (fun c v hc r => k c v ?_ r) (fun c r => by rw [upd_ne (nown c b r)]; exact r) fun c xs r => by rw [upd_ne (ntup c xs r)]; exact r
   rcases hc with rfl | hc
   ·exact hbe
   ·rintro rfl
    rcases he with z | z
    ·exact nown c b hc z
    ·rw [hc] at z; cases z; exact hb rfl
end
structure Un (fs ex : List Addr) (H H' : Hp) (h h' : Heap) : Prop where
 keep : ∀ b o, h.get? b = some o -> H b = none -> b ∉ fs -> b ∉ ex -> h'.get? b = some o
 slot : ∀ b o, h.get? b = some o -> H b = none -> b ∈ fs -> b ∉ ex -> ∃ sl, h'.get? b = some { o with slots := sl }
 free : ∀ b o, h.get? b = some o -> H b = none -> b ∉ ex -> H' b = none
 there : ∀ b o, h.get? b = some o -> b ∉ ex -> ∃ o', h'.get? b = some o'
 tups : ∀ b xs, H b = some (.tup xs) -> H' b = some (.tup xs)
 frzs : ∀ b o u, H b = some (.frz o u) -> H' b = some (.frz o u)
 tbls : ∀ b ps, H b = some (.tbl ps) -> ∃ more, H' b = some (.tbl (ps ++ more))
section
variable {fs fs' ex ex' : List Addr} {H H1 H2 : Hp} {h h1 h2 h' : Heap} {a x e : Addr} {o : HO}
theorem Un.any (u : Un fs ex H H1 h h1) {b : Addr} {ob : Obj} (q : h.get? b = some ob) (n : H b = none) (hx : b ∉ ex) : ∃ sl, h1.get? b = some { ob with slots := sl } := by
 by_cases hb : b ∈ fs
 ·exact u.slot b ob q n hb hx
 ·exact ⟨ob.slots, u.keep b ob q n hb hx⟩
theorem Un.trans (a : Un fs ex H H1 h h1) (b : Un fs ex H1 H2 h1 h2) : Un fs ex H H2 h h2 where
 keep := fun c ob q n hc hx => b.keep c ob (a.keep c ob q n hc hx) (a.free c ob q n hx) hc hx
 slot := fun c ob q n hc hx => by
  obtain ⟨sl, e1⟩ := a.slot c ob q n hc hx
  obtain ⟨sl', e2⟩ := b.slot c _ e1 (a.free c ob q n hx) hc hx
  exact ⟨sl', e2⟩
 free := fun c ob q n hx => by
  obtain ⟨o', e1⟩ := a.there c ob q hx
  exact b.free c o' e1 (a.free c ob q n hx) hx
 there := fun c ob q hx => by
  obtain ⟨o', e1⟩ := a.there c ob q hx
  exact b.there c o' e1 hx
 tups := fun c xs q => b.tups c xs (a.tups c xs q)
 frzs := fun c ob xs q => b.frzs c ob xs (a.frzs c ob xs q)
 tbls := fun c ps q => by
  obtain ⟨m1, e1⟩ := a.tbls c ps q
  obtain ⟨m2, e2⟩ := b.tbls c _ e1
  exact ⟨m1 ++ m2, by rw [e2, Array.append_assoc]⟩
theorem Un.kept (k : ∀ b u, h.get? b = some u -> h'.get? b = some u) : Un fs ex H H h h' :=
 ⟨fun b ob q _ _ _ => k b ob q, fun b ob q _ _ _ => ⟨ob.slots, k b ob q⟩, fun _ _ _ n _ => n, fun b ob q _ => ⟨ob, k b ob q⟩, fun _ _ q => q, fun _ _ _ q => q, fun _ ps q => ⟨#[], by rw [q]; simp⟩⟩
theorem Un.refl : Un fs ex H H h h := Un.kept fun _ _ q => q
theorem Un.laid (k : ∀ b u, h.get? b = some u -> h'.get? b = some u) (hp : h.objs.size <= a) (hn : H a = none) : Un fs ex H (upd H a o) h h' where
 keep := fun b u q _ _ _ => k b u q
 slot := fun b u q _ _ _ => ⟨u.slots, k b u q⟩
 free := fun b u q n _ => by rw [upd_ne (Nat.ne_of_lt (Nat.lt_of_lt_of_le (Heap.lt_size q) hp))]; exact n
 there := fun b u q _ => ⟨u, k b u q⟩
 tups := fun b xs q => by rw [upd_ne (ne_of_none q hn)]; exact q
 frzs := fun b u xs q => by rw [upd_ne (ne_of_none q hn)]; exact q
 tbls := fun b ps q => ⟨#[], by rw [upd_ne (ne_of_none q hn), q]; simp⟩
theorem Un.write (mu : Mut (H x)) (he : e = x \/ H e = some (.own x)) (k : ∀ b u, b ≠ e -> h.get? b = some u -> h'.get? b = some u) (heo : ∃ u, h'.get? e = some u) : Un fs ex H (upd H x o) h h' := by
 have hx : ∀ b, H b = none -> b ≠ x := fun b n z => by subst z; rw [n] at mu; exact mu
 have hb : ∀ b, H b = none -> b ≠ e := fun b n z => by
  subst z
  rcases he with r | r
  ·exact hx b n r
  ·rw [n] at r; cases r
 have hm : ∀ b u, H b = some u -> ¬ Mut (some u) -> b ≠ x := fun b u q nm z => by subst z; rw [q] at mu; exact nm mu
 refine ⟨fun b u q n _ _ => k b u (hb b n) q, fun b u q n _ _ => ⟨u.slots, k b u (hb b n) q⟩, fun b u q n _ => by rw [upd_ne (hx b n)]; exact n, fun b u q _ => ?_,
  fun b xs q => by rw [upd_ne (hm b _ q fun z => z)]; exact q, fun b u xs q => by rw [upd_ne (hm b _ q fun z => z)]; exact q, fun b ps q => ⟨#[], by rw [upd_ne (hm b _ q fun z => z), q]; simp⟩⟩
 by_cases hbe : b = e
 ·subst hbe; exact heo
 ·exact ⟨u, k b u hbe q⟩
theorem Un.mono (u : Un fs ex H H1 h h1) (hs : ∀ b ∈ fs, b ∈ fs') (hx : ∀ b ∈ ex, b ∈ ex') : Un fs' ex' H H1 h h1 :=
 ⟨fun b ob q n hb he => u.keep b ob q n (fun z => hb (hs b z)) fun z => he (hx b z), fun _ _ q n _ he => u.any q n fun z => he (hx _ z), fun b ob q n he => u.free b ob q n fun z => he (hx b z), fun b ob q he => u.there b ob q fun z => he (hx b z), u.tups, u.frzs, u.tbls⟩
end
def trk (h : Heap) (H : Hp) : List Addr := (List.range h.objs.size).filter fun a => (H a).isSome
def hidT (h : Heap) (H : Hp) : Heap := PySem.W.hideAll h (trk h H)
theorem hidT_size (h : Heap) (H : Hp) : (hidT h H).objs.size = h.objs.size := PySem.W.hideAll_size _ _
theorem hidT_get {h : Heap} {H : Hp} {b : Addr} {o : Obj} (e : h.get? b = some o) (n : H b = none) : (hidT h H).get? b = some o :=
 PySem.W.hideAll_get _ e fun hm => by
  have q : (H b).isSome = true := (List.mem_filter.mp hm).2
  rw [n] at q; simp at q
theorem of_hidT {h : Heap} {H : Hp} {b : Addr} {o : Obj} (e : (hidT h H).get? b = some o) : h.get? b = some o /\ H b = none := by
 have e' : h.get? b = some o := PySem.W.of_hideAll (trk h H) e
 refine ⟨e', ?_⟩
 cases q : H b with
 | none => rfl
 | some x =>
  have hm : b ∈ trk h H := List.mem_filter.mpr ⟨List.mem_range.mpr (Heap.lt_size e'), by simp [q]⟩
  have z : (hidT h H).get? b = none := PySem.W.hideAll_none (trk h H) hm
  rw [z] at e; cases e
def allNews (g h : Heap) (L : Addr) : List (Addr × Obj) := (List.range h.objs.size).filterMap fun a => if a = L \/ (g.get? a).isSome = true then none else (h.get? a).map fun o => (a, o)
def rest (g h : Heap) (L d : Addr) : List (Addr × Obj) := (allNews g h L).filter fun p => decide (p.1 ≠ d)
structure Mod (K : PySem.W.Frag) (mg : Str -> Option Value) (base : Heap) : Prop where
 kin : K.In base
 glob : base.Ns mainGlobals mg
 blt : ∃ mb, base.Ns builtinsNs mb /\ ∀ x : Str, x ≠ "__name__" -> mb x = bootBuiltins x
 nolimit : base.NoLimit
 bm : ∃ bm ob, mg "__builtins__" = some (.ref bm) /\ bm ≠ builtinsNs /\ base.get? bm = some ob /\ ob.cls = .type "module" /\ ob.dict = some builtinsNs /\ ob.data = .plain
structure Cx where
 prog : Program
 w : World
 K : PySem.W.Frag
 mg : Str -> Option Value
 base : Heap
 A : Around
 N : List Str
 s₀ : Shared
 H₀ : Hp
 env : Env
 outer : List Env
 stack : List Env
 ex : List Addr
 fn : Str -> Bool
 calm : Bool
 pn : List (Addr × Obj)
 xe : Value -> Shared -> Prop
def frs (l : List Env) : List Addr := l.filterMap (·.frame)
abbrev Cx.fs (X : Cx) : List Addr := frs X.outer
def Vis (sc : Scope) (x : Str) : Prop := sc.names.lookup x = some .local \/ sc.names.lookup x = some .cell \/ sc.names.lookup x = some .free
def Loc (sc : Scope) (x : Str) : Prop := sc.names.lookup x = some .local \/ sc.names.lookup x = some .cell
def Look (env : Env) (h : Heap) (m : Str -> Option Value) (x : Str) (u : Value) : Prop :=
 (env.kindOf x = some .local /\ m x = some u) \/ ((env.kindOf x = some .cell \/ env.kindOf x = some .free) /\ ∃ c, env.cells.lookup x = some c /\ h.IsCell c (some u))
structure Cx.Ok (X : Cx) : Prop where
 mod : Mod X.K X.mg X.base
 kind : X.env.scope.kind = .function
 glob : X.env.globals = mainGlobals
 blt : X.env.builtins = builtinsNs
 above : X.s₀.heap.objs.size <= X.env.locals
 inj : ∀ x y c, X.env.cells.lookup x = some c -> X.env.cells.lookup y = some c -> x = y
 has : ∀ x, (X.env.kindOf x = some .cell \/ X.env.kindOf x = some .free) -> ∃ c, X.env.cells.lookup x = some c
 cab : ∀ x c, X.fn x = true -> X.env.cells.lookup x = some c -> X.s₀.heap.objs.size <= c
 hd : X.calm = true -> X.A.handled = none
 frames : X.A.frames = some X.stack
 stk : X.stack = X.outer \/ (X.stack = X.env :: X.outer /\ X.env.frame = some X.env.locals)
 exf : ∀ b ∈ X.ex, b ≠ X.env.locals /\ ∀ x c, X.env.cells.lookup x = some c -> c ≠ b
 bs : ∀ b o, X.base.get? b = some o -> X.s₀.heap.get? b = some o /\ X.H₀ b = none
 bsz : X.base.objs.size <= X.s₀.heap.objs.size
 noex : ∀ b o, X.base.get? b = some o -> b ∉ X.ex
 exfs : ∀ b ∈ X.ex, b ∉ X.fs
 funs : X.s₀.heap.FunFrames X.base X.outer
 frf : ∀ b ∈ X.fs, X.H₀ b = none
structure Inv (X : Cx) (pins : List (Addr × Obj)) (σ : List (Option V)) (H : Hp) (s : Shared) : Prop where
 ok : X.Ok
 os : s.os = X.s₀.os
 bare : AllBare s.gens
 base : Un X.fs X.ex X.H₀ H X.s₀.heap s.heap
 loc : ∃ m, s.heap.Ns X.env.locals m /\ ∀ (i : Nat) (x : Str) (v : V), X.N[i]? = some x -> σ[i]? = some (some v) -> Vis X.env.scope x -> ∃ u, RelV v u /\ Look X.env s.heap m x u
 cell : ∀ x c, X.env.cells.lookup x = some c -> ∃ v, s.heap.IsCell c v
 free : H X.env.locals = none
 freeC : ∀ x c, X.env.cells.lookup x = some c -> (X.fn x = true -> H c = none) /\ (H c = none \/ ∃ o, H c = some (.frz o (.ext fun _ => True)))
 pin : ∀ p ∈ X.pn ++ pins, s.heap.get? p.1 = some p.2 /\ H p.1 = none /\ p.1 ≠ X.env.locals /\ p.1 ∉ X.fs /\ ∀ v, p.2.data ≠ .cell v
 hok : HOk X.prog X.w H s.heap
 len : σ.length = X.N.length
section
variable {X : Cx} {pins : List (Addr × Obj)} {σ : List (Option V)} {H H' : Hp} {s : Shared} {h' : Heap}
theorem Cx.Ok.nofr (ok : X.Ok) {b : Addr} {o : Obj} (e : X.base.get? b = some o) : b ∉ X.fs := fun hb => by
 have := (ok.funs.mem hb).1
 rw [e] at this; cases this
theorem Inv.bs (I : Inv X pins σ H s) : ∀ b o, X.base.get? b = some o -> s.heap.get? b = some o /\ H b = none := fun b o e =>
 ⟨I.base.keep b o (I.ok.bs b o e).1 (I.ok.bs b o e).2 (I.ok.nofr e) (I.ok.noex b o e), I.base.free b o (I.ok.bs b o e).1 (I.ok.bs b o e).2 (I.ok.noex b o e)⟩
theorem Inv.bk (I : Inv X pins σ H s) : ∀ b o, X.base.get? b = some o -> s.heap.get? b = some o := fun b o e => (I.bs b o e).1
theorem Inv.mod (I : Inv X pins σ H s) : Mod X.K X.mg X.base := I.ok.mod
theorem Inv.kIn (I : Inv X pins σ H s) : X.K.In s.heap := I.ok.mod.kin.keeps I.bk
theorem Inv.nolimit (I : Inv X pins σ H s) : s.heap.NoLimit := I.ok.mod.nolimit.keeps I.bk
theorem Inv.fr (I : Inv X pins σ H s) : ∃ m, Fr X.base X.env.locals s.heap m :=
 let ⟨m, hn, _⟩ := I.loc
 ⟨m, hn, I.bk, Nat.le_trans I.ok.bsz I.ok.above⟩
theorem Inv.lt (I : Inv X pins σ H s) : X.env.locals < s.heap.objs.size := let ⟨_, hn, _⟩ := I.loc; hn.lt
theorem Inv.sz (I : Inv X pins σ H s) : X.s₀.heap.objs.size <= s.heap.objs.size := Nat.le_trans I.ok.above (Nat.le_of_lt I.lt)
theorem Inv.nofs (I : Inv X pins σ H s) {a : Addr} (h : s.heap.objs.size <= a) : a ∉ X.fs := fun hb => by
 obtain ⟨_, o, ho, _⟩ := I.ok.funs.mem hb
 exact absurd (Nat.lt_of_lt_of_le (Heap.lt_size ho) (Nat.le_trans I.sz h)) (Nat.lt_irrefl _)
theorem Inv.cne (I : Inv X pins σ H s) : ∀ x c, X.env.cells.lookup x = some c -> c ≠ X.env.locals := fun x c e z => by
 obtain ⟨v, o, ho, hd⟩ := I.cell x c e
 obtain ⟨m, ⟨o', es, ep, ho', hd', _⟩, _⟩ := I.loc
 rw [z, ho'] at ho; cases ho; rw [hd'] at hd; cases hd
theorem Inv.funs (I : Inv X pins σ H s) : s.heap.FunFrames X.base X.outer := by
 have all : ∀ (l : List Env), (∀ b ∈ frs l, b ∈ X.fs) -> X.s₀.heap.FunFrames X.base l -> s.heap.FunFrames X.base l := by
  intro l
  induction l with
  | nil => intro _ _; trivial
  | cons env r ih =>
   intro hs hl
   obtain ⟨hk, ⟨L, o, hf, hn, ho, hd⟩, hr⟩ := hl
   have hL : L ∈ X.fs := hs L (by unfold frs; rw [List.filterMap_cons, hf]; exact List.mem_cons_self)
   obtain ⟨sl, e⟩ := I.base.slot L o ho (I.ok.frf L hL) hL fun z => I.ok.exfs L z hL
   exact ⟨hk, ⟨L, _, hf, hn, e, hd⟩, ih (fun b hb => hs b (by unfold frs; rw [List.filterMap_cons, hf]; exact List.mem_cons_of_mem _ hb)) hr⟩
 exact all X.outer (fun _ hb => hb) I.ok.funs
theorem Inv.stack (I : Inv X pins σ H s) : s.heap.FunFrames X.base X.stack := by
 rcases I.ok.stk with e | ⟨e, hf⟩
 ·rw [e]; exact I.funs
 ·rw [e]
  obtain ⟨m, hn, _⟩ := I.loc
  refine .cons (by rw [I.ok.kind]; decide) hf hn ?_ I.funs
  exact Heap.get?_none_of_le (Nat.le_trans I.ok.bsz I.ok.above)
theorem Inv.stkSub (I : Inv X pins σ H s) : ∀ b ∈ frs X.stack, b ∈ X.env.locals :: X.fs := fun b hb => by
 rcases I.ok.stk with e | ⟨e, hf⟩
 ·rw [e] at hb; exact List.mem_cons_of_mem _ hb
 ·rw [e] at hb
  unfold frs at hb
  rw [List.filterMap_cons, hf] at hb
  exact hb
theorem Inv.stkFree (I : Inv X pins σ H s) : ∀ b ∈ frs X.stack, H b = none := fun b hb => by
 rcases List.mem_cons.mp (I.stkSub b hb) with e | hb
 ·rw [e]; exact I.free
 ·obtain ⟨_, o, ho, _⟩ := I.ok.funs.mem hb
  exact I.base.free b o ho (I.ok.frf b hb) fun z => I.ok.exfs b z hb
theorem Inv.step {g' : Array GenState} {t' : Nat} {d' : Drawn} {ch : List Addr} (I : Inv X pins σ H s)
  (hch : ∀ b ∈ ch, (b ∈ X.ex \/ X.s₀.heap.objs.size <= b) /\ b ≠ X.env.locals /\ (∀ x c, X.env.cells.lookup x = some c -> c ≠ b) /\ ∀ p ∈ X.pn ++ pins, p.1 ≠ b)
  (keep : ∀ b o, b ≠ X.env.locals -> b ∉ X.fs -> b ∉ ch -> s.heap.get? b = some o -> H b = none -> h'.get? b = some o)
  (slot : ∀ b o, b ≠ X.env.locals -> b ∈ X.fs -> b ∉ ch -> s.heap.get? b = some o -> H b = none -> ∃ sl, h'.get? b = some { o with slots := sl }) (free : ∀ b o, b ∉ ch -> s.heap.get? b = some o -> H b = none -> H' b = none)
  (there : ∀ b o, b ∉ ch -> s.heap.get? b = some o -> ∃ o', h'.get? b = some o')
  (tups : ∀ b xs, H b = some (.tup xs) -> H' b = some (.tup xs)) (frzs : ∀ b o u, H b = some (.frz o u) -> H' b = some (.frz o u)) (tbls : ∀ b ps, H b = some (.tbl ps) -> ∃ more, H' b = some (.tbl (ps ++ more)))
  (ns : ∀ m, s.heap.Ns X.env.locals m -> h'.Ns X.env.locals m) (hok : HOk X.prog X.w H' h') (hg : AllBare g') :
  Inv X pins σ H' { s with heap := h', gens := g', drawn := d', toks := t' } := by
 have neL : ∀ b o, X.s₀.heap.get? b = some o -> b ≠ X.env.locals := fun b o e => Nat.ne_of_lt (Nat.lt_of_lt_of_le (Heap.lt_size e) I.ok.above)
 have neC : ∀ b o, X.s₀.heap.get? b = some o -> b ∉ X.ex -> b ∉ ch := fun b o e hx hb => by
  rcases (hch b hb).1 with z | z
  ·exact hx z
  ·exact absurd (Nat.lt_of_lt_of_le (Heap.lt_size e) z) (Nat.lt_irrefl _)
 have cellK : ∀ x c, X.env.cells.lookup x = some c -> ∀ v, s.heap.IsCell c v -> h'.IsCell c v := fun x c e v ⟨o, ho, hd⟩ => by
  have nch : c ∉ ch := fun z => (hch c z).2.2.1 x c e rfl
  rcases (I.freeC x c e).2 with fr | ⟨ob, fr⟩
  ·by_cases hc : c ∈ X.fs
   ·obtain ⟨sl, q⟩ := slot c o (I.cne x c e) hc nch ho fr
    exact ⟨_, q, hd⟩
   ·exact ⟨o, keep c o (I.cne x c e) hc nch ho fr, hd⟩
  ·have e1 : s.heap.get? c = some ob := (I.hok c _ fr).1
   have e2 : h'.get? c = some ob := (hok c _ (frzs c _ _ fr)).1
   rw [ho] at e1
   cases e1
   exact ⟨o, e2, hd⟩
 refine ⟨I.ok, I.os, hg, ⟨fun b o e n hb hx => ?_, fun b o e n hb hx => ?_, fun b o e n hx => ?_, fun b o e hx => ?_, fun b xs e => tups b xs (I.base.tups b xs e), fun b o xs e => frzs b o xs (I.base.frzs b o xs e), fun b ps e => ?_⟩, ?_, fun x c e => ?_, ?_, fun x c e => ?_, fun p hp => ?_, hok, I.len⟩
 ·exact keep b o (neL b o e) hb (neC b o e hx) (I.base.keep b o e n hb hx) (I.base.free b o e n hx)
 ·obtain ⟨sl, e1⟩ := I.base.slot b o e n hb hx
  obtain ⟨sl', e2⟩ := slot b _ (neL b o e) hb (neC b o e hx) e1 (I.base.free b o e n hx)
  exact ⟨sl', e2⟩
 ·obtain ⟨o', e1⟩ := I.base.there b o e hx
  exact free b o' (neC b o e hx) e1 (I.base.free b o e n hx)
 ·obtain ⟨o', e1⟩ := I.base.there b o e hx
  exact there b o' (neC b o e hx) e1
 ·obtain ⟨m1, e1⟩ := I.base.tbls b ps e
  obtain ⟨m2, e2⟩ := tbls b _ e1
  exact ⟨m1 ++ m2, by rw [e2, Array.append_assoc]⟩
 ·obtain ⟨m, hn, hl⟩ := I.loc
  refine ⟨m, ns m hn, fun i x v e1 e2 e3 => ?_⟩
  obtain ⟨u, r, l⟩ := hl i x v e1 e2 e3
  refine ⟨u, r, ?_⟩
  rcases l with l | ⟨k, c, e, z⟩
  ·exact .inl l
  ·exact .inr ⟨k, c, e, cellK x c e _ z⟩
 ·obtain ⟨v, z⟩ := I.cell x c e
  exact ⟨v, cellK x c e v z⟩
 ·obtain ⟨m, ⟨o, _, _, ho, _⟩, _⟩ := I.loc
  exact free _ o (fun z => (hch _ z).2.1 rfl) ho I.free
 ·obtain ⟨v, o, ho, hd⟩ := I.cell x c e
  have nch : c ∉ ch := fun z => (hch c z).2.2.1 x c e rfl
  exact ⟨fun hf => free c o nch ho ((I.freeC x c e).1 hf), (I.freeC x c e).2.imp (fun fr => free c o nch ho fr) fun ⟨ob, fr⟩ => ⟨ob, frzs c _ _ fr⟩⟩
 ·obtain ⟨e, n, ne, nf, d⟩ := I.pin p hp
  have nch : p.1 ∉ ch := fun z => (hch p.1 z).2.2.2 p hp rfl
  exact ⟨keep p.1 p.2 ne nf nch e n, free p.1 p.2 nch e n, ne, nf, d⟩
theorem Inv.un {t' : Nat} (I : Inv X pins σ H s) (u : Un X.fs [] H H' s.heap h') (hok : HOk X.prog X.w H' h') : Inv X pins σ H' { s with heap := h', toks := t' } := by
 obtain ⟨m, ⟨o, es, ep, ho, r⟩, _⟩ := id I.loc
 obtain ⟨sl, hL⟩ := u.any ho I.free (by simp)
 exact I.step (g' := s.gens) (d' := s.drawn) (ch := []) (fun _ z => nomatch z) (fun b o _ hb _ e n => u.keep b o e n hb (by simp)) (fun b o _ hb _ e n => u.slot b o e n hb (by simp)) (fun b o _ e n => u.free b o e n (by simp)) (fun b o _ e => u.there b o e (by simp)) u.tups u.frzs u.tbls (fun m' hm => by
  obtain ⟨o', es', ep', ho', r'⟩ := hm
  rw [ho] at ho'; cases ho'
  exact ⟨_, es', ep', hL, r'⟩) hok I.bare
theorem Inv.call {g' : Array GenState} {t' : Nat} {d' : Drawn} {ch : List Addr} (I : Inv X pins σ H s) (u : Un (frs X.stack) ch H H' s.heap h') (hok : HOk X.prog X.w H' h') (hg : AllBare g')
  (hch : ∀ b ∈ ch, (b ∈ X.ex \/ X.s₀.heap.objs.size <= b) /\ b ≠ X.env.locals /\ (∀ x c, X.env.cells.lookup x = some c -> c ≠ b) /\ ∀ p ∈ X.pn ++ pins, p.1 ≠ b) :
  Inv X pins σ H' { s with heap := h', gens := g', drawn := d', toks := t' } := by
 obtain ⟨m, ⟨o, es, ep, ho, r⟩, _⟩ := id I.loc
 obtain ⟨sl, hL⟩ := u.any ho I.free fun z => (hch _ z).2.1 rfl
 exact I.step (ch := ch) hch (fun b o hL hb hc e n => u.keep b o e n (fun z => (List.mem_cons.mp (I.stkSub b z)).elim hL hb) hc) (fun b o _ _ hc e n => u.any e n hc) (fun b o hc e n => u.free b o e n hc) (fun b o hc e => u.there b o e hc) u.tups u.frzs u.tbls (fun m' hm => by
  obtain ⟨o', es', ep', ho', r'⟩ := hm
  rw [ho] at ho'; cases ho'
  exact ⟨_, es', ep', hL, r'⟩) hok hg
theorem Inv.turned {t' : Nat} {it : Addr} (I : Inv X pins σ H s) (k : ∀ b o, b ≠ it -> s.heap.get? b = some o -> h'.get? b = some o) (hn : H it = none) (hL : it ≠ X.env.locals)
  (h1 : it ∈ X.ex \/ X.s₀.heap.objs.size <= it) (h2 : ∀ x c, X.env.cells.lookup x = some c -> c ≠ it) (h3 : ∀ p ∈ X.pn ++ pins, p.1 ≠ it) : Inv X pins σ H { s with heap := h', toks := t' } := by
 have nit : ∀ b u, H b = some u -> b ≠ it := fun b u e z => by rw [z, hn] at e; cases e
 refine I.step (g' := s.gens) (d' := s.drawn) (ch := [it]) (fun b hb => ?_) (fun b o _ _ hc e _ => k b o (fun z => hc (by simp [z])) e) (fun b o _ _ hc e _ => ⟨o.slots, k b o (fun z => hc (by simp [z])) e⟩) (fun _ _ _ _ n => n)
  (fun b o hc e => ⟨o, k b o (fun z => hc (by simp [z])) e⟩) (fun _ _ e => e) (fun _ _ _ e => e) (fun b ps e => ⟨#[], by rw [e]; simp⟩) (fun m hm => ?_) (fun b u e => ?_) I.bare
 ·have e : b = it := by simpa using hb
  subst e
  exact ⟨h1, hL, h2, h3⟩
 ·obtain ⟨o, es, ep, ho, r⟩ := hm
  exact ⟨o, es, ep, k _ o (Ne.symm hL) ho, r⟩
 ·refine (I.hok b u e).stay (fun c v hc q => k c v ?_ q) (fun _ q => q) fun _ _ q => q
  rcases hc with z | z
  ·rw [z]; exact nit b u e
  ·exact nit c _ z
theorem Inv.tok (I : Inv X pins σ H s) (t : Nat) : Inv X pins σ H { s with toks := t } := I.un (h' := s.heap) (t' := t) Un.refl I.hok
theorem Inv.kept {t' : Nat} (I : Inv X pins σ H s) (k : ∀ b u, s.heap.get? b = some u -> h'.get? b = some u) : Inv X pins σ H { s with heap := h', toks := t' } := I.un (Un.kept k) (I.hok.kept k)
theorem Inv.laid {a : Addr} {o : HO} {t' : Nat} (I : Inv X pins σ H s) (k : ∀ b u, s.heap.get? b = some u -> h'.get? b = some u) (hp : s.heap.objs.size <= a) (new : ObjOk X.prog X.w (upd H a o) h' a o) :
  Inv X pins σ (upd H a o) { s with heap := h', toks := t' } := I.un (Un.laid k hp (I.hok.fresh hp)) (I.hok.laid k hp new)
theorem Inv.write {x e : Addr} {o : HO} {t' : Nat} (I : Inv X pins σ H s) (mu : Mut (H x)) (he : e = x \/ H e = some (.own x)) (k : ∀ b u, b ≠ e -> s.heap.get? b = some u -> h'.get? b = some u) (heo : ∃ u, h'.get? e = some u)
  (new : ObjOk X.prog X.w (upd H x o) h' x o) : Inv X pins σ (upd H x o) { s with heap := h', toks := t' } := I.un (Un.write mu he k heo) (I.hok.write mu he k heo new)
theorem Inv.pins_of {pins' : List (Addr × Obj)} (I : Inv X pins σ H s) (h : ∀ p ∈ pins', s.heap.get? p.1 = some p.2 /\ H p.1 = none /\ p.1 ≠ X.env.locals /\ p.1 ∉ X.fs /\ ∀ v, p.2.data ≠ .cell v) : Inv X pins' σ H s :=
 ⟨I.ok, I.os, I.bare, I.base, I.loc, I.cell, I.free, I.freeC, fun p hp => (List.mem_append.mp hp).elim (fun z => I.pin p (List.mem_append_left _ z)) (h p), I.hok, I.len⟩
theorem nodup_ix {N : List Str} (hN : N.Nodup) {i j : Nat} {x : Str} (a : N[i]? = some x) (b : N[j]? = some x) : i = j := by
 obtain ⟨h1, e1⟩ := List.getElem?_eq_some_iff.mp a
 obtain ⟨h2, e2⟩ := List.getElem?_eq_some_iff.mp b
 exact (List.getElem_inj hN).mp (e1.trans e2.symm)
theorem store_ok2 {M : Model} {A : Around} {E : Value -> Shared -> Prop} {i : Nat} {x : Str} {v : V} {u : Value} {Q : Unit -> Shared -> Prop} (I : Inv X pins σ H s) (hN : X.N.Nodup) (hi : X.N[i]? = some x) (hx : Loc X.env.scope x) (r : RelV v u)
  (h : ∀ s', Inv X pins (σ.set i (some v)) H s' -> (∃ a, Heap.SameBut a s.heap s'.heap /\ (a = X.env.locals \/ X.env.cells.lookup x = some a)) -> Q () s') (hf : X.fn x = true \/ X.env.scope.names.lookup x = some .local := by first | exact .inl rfl | exact .inr rfl | assumption) : wpAny M A (storeName X.env x u) Q E s := by
 obtain ⟨m, hn, hl⟩ := id I.loc
 have hcls : (X.env.scope.kind == .class || (X.env.scope.kind == .module && X.env.locals != X.env.globals)) = false := by rw [I.ok.kind]; rfl
 have hiσ : i < σ.length := by rw [I.len]; exact (List.getElem?_eq_some_iff.mp hi).1
 have cne := I.cne
 have tracked : ∀ {a : Addr} {h' : Heap}, (∃ o, s.heap.get? a = some o /\ H a = none) -> Heap.SameBut a s.heap h' -> HOk X.prog X.w H h' := fun {a h'} ha hs b ob e => by
  obtain ⟨_, _, hfree⟩ := ha
  refine (I.hok b ob e).stay (fun c w' hc q => (hs.2 c ?_).trans q) (fun _ q => q) fun _ _ q => q
  rintro rfl
  rcases hc with rfl | hc
  ·rw [hfree] at e; cases e
  ·rw [hfree] at hc; cases hc
 rcases hx with hk | hk
 ·refine wpAny_storeName_local hk hn (fun h' hn' hs => ?_) hcls
  obtain ⟨oL, _, _, hoL, _⟩ := id hn
  refine h _ ⟨I.ok, I.os, I.bare, ⟨fun b o e n hb hx => ?_, fun b o e n hb hx => ?_, I.base.free, fun b o e hx => ?_, I.base.tups, I.base.frzs, I.base.tbls⟩, ⟨_, hn', fun j y v' e1 e2 e3 => ?_⟩, fun y c e => ?_, I.free, I.freeC, fun p hp => ?_, tracked ⟨oL, hoL, I.free⟩ hs, by simpa using I.len⟩ ⟨_, hs, .inl rfl⟩
  ·exact (hs.2 b (Nat.ne_of_lt (Nat.lt_of_lt_of_le (Heap.lt_size e) I.ok.above))).trans (I.base.keep b o e n hb hx)
  ·obtain ⟨sl, e1⟩ := I.base.slot b o e n hb hx
   exact ⟨sl, (hs.2 b (Nat.ne_of_lt (Nat.lt_of_lt_of_le (Heap.lt_size e) I.ok.above))).trans e1⟩
  ·obtain ⟨o', e1⟩ := I.base.there b o e hx
   exact ⟨o', (hs.2 b (Nat.ne_of_lt (Nat.lt_of_lt_of_le (Heap.lt_size e) I.ok.above))).trans e1⟩
  ·by_cases hj : j = i
   ·subst hj
    rw [hi] at e1; cases e1
    rw [List.getElem?_set_self hiσ] at e2
    cases e2
    exact ⟨u, r, .inl ⟨hk, by simp⟩⟩
   ·rw [List.getElem?_set_ne (Ne.symm hj)] at e2
    obtain ⟨u', r', q⟩ := hl j y v' e1 e2 e3
    refine ⟨u', r', ?_⟩
    rcases q with ⟨k, e⟩ | ⟨k, c, e, z⟩
    ·refine .inl ⟨k, ?_⟩
     have : y ≠ x := fun e => hj (nodup_ix hN e1 (e ▸ hi))
     simp [this, e]
    ·exact .inr ⟨k, c, e, z.sameBut hs (cne y c e)⟩
  ·obtain ⟨w', z⟩ := I.cell y c e
   exact ⟨w', z.sameBut hs (cne y c e)⟩
  ·obtain ⟨e, n, ne, nf, d⟩ := I.pin p hp
   exact ⟨(hs.2 p.1 ne).trans e, n, ne, nf, d⟩
 ·have hfn : X.fn x = true := by
   rcases hf with z | z
   ·exact z
   ·rw [z] at hk; cases hk
  obtain ⟨c, hc⟩ := I.ok.has x (.inl hk)
  obtain ⟨w', z⟩ := I.cell x c hc
  refine wpAny_storeName_cell I.ok.kind hk hc z (fun h' hc' hs => ?_)
  obtain ⟨oc, hoc, hocd⟩ := id z
  refine h { s with heap := h' } ⟨I.ok, I.os, I.bare, ⟨fun b o e n hb hx => ?_, fun b o e n hb hx => ?_, I.base.free, fun b o e hx => ?_, I.base.tups, I.base.frzs, I.base.tbls⟩, ⟨m, hn.sameBut hs (Ne.symm (cne x c hc)), fun j y v' e1 e2 e3 => ?_⟩, fun y c' e => ?_, I.free, I.freeC, fun p hp => ?_, tracked ⟨oc, hoc, (I.freeC x c hc).1 hfn⟩ hs, by simpa using I.len⟩ ⟨c, hs, .inr hc⟩
  ·exact (hs.2 b (Nat.ne_of_lt (Nat.lt_of_lt_of_le (Heap.lt_size e) (I.ok.cab x c hfn hc)))).trans (I.base.keep b o e n hb hx)
  ·obtain ⟨sl, e1⟩ := I.base.slot b o e n hb hx
   exact ⟨sl, (hs.2 b (Nat.ne_of_lt (Nat.lt_of_lt_of_le (Heap.lt_size e) (I.ok.cab x c hfn hc)))).trans e1⟩
  ·obtain ⟨o', e1⟩ := I.base.there b o e hx
   exact ⟨o', (hs.2 b (Nat.ne_of_lt (Nat.lt_of_lt_of_le (Heap.lt_size e) (I.ok.cab x c hfn hc)))).trans e1⟩
  ·by_cases hj : j = i
   ·subst hj
    rw [hi] at e1; cases e1
    rw [List.getElem?_set_self hiσ] at e2
    cases e2
    exact ⟨u, r, .inr ⟨.inl hk, c, hc, hc'⟩⟩
   ·rw [List.getElem?_set_ne (Ne.symm hj)] at e2
    obtain ⟨u', r', q⟩ := hl j y v' e1 e2 e3
    refine ⟨u', r', ?_⟩
    rcases q with q | ⟨k, c', e, z'⟩
    ·exact .inl q
    ·refine .inr ⟨k, c', e, z'.sameBut hs ?_⟩
     rintro rfl
     exact hj (nodup_ix hN e1 (I.ok.inj _ _ _ e hc ▸ hi))
  ·by_cases hcc : c' = c
   ·subst hcc; exact ⟨_, hc'⟩
   ·obtain ⟨w2, z2⟩ := I.cell y c' e
    exact ⟨w2, z2.sameBut hs hcc⟩
  ·obtain ⟨e, n, ne, nf, d⟩ := I.pin p hp
   refine ⟨(hs.2 p.1 ?_).trans e, n, ne, nf, d⟩
   intro q
   rw [q, hoc] at e
   have q' : oc = p.2 := Option.some.inj e
   exact d w' (by rw [<- q']; exact hocd)
theorem store_ok {M : Model} {A : Around} {E : Value -> Shared -> Prop} {i : Nat} {x : Str} {v : V} {u : Value} {Q : Unit -> Shared -> Prop} (I : Inv X pins σ H s) (hN : X.N.Nodup) (hi : X.N[i]? = some x) (hx : Loc X.env.scope x) (r : RelV v u)
  (h : ∀ s', Inv X pins (σ.set i (some v)) H s' -> Q () s') (hf : X.fn x = true \/ X.env.scope.names.lookup x = some .local := by first | exact .inl rfl | exact .inr rfl | assumption) : wpAny M A (storeName X.env x u) Q E s :=
 store_ok2 I hN hi hx r (fun s' I' _ => h s' I') hf
theorem Inv.call' {s' : Shared} {ch : List Addr} (I : Inv X pins σ H s) (ho : s'.os = s.os) (u : Un (frs X.stack) ch H H' s.heap s'.heap) (hok : HOk X.prog X.w H' s'.heap) (hg : AllBare s'.gens)
  (hch : ∀ b ∈ ch, (b ∈ X.ex \/ X.s₀.heap.objs.size <= b) /\ b ≠ X.env.locals /\ (∀ x c, X.env.cells.lookup x = some c -> c ≠ b) /\ ∀ p ∈ X.pn ++ pins, p.1 ≠ b) : Inv X pins σ H' s' := by
 obtain ⟨h', g', d', t', o'⟩ := s'
 have e : o' = s.os := ho
 subst e
 exact I.call (g' := g') (t' := t') (d' := d') u hok hg hch
end
abbrev XK := Value -> Option Addr -> Hp -> Prop
abbrev St := List (Option V)
abbrev VK := V -> Hp -> Prop
abbrev TE := St -> Hp -> VK -> Prop
abbrev TT := St -> Hp -> (Bool -> Hp -> Prop) -> Prop
abbrev TA := St -> Hp -> (List V -> Hp -> Prop) -> Prop
structure Ends where
 nx : St -> Hp -> Prop
 rt : VK
 bk : St -> Hp -> Prop := fun _ _ => False
 ct : St -> Hp -> Prop := fun _ _ => False
abbrev TS := Ends -> St -> Hp -> Prop
def EP (X : Cx) (pins : List (Addr × Obj)) (σ : St) (Q : VK) (u : Value) (s' : Shared) : Prop := ∃ v H', Inv X pins σ H' s' /\ RelV v u /\ Q v H'
def TP (X : Cx) (pins : List (Addr × Obj)) (σ : St) (Q : Bool -> Hp -> Prop) (b : Bool) (s' : Shared) : Prop := ∃ H', Inv X pins σ H' s' /\ Q b H'
def AP (X : Cx) (pins : List (Addr × Obj)) (σ : St) (Q : List V -> Hp -> Prop) (us : List Value) (s' : Shared) : Prop := ∃ vs H', Inv X pins σ H' s' /\ Vals vs us /\ Q vs H'
def SP (X : Cx) (pins : List (Addr × Obj)) (D : Ends) (f : Flow) (s' : Shared) : Prop :=
 match f with
 | .next => ∃ σ' H', Inv X pins σ' H' s' /\ D.nx σ' H'
 | .brk => ∃ σ' H', Inv X pins σ' H' s' /\ D.bk σ' H'
 | .cont => ∃ σ' H', Inv X pins σ' H' s' /\ D.ct σ' H'
 | .ret u => ∃ v σ' H', Inv X pins σ' H' s' /\ RelV v u /\ D.rt v H'
def PE (X : Cx) (e : Expr) (t : TE) : Prop :=
 ∀ (pins : List (Addr × Obj)) (s : Shared) (σ : St) (H : Hp) (Q : VK), Inv X pins σ H s -> t σ H Q -> wpAny (model X.prog X.w) X.A (eval e X.env) (EP X pins σ Q) X.xe s
def PT (X : Cx) (e : Expr) (t : TT) : Prop :=
 ∀ (pins : List (Addr × Obj)) (s : Shared) (σ : St) (H : Hp) (Q : Bool -> Hp -> Prop), Inv X pins σ H s -> t σ H Q -> wpAny (model X.prog X.w) X.A (isTrue e X.env (eval e X.env)) (TP X pins σ Q) X.xe s
def PW (X : Cx) (e : Expr) (t : TT) : Prop :=
 ∀ (whole : Sem Value) (pins : List (Addr × Obj)) (s : Shared) (σ : St) (H : Hp) (Q : Bool -> Hp -> Prop), Inv X pins σ H s -> t σ H Q -> wpAny (model X.prog X.w) X.A (isTrue e X.env whole) (TP X pins σ Q) X.xe s
theorem PW.pt {X : Cx} {e : Expr} {t : TT} (h : PW X e t) : PT X e t := h _
def PA (X : Cx) (es : List Expr) (t : TA) : Prop :=
 ∀ (pos : Pos) (pins : List (Addr × Obj)) (s : Shared) (σ : St) (H : Hp) (Q : List V -> Hp -> Prop), Inv X pins σ H s -> t σ H Q -> wpAny (model X.prog X.w) X.A (spliced (backTo pos (starEach es X.env))) (AP X pins σ Q) X.xe s
def PS (X : Cx) (st : Stmt) (t : TS) : Prop :=
 ∀ (pins : List (Addr × Obj)) (s : Shared) (σ : St) (H : Hp) (D : Ends), Inv X pins σ H s -> t D σ H -> wpAny (model X.prog X.w) X.A (exec st X.env) (SP X pins D) X.xe s
def PSs (X : Cx) (st : List Stmt) (t : TS) : Prop :=
 ∀ (pins : List (Addr × Obj)) (s : Shared) (σ : St) (H : Hp) (D : Ends), Inv X pins σ H s -> t D σ H -> wpAny (model X.prog X.w) X.A (execs st X.env) (SP X pins D) X.xe s
theorem thn {α : Type} {t : Sem α} {Q Q' : α -> Shared -> Prop} {M : Model} {A : Around} {E : Value -> Shared -> Prop} {s : Shared} (h : wpAny M A t Q E s) (hQ : ∀ a s, Q a s -> Q' a s) : wpAny M A t Q' E s := wpAny_mono h hQ fun _ _ x => x
section
variable {X : Cx}
theorem bin {a b : Expr} {ta tb : TE} (ha : PE X a ta) (hb : PE X b tb) {pins : List (Addr × Obj)} {s : Shared} {σ : St} {H : Hp} {R : V -> V -> Hp -> Prop} (I : Inv X pins σ H s) (h : ta σ H fun x H1 => tb σ H1 fun y H2 => R x y H2)
  {α : Type} {Q : α -> Shared -> Prop} {f : Value -> Value -> Sem α}
  (hf : ∀ v u s2 x y H2, Inv X pins σ H2 s2 -> RelV x v -> RelV y u -> R x y H2 -> wpAny (model X.prog X.w) X.A (f v u) Q X.xe s2) :
  wpAny (model X.prog X.w) X.A (eval a X.env) (fun v s₁ => wpAny (model X.prog X.w) X.A (eval b X.env) (fun u s₂ => wpAny (model X.prog X.w) X.A (f v u) Q X.xe s₂) X.xe s₁) X.xe s := by
 refine thn (ha pins s σ H _ I h) fun v s1 ⟨x, H1, I1, r1, q1⟩ => ?_
 refine thn (hb pins s1 σ H1 _ I1 q1) fun u s2 ⟨y, H2, I2, r2, q2⟩ => ?_
 exact hf v u s2 x y H2 I2 r1 r2 q2
def tVar (i : Nat) : TE := fun σ H Q => ∃ v, σ[i]? = some (some v) /\ Q v H
def tC (v : V) : TE := fun _ H Q => Q v H
theorem pe_var {i : Nat} {x : Str} {pos : Pos} (hN : X.N[i]? = some x) (hv : Vis X.env.scope x) (hd : (x == ("__debug__" : Str)) = false := by decide) (hcd : (x == ("__classdict__" : Str)) = false := by decide) : PE X (.Name x pos) (tVar i) := by
 intro pins s σ H Q I h
 obtain ⟨v, e, h⟩ := h
 obtain ⟨m, hn, hl⟩ := I.loc
 obtain ⟨u, r, l⟩ := hl i x v hN e hv
 have fin : EP X pins σ Q u s := ⟨v, H, I, r, h⟩
 rcases l with ⟨hk, hm⟩ | ⟨hk, c, hc, hcell⟩
 ·exact wpAny_Name (wpAny_loadName_local I.ok.kind hk hn hm fin) hd
 ·rcases hk with hk | hk
  ·exact wpAny_Name (wpAny_loadName_cell I.ok.kind hk hc hcell fin) hd
  ·exact wpAny_Name (wpAny_loadName_free I.ok.kind hk hc hcell fin hcd) hd
theorem pe_int {i j pos} : PE X (.Constant (.int i) j pos) (tC (.int i)) := fun _ _ _ H _ I h => wpAny_Constant_int ⟨.int i, H, I.tok _, ⟨_, rfl⟩, h⟩
theorem pe_bl {b j pos} : PE X (.Constant (.bool b) j pos) (tC (.bl b)) := fun _ _ _ H _ I h => Constant_bool ⟨.bl b, H, I, rfl, h⟩
theorem pe_non {j pos} : PE X (.Constant .none j pos) (tC .non) := fun _ _ _ H _ I h => Constant_none ⟨.non, H, I, rfl, h⟩
def Gl (X : Cx) (x : Str) : Prop := X.env.kindOf x = some .globalImplicit
theorem ld_glob {E : Value -> Shared -> Prop} {pins : List (Addr × Obj)} {s : Shared} {σ : St} {H : Hp} {x : Str} {u : Value} {pos : Pos} {Q : Value -> Shared -> Prop} (I : Inv X pins σ H s) (hg : Gl X x) (hm : X.mg x = some u) (h : Q u s)
  (hd : (x == ("__debug__" : Str)) = false := by decide) : wpAny (model X.prog X.w) X.A (eval (.Name x pos) X.env) Q E s :=
 Calls.Name_function_global I.ok.kind hg (Calls.loadGlobal_global (by rw [I.ok.glob]; exact I.mod.glob.keeps I.bk) hm h) hd
theorem ld_blt {E : Value -> Shared -> Prop} {pins : List (Addr × Obj)} {s : Shared} {σ : St} {H : Hp} {x : Str} {u : Value} {pos : Pos} {Q : Value -> Shared -> Prop} (I : Inv X pins σ H s) (hg : Gl X x) (hm : X.mg x = none) (hv : bootBuiltins x = some u) (h : Q u s)
  (hn : x ≠ "__name__" := by decide) (hd : (x == ("__debug__" : Str)) = false := by decide) : wpAny (model X.prog X.w) X.A (eval (.Name x pos) X.env) Q E s := by
 obtain ⟨mb, h1, h2⟩ := I.mod.blt
 exact Calls.Name_function_global I.ok.kind hg (Calls.loadGlobal_builtin (by rw [I.ok.glob]; exact I.mod.glob.keeps I.bk) hm (by rw [I.ok.blt]; exact h1.keeps I.bk) ((h2 x hn).trans hv) h) hd
theorem pe_bltn {x : Str} {v : V} {u : Value} {pos : Pos} (hg : Gl X x) (hm : X.mg x = none) (hv : bootBuiltins x = some u) (r : RelV v u) (hn : x ≠ "__name__" := by decide) (hd : (x == ("__debug__" : Str)) = false := by decide) : PE X (.Name x pos) (tC v) :=
 fun _ _ _ H _ I h => ld_blt I hg hm hv ⟨v, H, I, r, h⟩ hn hd
variable {a b : Expr} {ta tb : TE} {pos : Pos}
variable {tA tB' : TT} {rest : List Expr}
def tAnd (t u : TT) : TT := fun σ H Q => t σ H fun c H1 => if c = true then u σ H1 Q else Q false H1
def tOr (t u : TT) : TT := fun σ H Q => t σ H fun c H1 => if c = true then Q true H1 else u σ H1 Q
def tNot (t : TT) : TT := fun σ H Q => t σ H fun c H1 => Q (!c) H1
theorem pw_and1 (ha : PT X a tA) : PW X (.BoolOp .And [a] pos) tA := by
 intro wh pins s σ H Q I h
 refine isTrue_and (thn (ha pins s σ H Q I h) fun c s1 e => ?_)
 cases c with
 | true => exact isTrue_and_nil e
 | false => exact e
theorem pw_or1 (ha : PT X a tA) : PW X (.BoolOp .Or [a] pos) tA := by
 intro wh pins s σ H Q I h
 refine isTrue_or (thn (ha pins s σ H Q I h) fun c s1 e => ?_)
 cases c with
 | false => exact isTrue_or_nil e
 | true => exact e
theorem pw_and (ha : PT X a tA) (hb : PW X (.BoolOp .And (b :: rest) pos) tB') : PW X (.BoolOp .And (a :: b :: rest) pos) (tAnd tA tB') := by
 intro wh pins s σ H Q I h
 refine isTrue_and (thn (ha pins s σ H _ I h) fun c s1 ⟨H1, I1, q1⟩ => ?_)
 cases c with
 | true => exact hb wh pins s1 σ H1 Q I1 q1
 | false => exact ⟨H1, I1, q1⟩
theorem pw_or (ha : PT X a tA) (hb : PW X (.BoolOp .Or (b :: rest) pos) tB') : PW X (.BoolOp .Or (a :: b :: rest) pos) (tOr tA tB') := by
 intro wh pins s σ H Q I h
 refine isTrue_or (thn (ha pins s σ H _ I h) fun c s1 ⟨H1, I1, q1⟩ => ?_)
 cases c with
 | true => exact ⟨H1, I1, q1⟩
 | false => exact hb wh pins s1 σ H1 Q I1 q1
theorem pt_not (ha : PT X a tA) : PT X (.UnaryOp .Not a pos) (tNot tA) := by
 intro pins s σ H Q I h
 exact isTrue_not (ha pins s σ H (fun c H1 => Q (!c) H1) I h)
def tAndV (ta tb : TE) : TE := fun σ H Q => ta σ H fun x H1 => ∃ c, x = .bl c /\ if c = true then tb σ H1 Q else Q (.bl false) H1
def tNotV (ta : TE) : TE := fun σ H Q => ta σ H fun x H1 => ∃ c, x = .bl c /\ Q (.bl (!c)) H1
theorem pe_one {op} {t : TE} (h : PE X a t) : PE X (.BoolOp op [a] pos) t := fun pins s σ H Q I hw => BoolOp_one (h pins s σ H Q I hw)
theorem pe_and (ha : PE X a ta) (hb : PE X (.BoolOp .And (b :: rest) pos) tb) : PE X (.BoolOp .And (a :: b :: rest) pos) (tAndV ta tb) := by
 intro pins s σ H Q I h
 refine BoolOp_and (thn (ha pins s σ H _ I h) fun v s1 ⟨x, H1, I1, r1, q1⟩ => ?_)
 obtain ⟨c, rfl, q1⟩ := q1
 cases r1
 refine wpAny_truthy_bool ?_
 cases c with
 | true => exact hb pins s1 σ H1 Q I1 q1
 | false => exact ⟨.bl false, H1, I1, rfl, q1⟩
theorem pe_not (ha : PE X a ta) : PE X (.UnaryOp .Not a pos) (tNotV ta) := by
 intro pins s σ H Q I h
 refine UnaryOp_ (thn (ha pins s σ H _ I h) fun v s1 ⟨x, H1, I1, r1, q1⟩ => ?_)
 obtain ⟨c, rfl, q1⟩ := q1
 cases r1
 exact not_of (wpAny_truthy_bool ⟨.bl (!c), H1, I1, rfl, q1⟩)
def tIf (t : TT) (ta tb : TE) : TE := fun σ H Q => t σ H fun c H1 => if c = true then ta σ H1 Q else tb σ H1 Q
theorem pe_ifExp {c : Expr} (hc : PT X c tA) (ha : PE X a ta) (hb : PE X b tb) : PE X (.IfExp c a b pos) (tIf tA ta tb) := by
 intro pins s σ H Q I h
 refine wpAny_IfExp (thn (hc pins s σ H _ I h) fun d s1 ⟨H1, I1, q1⟩ => ?_)
 cases d with
 | true => exact ha pins s1 σ H1 Q I1 q1
 | false => exact hb pins s1 σ H1 Q I1 q1
end
def SqL (K : PySem.W.Frag) (H : Hp) (a : Addr) (xs : List V) : Prop :=
 Rd H a (.lst xs) \/
  ∃ (o : Obj) (its : Array Value) (n : Nat), K.lookup a = some o /\ o.cls = .type "list" /\ o.dict = none /\ o.data = .seq its n /\ its.size <= sizeLine /\ Vals xs its.toList
def SqT (K : PySem.W.Frag) (H : Hp) (a : Addr) (xs : List V) : Prop :=
 Rd H a (.tup xs) \/
  ∃ (o : Obj) (its : Array Value) (n : Nat), K.lookup a = some o /\ o.cls = .type "tuple" /\ o.data = .seq its n /\ its.size <= sizeLine /\ Vals xs its.toList
def absV : Value -> Option V
 | .none => some .non
 | .bool b => some (.bl b)
 | .int i _ => some (.int i)
 | .str x _ => some (.str x)
 | .bytes b _ => some (.byt b)
 | .float b _ => some (.flt b)
 | .ref a => some (.ref a)
 | .type n => some (.ty n)
 | _ => none
theorem RelV.abs {x : V} {u : Value} (r : RelV x u) : absV u = some x := by
 cases x with
 | non => cases r; rfl
 | bl _ => cases r; rfl
 | int _ => obtain ⟨t, rfl⟩ := r; rfl
 | str _ => obtain ⟨t, rfl⟩ := r; rfl
 | byt _ => obtain ⟨t, rfl⟩ := r; rfl
 | flt _ => obtain ⟨t, rfl⟩ := r; rfl
 | ref _ => cases r; rfl
 | ty _ => cases r; rfl
theorem RelV.inj {x y : V} {u : Value} (r : RelV x u) (q : RelV y u) : x = y := Option.some.inj (r.abs.symm.trans q.abs)
theorem Vals.inj : ∀ {xs ys : List V} {us : List Value}, Vals xs us -> Vals ys us -> xs = ys
 | _, _, _, .nil, .nil => rfl
 | _, _, _, .cons r t, .cons r' t' => by rw [r.inj r', Vals.inj t t']
section
variable {X : Cx} {pins : List (Addr × Obj)} {σ : St} {H : Hp} {s : Shared} {a : Addr} {xs ys : List V}
theorem SqL.of {K : PySem.W.Frag} (h : H a = some (.lst xs)) : SqL K H a xs := .inl (.inl h)
theorem SqT.of {K : PySem.W.Frag} (h : H a = some (.tup xs)) : SqT K H a xs := .inl (.inl h)
theorem Inv.list (I : Inv X pins σ H s) (h : SqL X.K H a xs) : ∃ its : List Value, Vals xs its /\ PlainL s.heap a its.toArray /\ xs.length <= sizeLine := by
 rcases h with h | ⟨o, its, n, hk, hc, hd, hs, hz, r⟩
 ·obtain ⟨z, its, n, r, e⟩ := h.ok I.hok
  exact ⟨its, r, ⟨_, n, e, rfl, rfl, rfl⟩, z⟩
 ·refine ⟨its.toList, r, ⟨o, n, I.kIn a o hk, hc, hd, by simpa using hs⟩, ?_⟩
  have e := r.length
  simp only [Array.length_toList] at e
  omega
theorem Inv.tuple (I : Inv X pins σ H s) (h : SqT X.K H a xs) : ∃ its : List Value, Vals xs its /\ IsTup s.heap a its.toArray /\ xs.length <= sizeLine := by
 rcases h with h | ⟨o, its, n, hk, hc, hs, hz, r⟩
 ·obtain ⟨z, its, r, p⟩ := h.ok I.hok
  exact ⟨its, r, p, z⟩
 ·refine ⟨its.toList, r, ⟨o, I.kIn a o hk, hc, n, by simpa using hs⟩, ?_⟩
  have e := r.length
  simp only [Array.length_toList] at e
  omega
theorem Inv.list_inj (I : Inv X pins σ H s) (h : SqL X.K H a xs) (h' : SqL X.K H a ys) : xs = ys := by
 obtain ⟨its, r, ⟨o, n, e, _, _, d⟩, _⟩ := I.list h
 obtain ⟨its', r', ⟨o', n', e', _, _, d'⟩, _⟩ := I.list h'
 rw [e] at e'; cases e'
 rw [d] at d'
 injection d' with d1 _
 have : its = its' := by simpa using congrArg Array.toList d1
 subst this
 exact r.inj r'
theorem Inv.tuple_inj (I : Inv X pins σ H s) (h : SqT X.K H a xs) (h' : SqT X.K H a ys) : xs = ys := by
 obtain ⟨its, r, ⟨o, e, _, n, d⟩, _⟩ := I.tuple h
 obtain ⟨its', r', ⟨o', e', _, n', d'⟩, _⟩ := I.tuple h'
 rw [e] at e'; cases e'
 rw [d] at d'
 injection d' with d1 _
 have : its = its' := by simpa using congrArg Array.toList d1
 subst this
 exact r.inj r'
end
abbrev Cx.wish (X : Cx) (E : Value -> Shared -> Prop) : Cx := { X with xe := E }
abbrev Cx.nox (X : Cx) : Cx := X.wish fun _ _ => False
theorem Cx.Ok.wish {X : Cx} (ok : X.Ok) (E : Value -> Shared -> Prop) : (X.wish E).Ok :=
 ⟨ok.mod, ok.kind, ok.glob, ok.blt, ok.above, ok.inj, ok.has, ok.cab, ok.hd, ok.frames, ok.stk, ok.exf, ok.bs, ok.bsz, ok.noex, ok.exfs, ok.funs, ok.frf⟩
theorem Cx.Ok.unwish {X : Cx} {E : Value -> Shared -> Prop} (ok : (X.wish E).Ok) : X.Ok :=
 ⟨ok.mod, ok.kind, ok.glob, ok.blt, ok.above, ok.inj, ok.has, ok.cab, ok.hd, ok.frames, ok.stk, ok.exf, ok.bs, ok.bsz, ok.noex, ok.exfs, ok.funs, ok.frf⟩
section
variable {X : Cx} {pins : List (Addr × Obj)} {σ : St} {H : Hp} {s : Shared} {E : Value -> Shared -> Prop}
theorem Inv.wish (I : Inv X pins σ H s) (E : Value -> Shared -> Prop) : Inv (X.wish E) pins σ H s := ⟨I.ok.wish E, I.os, I.bare, I.base, I.loc, I.cell, I.free, I.freeC, I.pin, I.hok, I.len⟩
theorem Inv.unwish (I : Inv (X.wish E) pins σ H s) : Inv X pins σ H s := ⟨I.ok.unwish, I.os, I.bare, I.base, I.loc, I.cell, I.free, I.freeC, I.pin, I.hok, I.len⟩
theorem SP.unwish {D : Ends} {f : Flow} {s' : Shared} (h : SP (X.wish E) pins D f s') : SP X pins D f s' := by
 cases f with
 | next => obtain ⟨σ', H', I, q⟩ := h; exact ⟨σ', H', I.unwish, q⟩
 | brk => obtain ⟨σ', H', I, q⟩ := h; exact ⟨σ', H', I.unwish, q⟩
 | cont => obtain ⟨σ', H', I, q⟩ := h; exact ⟨σ', H', I.unwish, q⟩
 | ret u => obtain ⟨v, σ', H', I, r, q⟩ := h; exact ⟨v, σ', H', I.unwish, r, q⟩
theorem PE.nox {e : Expr} {t : TE} (h : PE X.nox e t) : PE X e t := fun pins s σ H Q I hw =>
 wpAny_mono (h pins s σ H Q (I.wish _) hw) (fun _ _ ⟨v, H', I', r, q⟩ => ⟨v, H', I'.unwish, r, q⟩) fun _ _ z => False.elim z
theorem PT.nox {e : Expr} {t : TT} (h : PT X.nox e t) : PT X e t := fun pins s σ H Q I hw =>
 wpAny_mono (h pins s σ H Q (I.wish _) hw) (fun _ _ ⟨H', I', q⟩ => ⟨H', I'.unwish, q⟩) fun _ _ z => False.elim z
theorem PSs.nox {st : List Stmt} {t : TS} (h : PSs X.nox st t) : PSs X st t := fun pins s σ H D I hw =>
 wpAny_mono (h pins s σ H D (I.wish _) hw) (fun _ _ q => q.unwish) fun _ _ z => False.elim z
end
section
variable {X : Cx} {st : Stmt} {rest : List Stmt} {t u : TS} {e : Expr} {te : TE} {pos : Pos}
def tNext : TS := fun D σ H => D.nx σ H
def tSeq (t u : TS) : TS := fun D σ H => t { D with nx := u D } σ H
theorem pss_nil : PSs X [] tNext := fun _ _ σ H _ I h => wpAny_execs_nil ⟨σ, H, I, h⟩
theorem pss_cons (h1 : PS X st t) (h2 : PSs X rest u) : PSs X (st :: rest) (tSeq t u) := by
 intro pins s σ H D I h
 refine wpAny_execs_cons (thn (h1 pins s σ H { D with nx := u D } I h) fun f s1 q => ?_)
 cases f with
 | next =>
  obtain ⟨σ', H', I', q⟩ := q
  exact h2 pins s1 σ' H' D I' q
 | ret v => exact q
 | brk => exact q
 | cont => exact q
theorem pss_one (h1 : PS X st t) : PSs X [st] t := by
 intro pins s σ H D I h
 refine wpAny_execs_cons (thn (h1 pins s σ H D I h) fun f s1 q => ?_)
 cases f with
 | next => exact wpAny_execs_nil q
 | ret v => exact q
 | brk => exact q
 | cont => exact q
theorem Inv.quiet {pins : List (Addr × Obj)} {σ : St} {H : Hp} {s : Shared} (I : Inv X pins σ H s) : interactive X.env = false := by simp [interactive, I.ok.kind]
def tDrop (te : TE) : TS := fun D σ H => te σ H fun _ H1 => D.nx σ H1
theorem ps_expr (he : PE X e te) (hs : swapsWith e none pos.line X.env = pure false := by rfl) : PS X (.Expr e pos) (tDrop te) := by
 intro pins s σ H D I h
 exact wpAny_Expr_any (thn (he pins s σ H _ I h) fun v s1 ⟨x, H1, I1, r1, q1⟩ => ⟨σ, H1, I1, q1⟩) I.quiet hs
def tRet (te : TE) : TS := fun D σ H => te σ H D.rt
theorem ps_ret (he : PE X e te) : PS X (.Return (some e) pos) (tRet te) := by
 intro pins s σ H D I h
 exact wpAny_Return_some (thn (he pins s σ H _ I h) fun v s1 ⟨x, H1, I1, r1, q1⟩ => ⟨x, σ, H1, I1, r1, q1⟩)
def tIfS (c : TT) (t u : TS) : TS := fun D σ H => c σ H fun b H1 => if b = true then t D σ H1 else u D σ H1
theorem ps_if {c : Expr} {a b : List Stmt} {tc : TT} (hc : PT X c tc) (ha : PSs X a t) (hb : PSs X b u) : PS X (.If c a b pos) (tIfS tc t u) := by
 intro pins s σ H D I h
 refine wpAny_If (thn (hc pins s σ H _ I h) fun d s1 ⟨H1, I1, q1⟩ => ?_)
 cases d with
 | true => exact ha pins s1 σ H1 D I1 q1
 | false => exact hb pins s1 σ H1 D I1 q1
end
abbrev TG := V -> St -> Hp -> (St -> Hp -> Prop) -> Prop
abbrev TGs := List V -> St -> Hp -> (St -> Hp -> Prop) -> Prop
def PG (X : Cx) (target : Expr) (t : TG) : Prop :=
 ∀ (pins : List (Addr × Obj)) (s : Shared) (σ : St) (H : Hp) (v : V) (u : Value) (Q : St -> Hp -> Prop), Inv X pins σ H s -> RelV v u -> t v σ H Q →
  wpAny (model X.prog X.w) X.A (assign target X.env u) (fun _ s' => ∃ σ' H', Inv X pins σ' H' s' /\ Q σ' H') X.xe s
def PGs (X : Cx) (ts : List Expr) (t : TGs) : Prop :=
 ∀ (pins : List (Addr × Obj)) (s : Shared) (σ : St) (H : Hp) (vs : List V) (us : List Value) (Q : St -> Hp -> Prop), Inv X pins σ H s -> Vals vs us -> t vs σ H Q →
  wpAny (model X.prog X.w) X.A (assignInOrder ((assignEach ts X.env).map (·.2)) us) (fun _ s' => ∃ σ' H', Inv X pins σ' H' s' /\ Q σ' H') X.xe s
abbrev TSet := V -> V -> V -> Hp -> (Hp -> Prop) -> Prop
def PSet (X : Cx) (t : TSet) : Prop :=
 ∀ (pins : List (Addr × Obj)) (s : Shared) (σ : St) (H : Hp) (o i v : V) (ov iv u : Value) (Q : Hp -> Prop), Inv X pins σ H s -> RelV o ov -> RelV i iv -> RelV v u -> t o i v H Q →
  wpAny (model X.prog X.w) X.A (setItem ov iv u) (fun _ s' => ∃ H', Inv X pins σ H' s' /\ Q H') X.xe s
abbrev TIp := V -> V -> Hp -> VK -> Prop
def PIp (X : Cx) (op : Operator) (t : TIp) : Prop :=
 ∀ (pins : List (Addr × Obj)) (s : Shared) (σ : St) (H : Hp) (x y : V) (v u : Value) (Q : VK), Inv X pins σ H s -> RelV x v -> RelV y u -> t x y H Q →
  wpAny (model X.prog X.w) X.A (inplaceOp op v u) (EP X pins σ Q) X.xe s
section
variable {X : Cx} {pos : Pos}
def gName (i : Nat) : TG := fun v σ H Q => Q (σ.set i (some v)) H
theorem pg_name {i : Nat} {x : Str} (hN : X.N.Nodup) (hi : X.N[i]? = some x) (hx : Loc X.env.scope x) (hf : X.fn x = true \/ X.env.scope.names.lookup x = some .local := by first | exact .inl rfl | exact .inr rfl | assumption) : PG X (.Name x pos) (gName i) := by
 intro pins s σ H v u Q I r h
 exact wpAny_assign_Name (store_ok I hN hi hx r (fun s' I' => ⟨_, H, I', h⟩) hf)
def gNil : TGs := fun vs σ H Q => vs = [] /\ Q σ H
def gCons (t : TG) (u : TGs) : TGs := fun vs σ H Q => ∃ v r, vs = v :: r /\ t v σ H fun σ' H' => u r σ' H' Q
theorem pgs_nil : PGs X [] gNil := by
 intro pins s σ H vs us Q I r h
 obtain ⟨e, h⟩ := h
 subst e
 cases r
 exact assignInOrder_nil ⟨σ, H, I, h⟩
theorem pgs_cons {e : Expr} {es : List Expr} {t : TG} {u : TGs} (h1 : PG X e t) (h2 : PGs X es u)
  (hs : (assignEach (e :: es) X.env).map (·.2) = assign e X.env :: (assignEach es X.env).map (·.2) := by rfl) : PGs X (e :: es) (gCons t u) := by
 intro pins s σ H vs us Q I r h
 obtain ⟨v, vr, e1, h⟩ := h
 subst e1
 cases r with
 | cons r rr =>
  rw [hs]
  refine assignInOrder_cons (thn (h1 pins s σ H _ _ _ I r h) fun _ s1 ⟨σ1, H1, I1, q1⟩ => ?_)
  exact h2 pins s1 σ1 H1 _ _ Q I1 rr q1
def gTup (K : PySem.W.Frag) (n : Nat) (t : TGs) : TG := fun v σ H Q => ∃ a xs, v = .ref a /\ SqT K H a xs /\ xs.length = n /\ t xs σ H Q
theorem pg_tup {es : List Expr} {k : Nat} {t : TGs} {n : Nat} (hc : X.calm = true) (h : PGs X es t)
  (hn : (assignEach es X.env).length = n := by rfl) (hst : (assignEach es X.env).findIdx? (·.1) = none := by rfl) : PG X (.Tuple es k pos) (gTup X.K n t) := by
 intro pins s σ H v u Q I r hw
 obtain ⟨a, xs, e1, hq, hl, hw⟩ := hw
 subst e1
 cases r
 obtain ⟨its, rv, ht, hz⟩ := I.tuple hq
 refine assign_Tuple_tuple (I.ok.hd hc) ht (by simp [hn, <- hl, rv.length]) hst fun h' hx => ?_
 have I1 : Inv X pins σ H { s with heap := h' } := I.kept (t' := s.toks) fun b o e => hx b o (Nat.ne_of_lt (Heap.lt_size e)) e
 exact h pins _ σ H xs _ Q I1 (by simpa using rv) hw
def gSub (to ti : TE) (t : TSet) : TG := fun v σ H Q => to σ H fun o H1 => ti σ H1 fun i H2 => t o i v H2 fun H3 => Q σ H3
theorem pg_sub {o i : Expr} {to ti : TE} {t : TSet} (ho : PE X o to) (hi : PE X i ti) (hs : PSet X t)
  (ha : ∀ v, assign (.Subscript o i pos) X.env v = (do
   let ov <- holding [v] (eval o X.env)
   let iv <- holding [v, ov] (eval i X.env)
   standAt pos
   holding [v, ov, iv] (setItem ov iv v)
   release [v, ov, iv] []) := by intro _; rfl) : PG X (.Subscript o i pos) (gSub to ti t) := by
 intro pins s σ H v u Q I r h
 rw [ha]
 refine wpAny_bind (wpAny_holding (thn (ho pins s σ H _ I h) fun ov s1 ⟨x, H1, I1, r1, q1⟩ => ?_))
 refine wpAny_bind (wpAny_holding (thn (hi pins s1 σ H1 _ I1 q1) fun iv s2 ⟨y, H2, I2, r2, q2⟩ => ?_))
 refine wpAny_bind (wpAny_standAt (wpAny_bind (wpAny_holding (thn (hs pins s2 σ H2 x y v ov iv u _ I2 r1 r2 r q2) fun _ s3 ⟨H3, I3, q3⟩ => ?_))))
 exact wpAny_release ⟨σ, H3, I3, q3⟩
def tAsg (te : TE) (g : TG) : TS := fun D σ H => te σ H fun x H1 => g x σ H1 D.nx
theorem ps_asg {tg e : Expr} {te : TE} {g : TG} (he : PE X e te) (hg : PG X tg g) (hs : swapsWithSole [tg] e pos.line X.env = pure false := by rfl) (hw : swappedStores [tg] e X.env = pure none := by rfl)
  (h1 : (assignEach [tg] X.env).map (·.2) = [assign tg X.env] := by rfl) : PS X (.Assign [tg] e pos) (tAsg te g) := by
 intro pins s σ H D I h
 refine wpAny_Assign_stores (thn (he pins s σ H _ I h) fun v s1 ⟨x, H1, I1, r1, q1⟩ => ?_) hs hw
 rw [h1]
 exact thn (hg pins s1 σ H1 x v _ I1 r1 q1) fun _ s2 q => q
theorem ps_set {i : Nat} {x : Str} {e : Expr} {te : TE} {pos' : Pos} (hN : X.N.Nodup) (hi : X.N[i]? = some x) (hx : Loc X.env.scope x) (he : PE X e te) (hs : swapsWith e (some (.Name x pos')) pos.line X.env = pure false := by rfl) (hf : X.fn x = true \/ X.env.scope.names.lookup x = some .local := by first | exact .inl rfl | exact .inr rfl | assumption) :
  PS X (.Assign [.Name x pos'] e pos) (tAsg te (gName i)) := by
 intro pins s σ H D I h
 refine wpAny_Assign_Name (thn (he pins s σ H _ I h) fun v s1 ⟨y, H1, I1, r1, q1⟩ => ?_) hs
 exact store_ok I1 hN hi hx r1 (fun s2 I2 => ⟨_, H1, I2, q1⟩) hf
def tAug (i : Nat) (te : TE) (ti : TIp) : TS := fun D σ H => ∃ x, σ[i]? = some (some x) /\ te σ H fun y H1 => ti x y H1 fun z H2 => D.nx (σ.set i (some z)) H2
theorem ps_aug {i : Nat} {x : Str} {e : Expr} {te : TE} {op : Operator} {ti : TIp} {pos' : Pos} (hN : X.N.Nodup) (hi : X.N[i]? = some x) (hx : Loc X.env.scope x) (he : PE X e te) (ho : PIp X op ti) (hf : X.fn x = true \/ X.env.scope.names.lookup x = some .local := by first | exact .inl rfl | exact .inr rfl | assumption) :
  PS X (.AugAssign (.Name x pos') op e pos) (tAug i te ti) := by
 intro pins s σ H D I h
 obtain ⟨v, e1, h⟩ := h
 obtain ⟨m, hn, hl⟩ := I.loc
 have vis : Vis X.env.scope x := by rcases hx with k | k; exact .inl k; exact .inr (.inl k)
 obtain ⟨u, r, l⟩ := hl i x v hi e1 vis
 refine wpAny_AugAssign_Name ?_
 have go : wpAny (model X.prog X.w) X.A (eval e X.env) (fun w s₂ => wpAny (model X.prog X.w) X.A (inplaceOp op u w) (fun r s₃ => wpAny (model X.prog X.w) X.A (storeName X.env x r) (fun _ => SP X pins D .next) X.xe s₃) X.xe s₂) X.xe s := by
  refine thn (he pins s σ H _ I h) fun w s1 ⟨y, H1, I1, r1, q1⟩ => ?_
  refine thn (ho pins s1 σ H1 v y u w _ I1 r r1 q1) fun z s2 ⟨zv, H2, I2, r2, q2⟩ => ?_
  exact store_ok I2 hN hi hx r2 (fun s3 I3 => ⟨_, H2, I3, q2⟩) hf
 rcases l with ⟨hk, hm⟩ | ⟨hk, c, hc, hcell⟩
 ·exact wpAny_loadName_local I.ok.kind hk hn hm go
 ·rcases hk with hk | hk
  ·exact wpAny_loadName_cell I.ok.kind hk hc hcell go
  ·rcases hx with k | k
   ·have : X.env.scope.names.lookup x = some .free := hk
    rw [k] at this; cases this
   ·have : X.env.scope.names.lookup x = some .free := hk
    rw [k] at this; cases this
def ipI (f : Int -> Int -> Int) : TIp := fun x y H Q => ∃ i j, x = .int i /\ y = .int j /\ Q (.int (f i j)) H
theorem ip_add : PIp X .Add (ipI fun i j => i + j) := by
 intro pins s σ H x y v u Q I r1 r2 h
 obtain ⟨i, j, e1, e2, q⟩ := h
 subst e1; subst e2
 obtain ⟨t, rfl⟩ := r1
 obtain ⟨t', rfl⟩ := r2
 exact iadd_int ⟨.int _, H, I.tok _, ⟨_, rfl⟩, q⟩
end
section
variable {X : Cx} {pos : Pos}
def tWhile (c : TT) (tb : TS) : TS := fun D σ H => ∃ W : Nat -> St -> Hp -> Prop, (∃ m, W m σ H) /\ ∀ m σ H, W m σ H →
 c σ H fun b H1 => if b = true then ∃ N : St -> Hp -> Prop, (∀ σ' H', N σ' H' -> ∃ m', m' < m /\ W m' σ' H') /\ tb { D with nx := N, ct := N, bk := D.nx } σ H1 else D.nx σ H1
theorem ps_while {c : Expr} {body : List Stmt} {tc : TT} {tb : TS} (hp : PassesOwn (model X.prog X.w) X.A X.env X.xe) (hc : PT X c tc) (hb : PSs X body tb) : PS X (.While c body [] pos) (tWhile tc tb) := by
 intro pins s σ H D I h
 obtain ⟨W, ⟨m0, w0⟩, turn⟩ := h
 refine wpAny_While (codeAny_whileLoop (fun n s' => ∃ σ' H', Inv X pins σ' H' s' /\ W n σ' H') ?_ m0 ⟨σ, H, I, w0⟩)
 rintro n s1 ⟨σ1, H1, I1, w1⟩
 refine wpAny_passesOwn hp (thn (hc pins s1 σ1 H1 _ I1 (turn n σ1 H1 w1)) fun b s2 ⟨H2, I2, q2⟩ => ?_)
 cases b with
 | true =>
  obtain ⟨N, hN, q2⟩ := q2
  rw [if_pos rfl]
  refine wpAny_passesOwn hp (thn (hb pins s2 σ1 H2 _ I2 q2) fun f s3 q3 => ?_)
  cases f with
  | next =>
   obtain ⟨σ3, H3, I3, n3⟩ := q3
   obtain ⟨m', hm, w3⟩ := hN σ3 H3 n3
   exact ⟨m', hm, σ3, H3, I3, w3⟩
  | cont =>
   obtain ⟨σ3, H3, I3, n3⟩ := q3
   obtain ⟨m', hm, w3⟩ := hN σ3 H3 n3
   exact ⟨m', hm, σ3, H3, I3, w3⟩
  | brk => exact q3
  | ret v => exact q3
 | false =>
  rw [if_neg Bool.false_ne_true]
  exact wpAny_execs_nil ⟨σ1, H2, I2, q2⟩
end
structure It where
 go : Nat -> Hp -> Prop
 yld : Nat -> Hp -> V -> Hp -> Prop
 stop : Nat -> Hp -> Prop
def FpOk (X : Cx) (pins : List (Addr × Obj)) (H : Hp) (b : Addr) : Prop :=
 H b = none /\ b ≠ X.env.locals /\ b ∉ X.fs /\ (b ∈ X.ex \/ X.s₀.heap.objs.size <= b) /\ (∀ x c, X.env.cells.lookup x = some c -> c ≠ b) /\ ∀ p ∈ X.pn ++ pins, p.1 ≠ b
theorem Inv.fpOk {X : Cx} {pins : List (Addr × Obj)} {σ : St} {H H' : Hp} {s : Shared} {b : Addr} (I : Inv X pins σ H s) (hb : s.heap.objs.size <= b) (hn : H' b = none) : FpOk X pins H' b := by
 refine ⟨hn, Nat.ne_of_gt (Nat.lt_of_lt_of_le I.lt hb), I.nofs hb, .inr (Nat.le_trans I.sz hb), fun x c e z => ?_, fun p hp z => ?_⟩
 ·obtain ⟨v, q⟩ := I.cell x c e
  exact absurd (Nat.lt_of_lt_of_le q.lt (by rw [z]; exact hb)) (Nat.lt_irrefl _)
 ·exact absurd (Nat.lt_of_lt_of_le (Heap.lt_size (I.pin p hp).1) (by rw [z]; exact hb)) (Nat.lt_irrefl _)
structure Turn (P : Program) (w : World) (K : PySem.W.Frag) (tg : Expr) (J : It) (fp : List Addr) (it : Addr) (tn : Nat -> Heap -> Prop) : Prop where
 mem : it ∈ fp
 obj : ∀ i h, tn i h -> ∀ b ∈ fp, ∃ o, h.get? b = some o /\ ∀ v, o.data ≠ .cell v
 keep : ∀ i h h', tn i h -> (∀ b ∈ fp, ∀ o, h.get? b = some o -> h'.get? b = some o) -> tn i h'
 item : ∀ (X : Cx), X.prog = P -> X.w = w -> X.K = K -> X.calm = true -> ∀ (i : Nat) (pins : List (Addr × Obj)) (s : Shared) (σ : St) (H : Hp) (E : Value -> Shared -> Prop), Inv X pins σ H s -> (∀ b ∈ fp, FpOk X pins H b) -> tn i s.heap -> J.go i H →
  wpAny (model P w) X.A (pyNext (.ref it)) (fun r s1 => ∃ u, r = some u /\
   wpAny (model P w) X.A (letOwnedTupleGo tg (.ref it) u) (fun _ s2 => ∃ x H', Inv X pins σ H' s2 /\ RelV x u /\ J.yld i H x H' /\ tn (i + 1) s2.heap /\ ∀ b ∈ fp, H' b = none) E s1) E s
 done : ∀ (X : Cx), X.prog = P -> X.w = w -> X.K = K -> X.calm = true -> ∀ (i : Nat) (pins : List (Addr × Obj)) (s : Shared) (σ : St) (H : Hp) (E : Value -> Shared -> Prop), Inv X pins σ H s -> (∀ b ∈ fp, FpOk X pins H b) -> tn i s.heap -> J.stop i H →
  wpAny (model P w) X.A (pyNext (.ref it)) (fun r s1 => r = none /\ Inv X pins σ H s1) E s
 self : ∀ (A : Around) (i : Nat) (s : Shared) (Q : Value -> Shared -> Prop) (E : Value -> Shared -> Prop), tn i s.heap -> Q (.ref it) s -> wpAny (model P w) A (pyIter (.ref it)) Q E s
abbrev TI := St -> Hp -> (It -> Hp -> Prop) -> Prop
def PIE (X : Cx) (pins : List (Addr × Obj)) (σ : St) (tg : Expr) (R : It -> Hp -> Prop) (itv : Value) (s2 : Shared) : Prop :=
 ∃ (it : Addr) (fp : List Addr) (tn : Nat -> Heap -> Prop) (J : It) (H' : Hp), itv = .ref it /\ Inv X pins σ H' s2 /\ Turn X.prog X.w X.K tg J fp it tn /\ tn 0 s2.heap /\ (∀ b ∈ fp, FpOk X pins H' b) /\ R J H'
def PI (X : Cx) (tg iter : Expr) (wi : TI) : Prop :=
 ∀ (pins : List (Addr × Obj)) (s : Shared) (σ : St) (H : Hp) (R : It -> Hp -> Prop), Inv X pins σ H s -> wi σ H R →
  wpAny (model X.prog X.w) X.A (eval iter X.env) (fun v s1 => wpAny (model X.prog X.w) X.A (pyIter v) (PIE X pins σ tg R) X.xe s1) X.xe s
theorem go_of {M : Model} {A : Around} {E : Value -> Shared -> Prop} {s : Shared} {tg : Expr} {it : Addr} {u : Value} {o : Obj} {n : String} {vs : Array Value} {Q : Unit -> Shared -> Prop} (ho : s.heap.get? it = some o) (hc : o.cls = .type n) (hd : o.data = .fields vs)
    (hn : ["enumerate", "zip", "dict_itemiterator", "dict_reverseitemiterator", "odict_iterator", "itertools.zip_longest", "itertools.pairwise"].contains n = false) (hQ : Q () s) : wpAny M A (letOwnedTupleGo tg (.ref it) u) Q E s := by
  unfold letOwnedTupleGo
  cases tg <;> first
    | exact wpAny_pure hQ
    | (cases u <;> first
        | exact wpAny_pure hQ
        | (refine wpAny_bind (wpAny_load ho ?_)
           rw [hc, hd]
           show wpAny M A (if (["enumerate", "zip", "dict_itemiterator", "dict_reverseitemiterator", "odict_iterator", "itertools.zip_longest", "itertools.pairwise"].contains n && vs[0]? == some (rawInt _)) = true then _ else _) Q E s
           rw [if_neg (by intro h; rw [hn, Bool.false_and] at h; cases h)]
           exact wpAny_pure hQ))
def Itl (K : PySem.W.Frag) (a : Addr) : It :=
 ⟨fun i H => ∃ xs x, SqL K H a xs /\ xs[i]? = some x, fun i H x H' => H' = H /\ ∀ xs, SqL K H a xs -> xs[i]? = some x, fun i H => ∃ xs, SqL K H a xs /\ xs.length <= i⟩
def Itt (K : PySem.W.Frag) (a : Addr) : It :=
 ⟨fun i H => ∃ xs x, SqT K H a xs /\ xs[i]? = some x, fun i H x H' => H' = H /\ ∀ xs, SqT K H a xs -> xs[i]? = some x, fun i H => ∃ xs, SqT K H a xs /\ xs.length <= i⟩
def Itr (lo : Int) (n : Nat) : It := ⟨fun i _ => i < n, fun i H x H' => H' = H /\ x = .int (lo + i), fun i _ => n <= i⟩
theorem turn_list {P : Program} {w : World} {K : PySem.W.Frag} {tg : Expr} (a it : Addr) : Turn P w K tg (Itl K a) [it] it (fun i h => h.IsListIter it a i) where
 mem := by simp
 obj := fun i h st b hb => by
  have e : b = it := by simpa using hb
  subst e
  obtain ⟨o, e, c, d⟩ := st
  exact ⟨o, e, fun v z => by rw [d] at z; cases z⟩
 keep := fun i h h' st k => st.at fun o e => k it (by simp) o e
 item := by
  intro X hP hw hK hc i pins s σ H E I hf st hg
  subst hP hw hK
  obtain ⟨xs, x, hq, hx⟩ := hg
  obtain ⟨its, rv, p, hz⟩ := I.list hq
  obtain ⟨u, hu, ru⟩ := rv.get hx
  obtain ⟨f0, f1, f2, f3, f4, f5⟩ := hf it (by simp)
  refine wpAny_pyNext_list_item st p.isList (x := u) (by simpa using hu) fun h' st' sb => ?_
  have I1 : Inv X pins σ H { s with heap := h' } := I.turned (t' := s.toks) (fun b o hb e => (sb.2 b hb).trans e) f0 f1 f3 f4 f5
  obtain ⟨o, e, c, d⟩ := id st'
  exact ⟨u, rfl, go_of (s := { s with heap := h' }) e c d (by decide) ⟨x, H, I1, ru, ⟨rfl, fun ys hy => by rw [I.list_inj hy hq]; exact hx⟩, st', fun b hb => (hf b hb).1⟩⟩
 done := by
  intro X hP hw hK hc i pins s σ H E I hf st hg
  subst hP hw hK
  obtain ⟨xs, hq, hx⟩ := hg
  obtain ⟨its, rv, p, hz⟩ := I.list hq
  obtain ⟨f0, f1, f2, f3, f4, f5⟩ := hf it (by simp)
  have hl := rv.length
  exact wpAny_pyNext_list_end (I.ok.hd hc) st p.isList (by simp; omega) fun h' eb => ⟨rfl, I.turned (t' := s.toks) (fun b o hb e => eb b o hb e) f0 f1 f3 f4 f5⟩
 self := fun _ _ _ _ _ st h => wpAny_pyIter_listiter st h
theorem turn_tuple {P : Program} {w : World} {K : PySem.W.Frag} {tg : Expr} (a it : Addr) : Turn P w K tg (Itt K a) [it] it (fun i h => h.IsTupleIter it a i) where
 mem := by simp
 obj := fun i h st b hb => by
  have e : b = it := by simpa using hb
  subst e
  obtain ⟨o, e, c, d⟩ := st
  exact ⟨o, e, fun v z => by rw [d] at z; cases z⟩
 keep := fun i h h' st k => st.at fun o e => k it (by simp) o e
 item := by
  intro X hP hw hK hc i pins s σ H E I hf st hg
  subst hP hw hK
  obtain ⟨xs, x, hq, hx⟩ := hg
  obtain ⟨its, rv, p, hz⟩ := I.tuple hq
  obtain ⟨u, hu, ru⟩ := rv.get hx
  obtain ⟨f0, f1, f2, f3, f4, f5⟩ := hf it (by simp)
  refine wpAny_pyNext_tuple_item st (show s.heap.IsTuple a its.toArray from p) (x := u) (by simpa using hu) fun h' st' sb => ?_
  have I1 : Inv X pins σ H { s with heap := h' } := I.turned (t' := s.toks) (fun b o hb e => (sb.2 b hb).trans e) f0 f1 f3 f4 f5
  obtain ⟨o, e, c, d⟩ := id st'
  exact ⟨u, rfl, go_of (s := { s with heap := h' }) e c d (by decide) ⟨x, H, I1, ru, ⟨rfl, fun ys hy => by rw [I.tuple_inj hy hq]; exact hx⟩, st', fun b hb => (hf b hb).1⟩⟩
 done := by
  intro X hP hw hK hc i pins s σ H E I hf st hg
  subst hP hw hK
  obtain ⟨xs, hq, hx⟩ := hg
  obtain ⟨its, rv, p, hz⟩ := I.tuple hq
  obtain ⟨f0, f1, f2, f3, f4, f5⟩ := hf it (by simp)
  have hl := rv.length
  exact wpAny_pyNext_tuple_end (I.ok.hd hc) st (show s.heap.IsTuple a its.toArray from p) (by simp; omega) fun h' eb => ⟨rfl, I.turned (t' := s.toks) (fun b o hb e => eb b o hb e) f0 f1 f3 f4 f5⟩
 self := fun _ _ _ _ _ st h => wpAny_pyIter_tupleiter st h
theorem turn_range {P : Program} {w : World} {K : PySem.W.Frag} {tg : Expr} (it : Addr) (lo : Int) (n : Nat) : Turn P w K tg (Itr lo n) [it] it (fun i h => IsRangeIter h it (lo + (i : Nat) * 1) ((n : Int) - (i : Nat)) 1) where
 mem := by simp
 obj := fun i h st b hb => by
  have e : b = it := by simpa using hb
  subst e
  exact ⟨_, st, fun v z => by
   have z' : Data.fields _ = Data.cell v := z
   cases z'⟩
 keep := fun i h h' st k => k it (by simp) _ st
 item := by
  intro X hP hw hK hc i pins s σ H E I hf st hg
  subst hP hw hK
  obtain ⟨f0, f1, f2, f3, f4, f5⟩ := hf it (by simp)
  have W := Walks.range (prog := X.prog) (w := X.w) (I.ok.hd hc) it lo 1 n
  refine W.item i s _ _ hg st fun v h' tk hv st' kk => ?_
  obtain ⟨t, rfl⟩ := hv
  have I1 : Inv X pins σ H { s with heap := h', toks := tk } := I.turned (fun b o hb e => kk b o (by simpa using hb) e) f0 f1 f3 f4 f5
  refine ⟨_, rfl, go_of (s := { s with heap := h', toks := tk }) (n := "range_iterator") st' rfl rfl (by decide) ⟨.int (lo + i), H, I1, ⟨t, ?_⟩, ⟨rfl, rfl⟩, st', fun b hb => (hf b hb).1⟩⟩
  rw [Int.mul_one]
 done := by
  intro X hP hw hK hc i pins s σ H E I hf st hg
  subst hP hw hK
  obtain ⟨f0, f1, f2, f3, f4, f5⟩ := hf it (by simp)
  exact wpAny_pyNext_range_end (I.ok.hd hc) st (by have : n <= i := hg; omega) fun h' eb => ⟨rfl, I.turned (t' := s.toks) (fun b o hb e => eb b o hb e) f0 f1 f3 f4 f5⟩
 self := fun _ _ _ _ _ st h => wpAny_pyIter_rangeiter st h
section
variable {X : Cx} {tg : Expr}
def iList (K : PySem.W.Frag) (tl : TE) : TI := fun σ H R => tl σ H fun x H1 => ∃ a, x = .ref a /\ (∃ xs, SqL K H1 a xs) /\ R (Itl K a) H1
def iTup (K : PySem.W.Frag) (tl : TE) : TI := fun σ H R => tl σ H fun x H1 => ∃ a, x = .ref a /\ (∃ xs, SqT K H1 a xs) /\ R (Itt K a) H1
theorem pi_list {l : Expr} {tl : TE} (hl : PE X l tl) : PI X tg l (iList X.K tl) := by
 intro pins s σ H R I h
 refine thn (hl pins s σ H _ I h) fun v s1 ⟨x, H1, I1, r1, q1⟩ => ?_
 obtain ⟨a, e, ⟨xs, hq⟩, q⟩ := q1
 subst e
 cases r1
 obtain ⟨its, rv, p, hz⟩ := I1.list hq
 refine wpAny_pyIter_list p.isList ?_
 refine ⟨s1.heap.objs.size, [s1.heap.objs.size], _, _, H1, rfl, I1.kept (t' := s1.toks) fun b o e => Heap.get?_push_of_some _ e, turn_list a _, ⟨_, Heap.get?_push_size _ rfl, rfl, rfl⟩, fun b hb => ?_, q⟩
 have e : b = s1.heap.objs.size := by simpa using hb
 subst e
 exact I1.fpOk (Nat.le_refl _) (I1.hok.fresh (Nat.le_refl _))
theorem pi_tup {l : Expr} {tl : TE} (hl : PE X l tl) : PI X tg l (iTup X.K tl) := by
 intro pins s σ H R I h
 refine thn (hl pins s σ H _ I h) fun v s1 ⟨x, H1, I1, r1, q1⟩ => ?_
 obtain ⟨a, e, ⟨xs, hq⟩, q⟩ := q1
 subst e
 cases r1
 obtain ⟨its, rv, p, hz⟩ := I1.tuple hq
 refine wpAny_pyIter_tuple (show s1.heap.IsTuple a its.toArray from p) ?_
 refine ⟨s1.heap.objs.size, [s1.heap.objs.size], _, _, H1, rfl, I1.kept (t' := s1.toks) fun b o e => Heap.get?_push_of_some _ e, turn_tuple a _, ⟨_, Heap.get?_push_size _ rfl, rfl, rfl⟩, fun b hb => ?_, q⟩
 have e : b = s1.heap.objs.size := by simpa using hb
 subst e
 exact I1.fpOk (Nat.le_refl _) (I1.hok.fresh (Nat.le_refl _))
theorem range_it {pins : List (Addr × Obj)} {σ : St} {H : Hp} {s : Shared} {R : It -> Hp -> Prop} {E : Value -> Shared -> Prop} {lo hi : Int} {t u v : Tok} {tk : Nat} (I : Inv X pins σ H s) (h1 : -(2 ^ 62) <= lo) (h2 : lo < 2 ^ 62) (h3 : -(2 ^ 62) <= hi) (h4 : hi < 2 ^ 62)
  (q : R (Itr lo (hi - lo).toNat) H) : wpAny (model X.prog X.w) X.A (pyIter (.ref s.heap.objs.size)) (PIE X pins σ tg R) E { s with heap := s.heap.push { cls := .type "range", data := .fields #[.int lo t, .int hi u, .int 1 v] }, toks := tk } := by
 refine wpAny_pyIter_range (IsRange.new ..) (small_one h1 h2 h3 h4) ?_
 have I1 : Inv X pins σ H { s with heap := s.heap.push { cls := .type "range", data := .fields #[.int lo t, .int hi u, .int 1 v] }, toks := tk } := I.kept fun b o e => Heap.get?_push_of_some _ e
 refine ⟨(s.heap.push { cls := .type "range", data := .fields #[.int lo t, .int hi u, .int 1 v] }).objs.size, [(s.heap.push { cls := .type "range", data := .fields #[.int lo t, .int hi u, .int 1 v] }).objs.size], _, _, H, rfl,
  I1.kept (t' := tk) fun b o e => Heap.get?_push_of_some _ e, turn_range _ lo (hi - lo).toNat, ?_, fun b hb => ?_, q⟩
 ·have e1 : lo + ((0 : Nat) : Int) * 1 = lo := by simp
  have e2 : (((hi - lo).toNat : Nat) : Int) - ((0 : Nat) : Int) = Builtin.Range.rangeSize lo hi 1 := by rw [rangeSize_one]; split <;> omega
  show IsRangeIter _ _ (lo + ((0 : Nat) : Int) * 1) ((((hi - lo).toNat : Nat) : Int) - ((0 : Nat) : Int)) 1
  rw [e1, e2]
  exact Heap.get?_push_size _ rfl
 ·have e : b = (s.heap.push { cls := .type "range", data := .fields #[.int lo t, .int hi u, .int 1 v] }).objs.size := by simpa using hb
  subst e
  exact I1.fpOk (Nat.le_refl _) (I1.hok.fresh (Nat.le_refl _))
def iRng1 (ta : TA) : TI := fun σ H R => ta σ H fun vs H1 => ∃ j : Int, vs = [.int j] /\ -(2 ^ 62) <= j /\ j < 2 ^ 62 /\ R (Itr 0 j.toNat) H1
theorem pi_range1 {a : Expr} {ta : TA} {p pos : Pos} (hg : Gl X "range") (hm : X.mg "range" = none) (ha : PA X [a] ta) (hs : starEach [a] X.env = [(false, eval a X.env)] := by rfl) : PI X tg (.Call (.Name "range" p) [a] [] pos) (iRng1 ta) := by
 intro pins s σ H R I h
 refine Call_ (ld_blt I hg hm boot_range (PyProof.Rows.callWith_type1 (thn (ha pos pins s σ H _ I h) fun us s1 ⟨vs, H1, I1, r1, q1⟩ => ?_) hs rfl))
 obtain ⟨j, e, q1, q2, q⟩ := q1
 subst e
 cases r1 with
 | cons r rr =>
  cases rr
  obtain ⟨t, rfl⟩ := r
  exact call_range_1 (range_it I1 (by omega) (by omega) q1 q2 (by simpa using q))
def tFor (wi : TI) (g : TG) (tb : TS) : TS := fun D σ H => wi σ H fun J H1 => ∃ W : Nat -> Nat -> St -> Hp -> Prop, (∃ m, W 0 m σ H1) /\ ∀ i m σ H, W i m σ H →
 (J.stop i H /\ D.nx σ H) \/ (J.go i H /\ ∃ N : St -> Hp -> Prop, (∀ σ' H', N σ' H' -> ∃ m', m' < m /\ W (i + 1) m' σ' H') /\ ∀ x H', J.yld i H x H' -> g x σ H' fun σ2 H2 => tb { D with nx := N, ct := N, bk := D.nx } σ2 H2)
def pinsAt (fp : List Addr) (h : Heap) : List (Addr × Obj) := fp.filterMap fun b => (h.get? b).map fun o => (b, o)
theorem mem_pinsAt {fp : List Addr} {h : Heap} {b : Addr} {o : Obj} (hb : b ∈ fp) (e : h.get? b = some o) : (b, o) ∈ pinsAt fp h := List.mem_filterMap.mpr ⟨b, hb, by rw [e]; rfl⟩
theorem of_pinsAt {fp : List Addr} {h : Heap} {p : Addr × Obj} (hp : p ∈ pinsAt fp h) : p.1 ∈ fp /\ h.get? p.1 = some p.2 := by
 obtain ⟨b, hb, e⟩ := List.mem_filterMap.mp hp
 cases q : h.get? b with
 | none => rw [q] at e; cases e
 | some o =>
  rw [q] at e
  have e' : (b, o) = p := Option.some.inj e
  subst e'
  exact ⟨hb, q⟩
theorem Inv.pinned {pins : List (Addr × Obj)} {σ : St} {H : Hp} {s : Shared} {fp : List Addr} (I : Inv X pins σ H s) (hf : ∀ b ∈ fp, FpOk X pins H b) (ho : ∀ b ∈ fp, ∃ o, s.heap.get? b = some o /\ ∀ v, o.data ≠ .cell v) : Inv X (pins ++ pinsAt fp s.heap) σ H s :=
 I.pins_of fun p hp => (List.mem_append.mp hp).elim (fun z => I.pin p (List.mem_append_right _ z)) fun z => by
  obtain ⟨hb, e⟩ := of_pinsAt z
  obtain ⟨f0, f1, f2, _⟩ := hf p.1 hb
  obtain ⟨o, e', d⟩ := ho p.1 hb
  rw [e] at e'; cases e'
  exact ⟨e, f0, f1, f2, d⟩
theorem Inv.unpinned {pins pl : List (Addr × Obj)} {σ : St} {H : Hp} {s : Shared} (I : Inv X (pins ++ pl) σ H s) : Inv X pins σ H s := I.pins_of fun p hp => I.pin p (List.mem_append_right _ (List.mem_append_left _ hp))
theorem ps_for {iter : Expr} {body : List Stmt} {wi : TI} {g : TG} {tb : TS} {pos : Pos} (hp : PassesOwn (model X.prog X.w) X.A X.env X.xe) (hc : X.calm = true) (hi : PI X tg iter wi) (hg : PG X tg g) (hb : PSs X body tb)
  (hs : ∀ x, foldedSetIterable iter X.env x = pure x := by intro _; rfl) : PS X (.For tg iter body [] pos) (tFor wi g tb) := by
 intro pins s σ H D I h
 refine wpAny_For (thn (hi pins s σ H _ I h) fun v s1 h1 => thn h1 fun itv s2 h2 => ?_) hs
 obtain ⟨it, fp, tn, J, H2, e, I2, T, st2, f2, W, ⟨m0, w0⟩, turn⟩ := h2
 subst e
 have stat : ∀ {H' : Hp}, (∀ b ∈ fp, H' b = none) -> ∀ b ∈ fp, FpOk X pins H' b := fun hn b hb => ⟨hn b hb, (f2 b hb).2⟩
 refine codeAny_forLoop_any (fun n s' => ∃ i σ' H', Inv X pins σ' H' s' /\ tn i s'.heap /\ (∀ b ∈ fp, H' b = none) /\ W i n σ' H') ?_ m0 ⟨0, σ, H2, I2, st2, fun b hb => (f2 b hb).1, w0⟩
 rintro n s3 ⟨i, σ3, H3, I3, st3, fr3, w3⟩
 rcases turn i n σ3 H3 w3 with ⟨stop, qn⟩ | ⟨go, N, hN, step⟩
 ·refine wpAny_passesOwn hp (thn (T.done X rfl rfl rfl hc i pins s3 σ3 H3 X.xe I3 (stat fr3) st3 stop) fun r s4 ⟨hr, I4⟩ => ?_)
  subst hr
  exact wpAny_execs_nil ⟨σ3, H3, I4, qn⟩
 ·refine wpAny_passesOwn hp (thn (T.item X rfl rfl rfl hc i pins s3 σ3 H3 X.xe I3 (stat fr3) st3 go) fun r s4 ⟨u, hr, h4⟩ => ?_)
  subst hr
  refine wpAny_passesOwn hp (thn h4 fun _ s5 ⟨x, H5, I5, r5, y5, st5, fr5⟩ => ?_)
  have I5' := I5.pinned (stat fr5) (T.obj _ _ st5)
  refine wpAny_passesOwn hp (thn (hg _ s5 σ3 H5 x u _ I5' r5 (step x H5 y5)) fun _ s6 ⟨σ6, H6, I6, q6⟩ => ?_)
  refine wpAny_passesOwn hp (thn (hb _ s6 σ6 H6 _ I6 q6) fun f s7 q7 => ?_)
  have again : ∀ {σ7 : St} {H7 : Hp}, Inv X (pins ++ pinsAt fp s5.heap) σ7 H7 s7 -> N σ7 H7 -> ∃ m, m < n /\ ∃ i σ' H', Inv X pins σ' H' s7 /\ tn i s7.heap /\ (∀ b ∈ fp, H' b = none) /\ W i m σ' H' := fun {σ7 H7} I7 n7 => by
   obtain ⟨m', hm, w7⟩ := hN σ7 H7 n7
   refine ⟨m', hm, i + 1, σ7, H7, I7.unpinned, T.keep _ _ _ st5 fun b hb o e => (I7.pin (b, o) (List.mem_append_right _ (List.mem_append_right _ (mem_pinsAt hb e)))).1, fun b hb => ?_, w7⟩
   obtain ⟨o, e, d⟩ := T.obj _ _ st5 b hb
   exact (I7.pin (b, o) (List.mem_append_right _ (List.mem_append_right _ (mem_pinsAt hb e)))).2.1
  cases f with
  | next => obtain ⟨σ7, H7, I7, n7⟩ := q7; exact again I7 n7
  | cont => obtain ⟨σ7, H7, I7, n7⟩ := q7; exact again I7 n7
  | brk => obtain ⟨σ7, H7, I7, q7⟩ := q7; exact ⟨σ7, H7, I7.unpinned, q7⟩
  | ret v => obtain ⟨x7, σ7, H7, I7, r7, q7⟩ := q7; exact ⟨x7, σ7, H7, I7.unpinned, r7, q7⟩
end
abbrev R2 := V -> V -> Hp -> VK -> Prop
def OpR (X : Cx) (f : Value -> Value -> Sem Value) (r : R2) : Prop :=
 ∀ (pins : List (Addr × Obj)) (s : Shared) (σ : St) (H : Hp) (x y : V) (v u : Value) (Q : VK), Inv X pins σ H s -> RelV x v -> RelV y u -> r x y H Q →
  wpAny (model X.prog X.w) X.A (f v u) (EP X pins σ Q) X.xe s
def CallR (X : Cx) (f : Value) (r : List V -> Hp -> VK -> Prop) : Prop :=
 ∀ (pins : List (Addr × Obj)) (s : Shared) (σ : St) (H : Hp) (xs : List V) (us : List Value) (Q : VK), Inv X pins σ H s -> Vals xs us -> r xs H Q →
  wpAny (model X.prog X.w) X.A (call f us) (EP X pins σ Q) X.xe s
def TruR (X : Cx) (r : V -> Hp -> (Bool -> Hp -> Prop) -> Prop) : Prop :=
 ∀ (pins : List (Addr × Obj)) (s : Shared) (σ : St) (H : Hp) (x : V) (v : Value) (Q : Bool -> Hp -> Prop), Inv X pins σ H s -> RelV x v -> r x H Q →
  wpAny (model X.prog X.w) X.A (truthy v) (TP X pins σ Q) X.xe s
def tOp (r : R2) (ta tb : TE) : TE := fun σ H Q => ta σ H fun x H1 => tb σ H1 fun y H2 => r x y H2 Q
def rI (C : Int -> Int -> Prop) (g : Int -> Int -> V) : R2 := fun x y H Q => ∃ i j, x = .int i /\ y = .int j /\ C i j /\ Q (g i j) H
def rI0 (g : Int -> Int -> V) : R2 := fun x y H Q => ∃ i j, x = .int i /\ y = .int j /\ Q (g i j) H
section
variable {X : Cx} {a b c : Expr} {ta tb tc : TE} {pos : Pos}
theorem binT (ha : PE X a ta) (hb : PE X b tb) {pins : List (Addr × Obj)} {s : Shared} {σ : St} {H : Hp} {R : V -> V -> Hp -> Prop} (I : Inv X pins σ H s)
  (h : ta σ H fun x H1 => tb σ H1 fun y H2 => R x y H2) {Q : Value -> Shared -> Prop} {f : Value -> Value -> Sem Value}
  (hf : ∀ v u s2 x y H2, Inv X pins σ H2 s2 -> RelV x v -> RelV y u -> R x y H2 -> wpAny (model X.prog X.w) X.A (f v u) Q X.xe s2) :
  wpAny (model X.prog X.w) X.A (eval a X.env) (fun v s₁ => wpAny (model X.prog X.w) X.A (eval b X.env) (fun u s₂ => wpAny (model X.prog X.w) X.A (f v u) Q X.xe s₂) X.xe s₁) X.xe s := by
 refine thn (ha pins s σ H _ I h) fun v s1 ⟨x, H1, I1, r1, q1⟩ => ?_
 refine thn (hb pins s1 σ H1 _ I1 q1) fun u s2 ⟨y, H2, I2, r2, q2⟩ => ?_
 exact hf v u s2 x y H2 I2 r1 r2 q2
theorem pe_op {op : Operator} {r : R2} (ho : OpR X (binaryOp op) r) (ha : PE X a ta) (hb : PE X b tb) : PE X (.BinOp a op b pos) (tOp r ta tb) := by
 intro pins s σ H Q I h
 exact wpAny_BinOp (binT ha hb I h fun v u s2 x y H2 I2 rx ry q => ho pins s2 σ H2 x y v u Q I2 rx ry q)
theorem opI {f : Value -> Value -> Sem Value} {C : Int -> Int -> Prop} {g : Int -> Int -> Int}
  (rule : ∀ (i j : Int) (t u : Tok) (s : Shared) (Q : Value -> Shared -> Prop) (E : Value -> Shared -> Prop), C i j -> Q (.int (g i j) s.toks) { s with toks := s.toks + 1 } -> wpAny (model X.prog X.w) X.A (f (.int i t) (.int j u)) Q E s) :
  OpR X f (rI C fun i j => .int (g i j)) := by
 intro pins s σ H x y v u Q I rx ry h
 obtain ⟨i, j, rfl, rfl, hc, q⟩ := h
 obtain ⟨t, rfl⟩ := rx
 obtain ⟨t', rfl⟩ := ry
 exact rule i j t t' s _ _ hc ⟨.int (g i j), H, I.tok _, ⟨_, rfl⟩, q⟩
theorem opI0 {f : Value -> Value -> Sem Value} {g : Int -> Int -> Int}
  (rule : ∀ (i j : Int) (t u : Tok) (s : Shared) (Q : Value -> Shared -> Prop) (E : Value -> Shared -> Prop), Q (.int (g i j) s.toks) { s with toks := s.toks + 1 } -> wpAny (model X.prog X.w) X.A (f (.int i t) (.int j u)) Q E s) :
  OpR X f (rI0 fun i j => .int (g i j)) := by
 intro pins s σ H x y v u Q I rx ry h
 obtain ⟨i, j, rfl, rfl, q⟩ := h
 obtain ⟨t, rfl⟩ := rx
 obtain ⟨t', rfl⟩ := ry
 exact rule i j t t' s _ _ ⟨.int (g i j), H, I.tok _, ⟨_, rfl⟩, q⟩
theorem opB0 {f : Value -> Value -> Sem Value} {g : Int -> Int -> Bool}
  (rule : ∀ (i j : Int) (t u : Tok) (s : Shared) (Q : Value -> Shared -> Prop) (E : Value -> Shared -> Prop), Q (.bool (g i j)) s -> wpAny (model X.prog X.w) X.A (f (.int i t) (.int j u)) Q E s) :
  OpR X f (rI0 fun i j => .bl (g i j)) := by
 intro pins s σ H x y v u Q I rx ry h
 obtain ⟨i, j, rfl, rfl, q⟩ := h
 obtain ⟨t, rfl⟩ := rx
 obtain ⟨t', rfl⟩ := ry
 exact rule i j t t' s _ _ ⟨.bl (g i j), H, I, rfl, q⟩
def CMul (i j : Int) : Prop := (-(2 ^ 64) < i /\ i < 2 ^ 64) \/ (-(2 ^ 64) < j /\ j < 2 ^ 64)
theorem CMul.ok {i j : Int} (h : CMul i j) : IntMulOk i j := by
 rcases h with ⟨h1, h2⟩ | ⟨h1, h2⟩
 ·exact .of_left (intBits_le_64 h1 h2)
 ·exact .of_right (intBits_le_64 h1 h2)
theorem op_add : OpR X (binaryOp .Add) (rI0 fun i j => .int (i + j)) := opI0 fun _ _ _ _ _ _ _ q => add_int q
theorem op_mul : OpR X (binaryOp .Mult) (rI CMul fun i j => .int (i * j)) := opI fun _ _ _ _ _ _ _ hc q => mul_int q hc.ok
theorem op_modN : OpR X (binaryOp .Mod) (rI (fun _ j => j ≠ 0) fun i j => .int (i.fmod j)) := opI fun _ _ _ _ _ _ _ hc q => mod_int' hc q
end
section
variable {X : Cx} {a b c : Expr} {ta tb tc : TE} {pos : Pos}
theorem fin_bl {pins : List (Addr × Obj)} {σ : St} {H : Hp} {s : Shared} {Q : VK} {k k' : Bool} (I : Inv X pins σ H s) (q : Q (.bl k) H) (e : k = k') : EP X pins σ Q (.bool k') s := by
 subst e
 exact ⟨.bl k, H, I, rfl, q⟩
theorem op_lt : OpR X (compareOp .Lt) (rI0 fun i j => .bl (decide (i < j))) := opB0 fun _ _ _ _ _ _ _ q => lt_int q
theorem op_gt : OpR X (compareOp .Gt) (rI0 fun i j => .bl (decide (j < i))) := opB0 fun _ _ _ _ _ _ _ q => gt_int q
theorem op_isN : OpR X (compareOp .Is) (fun x y H Q => y = .non /\ Q (.bl (decide (x = .non))) H) := by
 intro pins s σ H x y v u Q I rx ry h
 obtain ⟨rfl, q⟩ := h
 cases ry
 refine is_none_gen (fin_bl I q ?_)
 cases x <;> first
  | (cases rx; rfl)
  | (obtain ⟨t, rfl⟩ := rx; rfl)
theorem op_notN : OpR X (compareOp .IsNot) (fun x y H Q => y = .non /\ Q (.bl (!decide (x = .non))) H) := by
 intro pins s σ H x y v u Q I rx ry h
 obtain ⟨rfl, q⟩ := h
 cases ry
 refine isnot_none_gen (fin_bl I q ?_)
 cases x <;> first
  | (cases rx; rfl)
  | (obtain ⟨t, rfl⟩ := rx; rfl)
theorem OpR.or {f : Value -> Value -> Sem Value} {r r' : R2} (h : OpR X f r) (h' : OpR X f r') : OpR X f (fun x y H Q => r x y H Q \/ r' x y H Q) := by
 intro pins s σ H x y v u Q I rx ry q
 rcases q with q | q
 ·exact h pins s σ H x y v u Q I rx ry q
 ·exact h' pins s σ H x y v u Q I rx ry q
theorem nomark (b : Expr) {op : CmpOp} (h : op ≠ .In := by decide) (h2 : op ≠ .NotIn := by decide) : behindInMarks op b = false := by
 have e1 : (op == CmpOp.In) = false := by cases op <;> first | rfl | exact absurd rfl h
 have e2 : (op == CmpOp.NotIn) = false := by cases op <;> first | rfl | exact absurd rfl h2
 cases b <;> simp [behindInMarks, e1, e2]
theorem pe_cmpR {op : CmpOp} {r : R2} (ho : OpR X (compareOp op) r) (ha : PE X a ta) (hb : PE X b tb) (hm : behindInMarks op b = false) : PE X (.Compare a [op] [b] pos) (tOp r ta tb) := by
 intro pins s σ H Q I h
 exact wpAny_Compare1 (binT ha hb I h fun v u s2 x y H2 I2 rx ry q => ho pins s2 σ H2 x y v u Q I2 rx ry q) hm
def tTest (t : TE) : TT := fun σ H Q => t σ H fun x H' => ∃ k, x = .bl k /\ Q k H'
theorem pt_cmpR {op : CmpOp} {r : R2} (ho : OpR X (compareOp op) r) (ha : PE X a ta) (hb : PE X b tb) (hm : behindInMarks op b = false) : PT X (.Compare a [op] [b] pos) (tTest (tOp r ta tb)) := by
 intro pins s σ H Q I h
 refine wpAny_isTrue_Compare1 (thn (ha pins s σ H _ I h) fun v s1 ⟨x, H1, I1, r1, q1⟩ => thn (hb pins s1 σ H1 _ I1 q1) fun u s2 ⟨y, H2, I2, r2, q2⟩ =>
  thn (ho pins s2 σ H2 x y v u _ I2 r1 r2 q2) fun c s3 ⟨z, H3, I3, r3, k, e, q3⟩ => ?_) hm
 subst e
 cases r3
 exact wpAny_truthy_bool ⟨H3, I3, q3⟩
def TruV (K : PySem.W.Frag) (x : V) (H : Hp) (k : Bool) : Prop :=
 match x with
 | .non => k = false
 | .bl b => k = b
 | .int i => k = (i != 0)
 | .str y => y.length <= sizeLine /\ k = ((y.length : Int) != 0)
 | .byt y => y.size <= sizeLine /\ k = ((y.size : Int) != 0)
 | .ref p => (∃ xs, SqL K H p xs /\ k = !xs.isEmpty) \/ (∃ xs, SqT K H p xs /\ k = !xs.isEmpty) \/ ∃ kvs, H p = some (.dK kvs) /\ k = !kvs.isEmpty
 | _ => False
theorem isEmpty_kv {κ : Type} {kvs : List (κ × V)} {vs : List (κ × Value)} (r : KV kvs vs) : (!vs.isEmpty) = !kvs.isEmpty := by
 cases r <;> rfl
theorem isEmpty_of {xs : List V} {its : List Value} (r : Vals xs its) : (!its.toArray.isEmpty) = !xs.isEmpty := by
 cases r <;> simp
theorem line63 : (sizeLine : Nat) < 2 ^ 63 := by rw [sizeLine_eq]; decide
theorem tru_ok : TruR X (fun x H Q => ∃ k, TruV X.K x H k /\ Q k H) := by
 intro pins s σ H x v Q I rx h
 obtain ⟨k, e, q⟩ := h
 have hl := line63
 have hs : sizeLine = 16777216 := sizeLine_eq
 cases x with
 | non =>
  cases rx
  have e' : k = false := e
  subst e'
  exact truthy_none ⟨H, I, q⟩
 | bl b =>
  cases rx
  have e' : k = b := e
  subst e'
  exact wpAny_truthy_bool ⟨H, I, q⟩
 | int i =>
  obtain ⟨t, rfl⟩ := rx
  have e' : k = (i != 0) := e
  subst e'
  exact PySem.P.truthy_int ⟨H, I, q⟩
 | str y =>
  obtain ⟨t, rfl⟩ := rx
  obtain ⟨hy, e'⟩ : y.length <= sizeLine /\ k = ((y.length : Int) != 0) := e
  subst e'
  exact PySem.P.truthy_str (by omega) ⟨H, I.tok _, q⟩
 | byt y =>
  obtain ⟨t, rfl⟩ := rx
  obtain ⟨hy, e'⟩ : y.size <= sizeLine /\ k = ((y.size : Int) != 0) := e
  subst e'
  exact PySem.W.truthy_bytes (by omega) ⟨H, I.tok _, q⟩
 | ref p =>
  cases rx
  have e' : (∃ xs, SqL X.K H p xs /\ k = !xs.isEmpty) \/ (∃ xs, SqT X.K H p xs /\ k = !xs.isEmpty) \/ ∃ kvs, H p = some (.dK kvs) /\ k = !kvs.isEmpty := e
  rcases e' with ⟨xs, hx, e'⟩ | ⟨xs, hx, e'⟩ | ⟨kvs, hx, e'⟩
  ·subst e'
   obtain ⟨its, r, pl, hz⟩ := I.list hx
   have hlen := r.length
   exact wpAny_truthy_list pl.isList (by simp only [List.size_toArray]; omega) ⟨H, I.tok _, by rw [isEmpty_of r]; exact q⟩
  ·subst e'
   obtain ⟨its, r, pl, hz⟩ := I.tuple hx
   have hlen := r.length
   exact truthy_tuple pl (by simp only [List.size_toArray]; omega) ⟨H, I.tok _, by rw [isEmpty_of r]; exact q⟩
  ·subst e'
   obtain ⟨hz, hS, vs, r, m⟩ : kvs.length <= sizeLine /\ (p == sysModules) = false /\ ∃ vs, KV kvs vs /\ s.heap.DictOf (mixKind X.prog X.w) p vs := I.hok p _ hx
   have hlen : kvs.length = vs.length := Paired.length r
   exact wpAny_truthy_dict hS m (by omega) ⟨H, I.tok _, by rw [isEmpty_kv r]; exact q⟩
 | _ => exact (show False from e).elim
theorem pt_truth (ha : PE X a ta) (he : ∀ whole, isTrue a X.env whole = (do let v <- whole; standAt a.pos; holding [v] (truthy v))) :
  PT X a (fun σ H Q => ta σ H fun x H' => ∃ k, TruV X.K x H' k /\ Q k H') := by
 intro pins s σ H Q I h
 exact isTrue_plain (thn (ha pins s σ H _ I h) fun v s1 ⟨x, H1, I1, r1, q1⟩ => tru_ok pins s1 σ H1 x v Q I1 r1 q1) (he _)
theorem op_add_str : OpR X (binaryOp .Add) (fun x y H Q => ∃ i j, x = .str i /\ y = .str j /\ i.length + j.length <= sizeLine /\ Q (.str (i ++ j)) H) := by
 intro pins s σ H x y v u Q I rx ry h
 obtain ⟨i, j, rfl, rfl, hz, q⟩ := h
 obtain ⟨t, rfl⟩ := rx
 obtain ⟨t', rfl⟩ := ry
 exact add_str (fun t' tk => ⟨.str (i ++ j), H, I.tok _, ⟨_, rfl⟩, q⟩) hz
theorem vals1 {x : V} {us : List Value} (r : Vals [x] us) : ∃ u, us = [u] /\ RelV x u := by
 cases r with
 | cons r1 r2 => cases r2; exact ⟨_, rfl, r1⟩
end
def putF (f : Str) (v : V) : List (Str × V) -> List (Str × V)
 | [] => [(f, v)]
 | (g, x) :: r => if g = f then (g, v) :: r else (g, x) :: putF f v r
theorem RelO.some_of {v : V} {o : Option Value} (r : RelO (some v) o) : ∃ u, o = some u /\ RelV v u := by
 cases o with
 | none => exact (show False from r).elim
 | some u => exact ⟨u, rfl, r⟩
structure Cls (K : PySem.W.Frag) (C : Addr) : Prop where
 pg : PySem.W.plainGet K C Str.empty = true
 hd : PySem.W.hasDictIn K C = true
 po : PySem.W.plainOver K C = true
 sa : PySem.W.findIn K (.ref C) "__setattr__" = some (some (.builtin "object.__setattr__"))
theorem Cls.get {K : PySem.W.Frag} {C : Addr} (c : Cls K C) (f : Str) : PySem.W.plainGet K C f = true := c.pg
structure Room (k : Nat) (A : Around) : Prop where
 hd : A.handled = none
 dp : A.depth + 3 * k + 5 < recursionLimit
 un : A.units + 16 * k + 200 < cLine
theorem Room.mono {j k : Nat} {A : Around} (r : Room k A) (h : j <= k) : Room j A := ⟨r.hd, by have := r.dp; omega, by have := r.un; omega⟩
theorem Room.deeper {k : Nat} {A : Around} (r : Room (k + 1) A) (env : Env) : Room k (A.deeper env) :=
 ⟨r.hd, by have := r.dp; show A.depth + 1 + 3 * k + 5 < _; omega, by have := r.un; show A.units + 3 + 16 * k + 200 < _; omega⟩
theorem Room.in1 {k : Nat} {A : Around} (r : Room (k + 1) A) : Room k A.in1 :=
 ⟨r.hd, by have := r.dp; show A.depth + 3 * k + 5 < _; omega, by have := r.un; show A.units + 1 + 16 * k + 200 < _; omega⟩
theorem Room.depth {k : Nat} {A : Around} (r : Room k A) : A.depth < recursionLimit := by have := r.dp; omega
theorem Room.units {k : Nat} {A : Around} (r : Room k A) : A.units + 64 < cLine := by have := r.un; omega
def tNil : TA := fun _ H Q => Q [] H
def tCons (ta : TE) (tr : TA) : TA := fun σ H Q => ta σ H fun x H1 => tr σ H1 fun xs H2 => Q (x :: xs) H2
section
variable {X : Cx} {e : Expr} {es : List Expr} {te : TE} {t : TA} {pos : Pos}
theorem pa_nil : PA X [] tNil := fun _ _ _ _ H Q I h => Calls.spliced_nil ⟨[], H, I, .nil, h⟩
theorem pa_cons (ha : PE X e te) (hr : PA X es t) (hs : starEach (e :: es) X.env = (false, eval e X.env) :: starEach es X.env := by rfl) : PA X (e :: es) (tCons te t) := by
 intro pos pins s σ H Q I h
 rw [hs]
 show wpAny _ _ (spliced ((false, eval e X.env) :: backTo pos (starEach es X.env))) _ _ s
 refine Calls.spliced_cons (thn (ha pins s σ H _ I h) fun u s1 ⟨x, H1, I1, r1, q1⟩ => ?_)
 exact thn (hr pos pins s1 σ H1 _ I1 q1) fun us s2 ⟨xs, H2, I2, r2, q2⟩ => ⟨x :: xs, H2, I2, .cons r1 r2, q2⟩
def tTup (t : TA) : TE := fun σ H Q => t σ H fun xs H1 => xs.length <= sizeLine /\ ∀ p, H1 p = none -> Q (.ref p) (upd H1 p (.tup xs))
def tLst (t : TA) : TE := fun σ H Q => t σ H fun xs H1 => xs.length <= sizeLine /\ ∀ p, H1 p = none -> Q (.ref p) (upd H1 p (.lst xs))
theorem pe_tup {x1} (h : PA X es t) : PE X (.Tuple es x1 pos) (tTup t) := by
 intro pins s σ H Q I hq
 refine wpAny_Tuple_spliced (thn (h pos pins s σ H _ I hq) fun us s1 ⟨xs, H1, I1, r, z, q⟩ => ⟨by rw [<- r.length]; exact z, ?_⟩)
 have hf : H1 s1.heap.objs.size = none := I1.hok.fresh (Nat.le_refl _)
 refine ⟨.ref s1.heap.objs.size, upd H1 s1.heap.objs.size (.tup xs), I1.laid (t' := s1.toks) (fun b u e => Heap.get?_push_of_some _ e) (Nat.le_refl _) ?_, rfl, q _ hf⟩
 exact ⟨z, us, r, ⟨_, Heap.get?_push_size _ rfl, rfl, _, rfl⟩⟩
theorem pe_lst (h : PA X es t) : PE X (.List es pos) (tLst t) := by
 intro pins s σ H Q I hq
 refine wpAny_List_spliced (thn (h pos pins s σ H _ I hq) fun us s1 ⟨xs, H1, I1, r, z, q⟩ => ⟨by rw [<- r.length]; exact z, ?_⟩)
 have hf : H1 s1.heap.objs.size = none := I1.hok.fresh (Nat.le_refl _)
 refine ⟨.ref s1.heap.objs.size, upd H1 s1.heap.objs.size (.lst xs), I1.laid (t' := s1.toks) (fun b u e => Heap.get?_push_of_some _ e) (Nat.le_refl _) ?_, rfl, q _ hf⟩
 exact ⟨z, us, 0, r, Heap.get?_push_size _ rfl⟩
end
abbrev Sp := List V -> Hp -> VK -> XK -> Prop
abbrev CXT := List Env -> Hp -> Shared -> XK -> Value -> Shared -> Prop
structure Env0 (P : Program) (w : World) (K : PySem.W.Frag) (mg : Str -> Option Value) (base : Heap) (A : Around) (outer : List Env) (s : Shared) (H : Hp) : Prop where
 frames : A.frames = some outer
 mod : Mod K mg base
 bs : ∀ b o, base.get? b = some o -> s.heap.get? b = some o /\ H b = none
 bsz : base.objs.size <= s.heap.objs.size
 funs : s.heap.FunFrames base outer
 frf : ∀ b ∈ frs outer, H b = none
 hok : HOk P w H s.heap
 bare : AllBare s.gens
def CE (outer : List Env) (P : Program) (w : World) (H : Hp) (s : Shared) (Q : VK) (u : Value) (s' : Shared) : Prop :=
 ∃ v H', s'.os = s.os /\ AllBare s'.gens /\ Un (frs outer) [] H H' s.heap s'.heap /\ HOk P w H' s'.heap /\ RelV v u /\ Q v H'
def CR (CX : CXT) (outer : List Env) (P : Program) (w : World) (H : Hp) (s : Shared) (Q : VK) (E : XK) (r : Result) (s' : Shared) : Prop :=
 match r with
 | .ok (.ret u) => CE outer P w H s Q u s'
 | .ok _ => False
 | .error e => CX outer H s E e s'
structure FnOk (P : Program) (w : World) (K : PySem.W.Frag) (mg : Str -> Option Value) (base : Heap) (CX : CXT) (k : Nat) (f : Addr) (fd : FuncData) (ps : List Str) (sp : Sp) : Prop where
 len : ∀ vs H Q E, sp vs H Q E -> vs.length = ps.length
 run : ∀ (A : Around) (outer : List Env) (s : Shared) (H : Hp) (args : Args) (us : List Value) (vs : List V) (Q : VK) (E : XK), Room k A -> Env0 P w K mg base A outer s H -> BindsTo s fd args (ps.zip us) -> Vals vs us -> sp vs H Q E →
  codeAny (model P w) A (.call (.ref f) args) (CR CX outer P w H s Q E) s
theorem FnOk.mono {P : Program} {w : World} {K : PySem.W.Frag} {mg : Str -> Option Value} {base : Heap} {CX : CXT} {j k : Nat} {f : Addr} {fd : FuncData} {ps : List Str} {sp : Sp} (F : FnOk P w K mg base CX j f fd ps sp) (h : j <= k) :
  FnOk P w K mg base CX k f fd ps sp := ⟨F.len, fun A outer s H args us vs Q E hr => F.run A outer s H args us vs Q E (hr.mono h)⟩
theorem FnOk.imp {P : Program} {w : World} {K : PySem.W.Frag} {mg : Str -> Option Value} {base : Heap} {CX : CXT} {k : Nat} {f : Addr} {fd : FuncData} {ps : List Str} {sp sp' : Sp} (F : FnOk P w K mg base CX k f fd ps sp)
  (h : ∀ vs H Q E, sp' vs H Q E -> sp vs H Q E) : FnOk P w K mg base CX k f fd ps sp' :=
 ⟨fun vs H Q E q => F.len vs H Q E (h _ _ _ _ q), fun A outer s H args us vs Q E hr he hb hv hs => F.run A outer s H args us vs Q E hr he hb hv (h _ _ _ _ hs)⟩
theorem Env0.in1 {P : Program} {w : World} {K : PySem.W.Frag} {mg : Str -> Option Value} {base : Heap} {A : Around} {outer : List Env} {s : Shared} {H : Hp} (e : Env0 P w K mg base A outer s H) :
  Env0 P w K mg base A.in1 outer s H := ⟨e.frames, e.mod, e.bs, e.bsz, e.funs, e.frf, e.hok, e.bare⟩
section
variable {X : Cx} {pins : List (Addr × Obj)} {σ : St} {H : Hp} {s s' : Shared}
theorem Inv.env0 (I : Inv X pins σ H s) : Env0 X.prog X.w X.K X.mg X.base X.A X.stack s H :=
 ⟨I.ok.frames, I.ok.mod, I.bs, Nat.le_trans I.ok.bsz I.sz, I.stack, I.stkFree, I.hok, I.bare⟩
theorem Inv.after {Q : VK} {u : Value} (I : Inv X pins σ H s) (h : CE X.stack X.prog X.w H s Q u s') : EP X pins σ Q u s' := by
 obtain ⟨v, H', os, bare, un, hok, r, q⟩ := h
 obtain ⟨hh, g, d, t, os'⟩ := s'
 obtain rfl : os' = s.os := os
 exact ⟨v, H', I.call (h' := hh) (g' := g) (d' := d) (t' := t) (ch := []) un hok bare (fun b z => absurd z (by simp)), r, q⟩
end
def Binds (K : PySem.W.Frag) (fd : FuncData) (ps : List Str) (ds : List Value) : Prop :=
 ∀ (s : Shared) (us : List Value), K.In s.heap -> (us ++ ds).length = ps.length -> BindsTo s fd ⟨us, []⟩ (ps.zip (us ++ ds))
theorem Binds.all {K : PySem.W.Frag} {fd : FuncData} {ps : List Str} (h : ∀ us : List Value, us.length = ps.length -> bindArgs fd ⟨us, []⟩ = pure (ps.zip us)) : Binds K fd ps [] := fun s us _ hl => by
 rw [List.append_nil] at hl ⊢
 exact .of_eq (h us hl)
section
variable {X : Cx} {CX : CXT} {k : Nat} {f C : Addr} {fd : FuncData} {ps : List Str} {sp : Sp} {dvs : List V} {ds : List Value} {E : XK} {x m : Str} {p pos apos : Pos} {e o : Expr} {es : List Expr} {ta : TE} {t : TA}
structure Mk (K : PySem.W.Frag) (C f : Addr) : Prop where
 makes : PySem.W.makesIn K C = true
 init : PySem.W.findIn K (.ref C) "__init__" = some (some (.ref f))
 fn : PySem.W.isFn K (.ref f) = true
 kp : PySem.W.keepIn K (.ref C) = true
end
structure FnScope (N P : List Str) (sc : Scope) : Prop where
 kind : sc.kind = .function
 co : sc.isCoroutine = false
 gen : sc.isGenerator = false
 nd : N.Nodup
 pre : N.take P.length = P
 par : ∀ x ∈ P, sc.names.lookup x = some .local \/ sc.names.lookup x = some .cell
 nofree : ∀ y ∈ sc.names, y.2 ≠ .free
theorem bindL_out {kindOf : Str -> Option NameKind} {x : Str} : ∀ {binds : List (Str × Value)} {m : Str -> Option Value}, (∀ v, (x, v) ∉ binds) -> bindL kindOf binds m x = m x
 | [], _, _ => rfl
 | (n, v) :: r, m, h => by
  unfold bindL
  rw [bindL_out fun w hw => h w (List.mem_cons_of_mem _ hw)]
  split
  ·have : x ≠ n := by rintro rfl; exact h v List.mem_cons_self
   simp [this]
  ·rfl
theorem bindC_out {kindOf : Str -> Option NameKind} {x : Str} : ∀ {binds : List (Str × Value)} {m : Str -> Option Value}, (∀ v, (x, v) ∉ binds) -> bindC kindOf binds m x = m x
 | [], _, _ => rfl
 | (n, v) :: r, m, h => by
  unfold bindC
  rw [bindC_out fun w hw => h w (List.mem_cons_of_mem _ hw)]
  split
  ·rfl
  ·have : x ≠ n := by rintro rfl; exact h v List.mem_cons_self
   simp [this]
theorem bindL_get {kindOf : Str -> Option NameKind} {x : Str} {v : Value} : ∀ {P : List Str} {vs : List Value} {i : Nat} {m : Str -> Option Value}, P.Nodup -> P[i]? = some x -> vs[i]? = some v -> kindOf x = some .local →
  bindL kindOf (P.zip vs) m x = some v
 | [], _, _, _, _, h, _, _ => by simp at h
 | _ :: _, [], _, _, _, _, h, _ => by simp at h
 | p :: P, w :: vs, 0, m, nd, h1, h2, hk => by
  simp at h1 h2; subst h1; subst h2
  show bindL kindOf ((p, w) :: P.zip vs) m p = _
  unfold bindL
  rw [bindL_out fun v hv => (List.nodup_cons.mp nd).1 (List.of_mem_zip hv).1, if_pos hk]
  simp
 | p :: P, w :: vs, i + 1, m, nd, h1, h2, hk => by
  show bindL kindOf ((p, w) :: P.zip vs) m x = _
  unfold bindL
  exact bindL_get (i := i) (List.nodup_cons.mp nd).2 (by simpa using h1) (by simpa using h2) hk
theorem bindC_get {kindOf : Str -> Option NameKind} {x : Str} {v : Value} : ∀ {P : List Str} {vs : List Value} {i : Nat} {m : Str -> Option Value}, P.Nodup -> P[i]? = some x -> vs[i]? = some v -> kindOf x ≠ some .local →
  bindC kindOf (P.zip vs) m x = some v
 | [], _, _, _, _, h, _, _ => by simp at h
 | _ :: _, [], _, _, _, _, h, _ => by simp at h
 | p :: P, w :: vs, 0, m, nd, h1, h2, hk => by
  simp at h1 h2; subst h1; subst h2
  show bindC kindOf ((p, w) :: P.zip vs) m p = _
  unfold bindC
  rw [bindC_out fun v hv => (List.nodup_cons.mp nd).1 (List.of_mem_zip hv).1, if_neg hk]
  simp
 | p :: P, w :: vs, i + 1, m, nd, h1, h2, hk => by
  show bindC kindOf ((p, w) :: P.zip vs) m x = _
  unfold bindC
  exact bindC_get (i := i) (List.nodup_cons.mp nd).2 (by simpa using h1) (by simpa using h2) hk
def start (N : List Str) (vs : List V) : St := vs.map some ++ List.replicate (N.length - vs.length) none
def cxOf (CX : CXT) (P : Program) (w : World) (K : PySem.W.Frag) (mg : Str -> Option Value) (base : Heap) (N : List Str) (qual : Str) (scope : Scope) (f : Addr) (cd : Value) (A : Around) (outer : List Env) (s : Shared) (H : Hp) (E : XK) : Cx where
 prog := P
 w := w
 K := K
 mg := mg
 base := base
 A := A.deeper (envOfC qual scope s.heap.objs.size f cd)
 N := N
 s₀ := s
 H₀ := H
 env := envOfC qual scope s.heap.objs.size f cd
 outer := outer
 stack := envOfC qual scope s.heap.objs.size f cd :: outer
 ex := []
 calm := true
 fn := fun _ => true
 pn := []
 xe := fun e s' => wpAny (model P w) (A.deeper (envOfC qual scope s.heap.objs.size f cd)) (leaving (envOfC qual scope s.heap.objs.size f cd) e) (fun _ s'' => CX outer H s E e s'') (fun e' s'' => CX outer H s E e' s'') s'
theorem cell_has {sc : Scope} {n : Nat} {x : Str} (h : sc.names.lookup x = some .cell) : ∃ c, (cellsFrom n sc.names []).lookup x = some c := by
 have q := PySem.W.cellsFrom_some sc.names n [] (.inl h)
 exact Option.isSome_iff_exists.mp q
theorem inv_start {CX : CXT} {P : Program} {w : World} {K : PySem.W.Frag} {mg : Str -> Option Value} {base : Heap} {N ps : List Str} {qual : Str} {scope : Scope} {f : Addr} {cd : Value} {A : Around} {outer : List Env} {s s1 : Shared} {H : Hp} {E : XK} {us : List Value} {vs : List V}
  (S : FnScope N ps scope) (hd : A.handled = none) (e0 : Env0 P w K mg base A outer s H) (hl : vs.length = ps.length) (r : Vals vs us)
  (x : InCallC s s.heap.objs.size (bindL (envOfC qual scope s.heap.objs.size f cd).kindOf (ps.zip us) fun _ => none) (cellsFrom (s.heap.objs.size + 1) scope.names []) (bindC (envOfC qual scope s.heap.objs.size f cd).kindOf (ps.zip us) fun _ => none) s1) :
  Inv (cxOf CX P w K mg base N qual scope f cd A outer s H E) [] (start N vs) H s1 := by
 have hpl : ps.length <= N.length := by have := congrArg List.length S.pre; rw [List.length_take] at this; omega
 obtain ⟨h1, tk, rfl, hk⟩ := x.done
 have noA : ∀ b : Addr, b ∉ (cxOf CX P w K mg base N qual scope f cd A outer s H E).ex := fun b z => absurd (show b ∈ ([] : List Addr) from z) (by simp)
 refine ⟨⟨e0.mod, S.kind, rfl, rfl, Nat.le_refl _, fun y z c h1 h2 => ?_, fun y hy => ?_, fun y c _ h => ?_, fun _ => hd, Around.frames_deeper e0.frames, .inr ⟨rfl, rfl⟩, fun b z => absurd z (noA b), e0.bs, e0.bsz, fun b _ _ => noA b, fun b z => absurd z (noA b), e0.funs, e0.frf⟩,
  rfl, e0.bare, Un.kept hk, ⟨_, x.toInCall.ns, fun i y v h1 h2 h3 => ?_⟩, fun y c h => ⟨_, x.cell y c h⟩, e0.hok.fresh (Nat.le_refl _), fun y c h => ?_, fun p hp => absurd (show p ∈ ([] : List (Addr × Obj)) from hp) (by simp), e0.hok.kept hk, ?_⟩
 ·exact name_of_addr x.apart (PySem.mem_of_lookup h1) (PySem.mem_of_lookup h2)
 ·have hy : scope.names.lookup y = some .cell \/ scope.names.lookup y = some .free := hy
  rcases hy with hy | hy
  ·exact cell_has hy
  ·exact absurd rfl (S.nofree _ (PySem.mem_of_lookup hy))
 ·exact Nat.le_of_lt (x.above y c (PySem.mem_of_lookup h))
 ·have hi : i < vs.length := by
   unfold start at h2
   by_cases hi : i < vs.length
   ·exact hi
   ·rw [List.getElem?_append_right (by simpa using hi)] at h2
    rw [List.getElem?_replicate] at h2
    split at h2 <;> cases h2
  have ha : vs[i]? = some v := by
   unfold start at h2
   rw [List.getElem?_append_left (by simpa using hi), List.getElem?_map] at h2
   cases e : vs[i]? with
   | none => rw [e] at h2; cases h2
   | some a => rw [e] at h2; cases h2; rfl
  obtain ⟨u, hu, rv⟩ := r.get ha
  have hp : ps[i]? = some y := by
   rw [<- S.pre, List.getElem?_take_of_lt (by omega)]; exact h1
  have ndP : ps.Nodup := by rw [<- S.pre]; exact S.nd.sublist (List.take_sublist _ _)
  refine ⟨u, rv, ?_⟩
  rcases S.par y (List.mem_of_getElem? hp) with k | k
  ·exact .inl ⟨k, bindL_get ndP hp hu k⟩
  ·obtain ⟨c, e⟩ := cell_has (n := s.heap.objs.size + 1) k
   refine .inr ⟨.inl k, c, e, ?_⟩
   have q := x.cell y c e
   rw [bindC_get ndP hp hu (by show scope.names.lookup y ≠ _; rw [k]; decide)] at q
   exact q
 ·have z := e0.hok.fresh (Nat.le_of_lt (x.above y c (PySem.mem_of_lookup h)))
  exact ⟨fun _ => z, .inl z⟩
 ·unfold start
  show _ = N.length
  rw [List.length_append, List.length_map, List.length_replicate]
  omega
theorem fn_of {CX : CXT} {P : Program} {w : World} {K : PySem.W.Frag} {mg : Str -> Option Value} {base : Heap} {k : Nat} {f : Addr} {name qual : Str} {params : Arguments} {body : List Stmt} {scope : Scope} {dV kV doc pm cdv ct oc : Value} {an od : Option Addr}
  {osl : Array (Option Value)} {N ps : List Str} {sp : Sp} (lk : K.lookup f = some ⟨oc, od, .func (PySem.W.fnOf name qual params body scope dV kV doc pm an cdv ct), osl⟩) (hcd : PySem.W.codeIn K cdv qual = true) (S : FnScope N ps scope)
  (len : ∀ vs H Q E, sp vs H Q E -> vs.length = ps.length)
  (hbody : ∀ (A : Around) (outer : List Env) (s : Shared) (H : Hp) (vs : List V) (Q : VK) (E : XK), Room k (A.deeper (envOfC qual scope s.heap.objs.size f cdv)) -> sp vs H Q E →
   ∃ t, PSs (cxOf CX P w K mg base N qual scope f cdv A outer s H E) body t /\ t { nx := fun _ H' => Q .non H', rt := Q } (start N vs) H) :
  FnOk P w K mg base CX (k + 1) f (PySem.W.fnOf name qual params body scope dV kV doc pm an cdv ct) ps sp := by
 refine ⟨len, fun A outer s H args us vs Q E hr e0 hb r hsp => ?_⟩
 have hl := len _ _ _ _ hsp
 have KX : K.In s.heap := e0.mod.kin.keeps fun b o e => (e0.bs b o e).1
 have lim : s.heap.NoLimit := e0.mod.nolimit.keeps fun b o e => (e0.bs b o e).1
 have hkind : ∀ y ∈ ps.zip us, scope.names.lookup y.1 = some .local \/ (scope.names.lookup y.1 = some .cell /\ ((cellsFrom (s.heap.objs.size + 1) scope.names []).lookup y.1).isSome = true) := fun ⟨n, v⟩ hy => by
  rcases S.par n (List.of_mem_zip hy).1 with q | q
  ·exact .inl q
  ·exact .inr ⟨q, PySem.W.cellsFrom_some _ _ _ (.inl q)⟩
 refine codeAny_call_function hr.depth (KX _ _ lk) rfl S.co S.gen rfl (PySem.W.codeRec_of KX hcd) (hb _ _ _ _ ?_)
 refine wpAny_newFunctionEnv_cells S.kind hkind fun env he s1 x => ?_
 subst he
 refine ⟨lim.keeps x.toInCall.keep, codeAny_func ?_⟩
 obtain ⟨t, ht, hq⟩ := hbody A outer s H vs Q E (hr.deeper _) hsp
 have I : Inv (cxOf CX P w K mg base N qual scope f cdv A outer s H E) [] (start N vs) H s1 := inv_start S hr.hd e0 hl r x
 refine wpAny_mono (ht [] s1 (start N vs) H _ I hq) (fun fl s' hs => ?_) fun e s' hs => hs
 have fin : ∀ {σ' : St} {H' : Hp} {v : V} {u : Value}, Inv (cxOf CX P w K mg base N qual scope f cdv A outer s H E) [] σ' H' s' -> RelV v u -> Q v H' -> CE outer P w H s Q u s' :=
  fun {σ' H' v u} J rv q => ⟨v, H', J.os, J.bare, J.base, J.hok, rv, q⟩
 cases fl with
 | ret u =>
  obtain ⟨v, σ', H', J, rv, q⟩ := hs
  exact fin J rv q
 | next =>
  obtain ⟨σ', H', J, q⟩ := hs
  exact fin (v := V.non) (u := Value.none) J rfl q
 | brk =>
  obtain ⟨_, _, _, q⟩ := hs
  exact False.elim q
 | cont =>
  obtain ⟨_, _, _, q⟩ := hs
  exact False.elim q
section
variable {X : Cx} {x : Str} {p pos : Pos} {e : Expr} {es : List Expr} {t : TA} {id T : String} {r : List V -> Hp -> VK -> Prop}
def tCB (r : List V -> Hp -> VK -> Prop) (t : TA) : TE := fun σ H Q => t σ H fun vs H1 => r vs H1 Q
theorem pe_callB (hc : CallR X (.builtin id) r) (hg : Gl X x) (hm : X.mg x = none) (hv : bootBuiltins x = some (.builtin id)) (ha : PA X (e :: es) t) (hn : x ≠ "__name__" := by decide) (hdb : (x == ("__debug__" : Str)) = false := by decide)
  (he : starEach (e :: es) X.env = (false, eval e X.env) :: starEach es X.env := by rfl) (hpl : (backTo pos (starEach es X.env)).any (·.1) = false := by rfl) : PE X (.Call (.Name x p) (e :: es) [] pos) (tCB r t) := by
 intro pins s σ H Q I h
 refine wpAny_Call_Name_kw (ld_blt I hg hm hv ?_ hn hdb)
 exact PyProof.Rows.callWith_builtin1 (thn (ha pos pins s σ H _ I h) fun us s1 ⟨vs, H1, I1, r1, q1⟩ => hc pins s1 σ H1 vs us Q I1 r1 q1) he hpl
theorem pe_callTy (hc : CallR X (.type T) r) (hg : Gl X x) (hm : X.mg x = none) (hv : bootBuiltins x = some (.type T)) (ha : PA X (e :: es) t) (hn : x ≠ "__name__" := by decide) (hdb : (x == ("__debug__" : Str)) = false := by decide)
  (he : starEach (e :: es) X.env = (false, eval e X.env) :: starEach es X.env := by rfl) (hpl : (backTo pos (starEach es X.env)).any (·.1) = false := by rfl) : PE X (.Call (.Name x p) (e :: es) [] pos) (tCB r t) := by
 intro pins s σ H Q I h
 refine wpAny_Call_Name_kw (ld_blt I hg hm hv ?_ hn hdb)
 exact PyProof.Rows.callWith_type1 (thn (ha pos pins s σ H _ I h) fun us s1 ⟨vs, H1, I1, r1, q1⟩ => hc pins s1 σ H1 vs us Q I1 r1 q1) he hpl
end
end L2
namespace HT
open PySem PyProof.Rows
section
open PySem.SeqAt
open PySem.AutoSeq1 (wpAny_loadPart')
open PySem.MeetsSeq PySem.MeetsSeq2 PySem.MeetsSeq3
end
section
variable {prog : Program} {w : World} {A : Around} {E : Value -> Shared -> Prop} {s : Shared}
theorem cat_tup {t b : Addr} {vs ws : List Value} {Q : Value -> Shared -> Prop} (ht : IsTup s.heap t vs.toArray) (hb : IsTup s.heap b ws.toArray) (hv : vs ≠ [])
  (h1 : ws = [] -> Q (.ref t) s) (h2 : ws ≠ [] -> Q (.ref s.heap.objs.size) { s with heap := s.heap.push { cls := .type "tuple", data := .seq (vs ++ ws).toArray } })
  (hsz : vs.length + ws.length <= sizeLine) : wpAny (model prog w) A (binaryOp .Add (.ref t) (.ref b)) Q E s := by
 obtain ⟨⟨cls, dd, data, sl⟩, ho, hc, n, hd⟩ := id ht
 obtain ⟨⟨cls2, dd2, data2, sl2⟩, ho2, hc2, n2, hd2⟩ := id hb
 simp only at hc hd hc2 hd2
 subst hc hd hc2 hd2
 have e : vs.toArray ++ ws.toArray = (vs ++ ws).toArray := by simp
 by_cases hw : ws = []
 ·exact concat_meets ⟨_, ho, rfl⟩ ⟨_, ho2, rfl⟩ noFill_tuple_add seq_tuple_add PySem.F.slot_tuple_add PySem.F.entry_tuple_add (PySem.F.args_tuple_add_2 _ _)
   (tuple_addW1 t b vs.toArray ws.toArray n n2 dd dd2 sl sl2 (by simpa using hv) (by simp [hw])) ⟨ho, ho2, h1 hw⟩
 ·refine concat_meets ⟨_, ho, rfl⟩ ⟨_, ho2, rfl⟩ noFill_tuple_add seq_tuple_add PySem.F.slot_tuple_add PySem.F.entry_tuple_add (PySem.F.args_tuple_add_2 _ _)
   (tuple_addW2 t b vs.toArray ws.toArray n n2 dd dd2 sl sl2 (by simpa using hv) (by simpa using hw) (by rw [List.size_toArray, List.size_toArray]; exact hsz)) ⟨ho, ho2, ?_⟩
  rw [e]
  exact h2 hw
def sIx (n d : Nat) : Option Int -> Nat
 | none => d
 | some v => if v < 0 then (v + (n : Int)).toNat else min v.toNat n
theorem sIx_le (n d : Nat) (hd : d <= n) (o : Option Int) : sIx n d o <= n := by
 cases o with
 | none => exact hd
 | some v =>
  show (if v < 0 then (v + (n : Int)).toNat else min v.toNat n) <= n
  by_cases hv : v < 0
  ·rw [if_pos hv]; omega
  ·rw [if_neg hv]; exact Nat.min_le_right _ _
theorem clip_eq (v : Int) (n d : Nat) : (if v < 0 then max (v + (n : Int)) 0 else min v (n : Int)) = ((sIx n d (some v) : Nat) : Int) := by
 show (if v < 0 then max (v + (n : Int)) 0 else min v (n : Int)) = (((if v < 0 then (v + (n : Int)).toNat else min v.toNat n) : Nat) : Int)
 by_cases hv : v < 0
 ·simp only [if_pos hv]; omega
 ·simp only [if_neg hv]; omega
theorem adjust_gen (lo hi : Option Int) (n : Nat) : Builtin.Slice.sliceAdjust lo hi 1 (n : Int) = (((sIx n 0 lo : Nat) : Int), ((sIx n n hi : Nat) : Int)) := by
 have h1 : ¬ ((1 : Int) < 0) := by omega
 unfold Builtin.Slice.sliceAdjust
 simp only [h1, if_false]
 refine Prod.ext ?_ ?_
 ·cases lo with
  | none => rfl
  | some v => exact clip_eq v n 0
 ·cases hi with
  | none => rfl
  | some v => exact clip_eq v n n
theorem places_gen (i j : Nat) : Builtin.Slice.slicePlaces (i : Int) (j : Int) 1 = j - i := by
 unfold Builtin.Slice.slicePlaces
 have h1 : (1 : Int) > 0 := by omega
 simp only [h1, if_true, Int.ediv_one]
 split <;> omega
theorem slicePart_ {v : Value} {o : Option Int} {Q : Option Int -> Shared -> Prop} (p : IsPart v o) (h : Q o s) : wpAny (model prog w) A (Builtin.Slice.slicePartIndex v) Q E s := by
 cases p with
 | none => exact slicePart_none h
 | int i t => exact slicePart_int h
theorem sliceApplied_gen {sl : Addr} {vl vu : Value} {lo hi : Option Int} {n : Nat} {Q : Int × Int × Nat -> Shared -> Prop} (hs : s.heap.IsSliceOf sl vl vu .none) (pl : IsPart vl lo) (pu : IsPart vu hi)
  (h : Q (((sIx n 0 lo : Nat) : Int), 1, sIx n n hi - sIx n 0 lo) s) : wpAny (model prog w) A (Builtin.Slice.sliceApplied (.ref sl) (pure (n : Int))) Q E s := by
 obtain ⟨os, hos, hcs, hds⟩ := id hs
 unfold Builtin.Slice.sliceApplied Builtin.Slice.sliceFields
 refine wpAny_bind (wpAny_bind (wpAny_field hos hds (x := vl) rfl (wpAny_bind (wpAny_field hos hds (x := vu) rfl (wpAny_bind (wpAny_field hos hds (x := .none) rfl (wpAny_pure ?_)))))))
 refine wpAny_bind (slicePart_none ?_)
 show wpAny _ _ (if ((1 : Int) == 0) = true then _ else _) _ _ s
 rw [if_neg (by decide)]
 refine wpAny_bind (slicePart_ pl (wpAny_bind (slicePart_ pu (wpAny_bind (wpAny_pure ?_)))))
 show wpAny _ _ (match Builtin.Slice.sliceAdjust lo hi 1 (n : Int) with | (lo, hi) => pure (lo, (1 : Int), Builtin.Slice.slicePlaces lo hi 1)) _ _ s
 rw [adjust_gen lo hi n]
 show wpAny _ _ (pure (((sIx n 0 lo : Nat) : Int), (1 : Int), Builtin.Slice.slicePlaces ((sIx n 0 lo : Nat) : Int) ((sIx n n hi : Nat) : Int) 1)) _ _ s
 rw [places_gen]
 exact wpAny_pure h
theorem pick_gen (xs : Array Value) (i k : Nat) : ((List.range k).filterMap fun (m : Nat) => xs[((i : Int) + (m : Int) * 1).toNat]?).toArray = ((xs.toList.drop i).take k).toArray := by
 have e : (fun (m : Nat) => xs[((i : Int) + (m : Int) * 1).toNat]?) = fun m => xs[i + m]? := by
  funext m
  have : ((i : Int) + (m : Int) * 1).toNat = i + m := by omega
  rw [this]
 rw [e]
 have := pick_run xs i k
 rw [List.filterMap_map] at this
 have e2 : ((fun x => xs[x]?) ∘ fun x => i + x) = fun m => xs[i + m]? := rfl
 rw [e2] at this
 rw [this]
theorem getItem_tuple_cut {t sl : Addr} {items : Array Value} {vl vu : Value} {lo hi : Option Int} {Q : Value -> Shared -> Prop} (ht : IsTup s.heap t items) (hs : s.heap.IsSliceOf sl vl vu .none) (pl : IsPart vl lo) (pu : IsPart vu hi)
  (hw : ¬ (sIx items.size 0 lo = 0 /\ sIx items.size items.size hi = items.size))
  (h : Q (.ref s.heap.objs.size) { s with heap := s.heap.push { cls := .type "tuple", data := .seq ((items.toList.drop (sIx items.size 0 lo)).take (sIx items.size items.size hi - sIx items.size 0 lo)).toArray } })
  (hsz : items.size <= sizeLine) : wpAny (model prog w) A (getItem (.ref t) (.ref sl)) Q E s := by
 have htake : sizeOk (.seq ((items.toList.drop (sIx items.size 0 lo)).take (sIx items.size items.size hi - sIx items.size 0 lo)).toArray) := by
  show ((items.toList.drop (sIx items.size 0 lo)).take (sIx items.size items.size hi - sIx items.size 0 lo)).toArray.size <= sizeLine
  rw [List.size_toArray, List.length_take, List.length_drop, Array.length_toList]
  omega
 have hj : sIx items.size items.size hi <= items.size := sIx_le _ _ (Nat.le_refl _) hi
 obtain ⟨os, hos, hcs, hds⟩ := id hs
 have hTs : s.TypeIs (.ref sl) "slice" := ⟨os, hos, hcs⟩
 unfold getItem
 try with_reducible refine wpAny_holding ?_
 first | refine wpAny_bind (wpAny_pure ?_) | skip
 refine wpAny_bind (wpAny_sequenceKey ht.typeIs (by decide) ?_)
 refine wpAny_bind (wpAny_callSpecial?_slot (name := Str.ofString "__getitem__") ht.typeIs PyProof.Rows.slot_tuple_getitem
  (wpAny_call_entry PyProof.Rows.slot_tuple_getitem ht.typeIs entry_tuple_getitem ?_ (args_tuple_getitem _ _)))
 show wpAny _ _ (Builtin.Tuple.tupleItemsOf (.ref t) >>= _) _ _ s
 refine wpAny_bind (tupleItemsOf_ ht ?_)
 refine wpAny_bind (wpAny_typeOf hTs ?_)
 rw [if_pos (by decide)]
 refine wpAny_bind (sliceApplied_gen hs pl pu ?_)
 have hno : ¬ ((((sIx items.size 0 lo : Nat) : Int) == 0 && (1 : Int) == 1 && (sIx items.size items.size hi - sIx items.size 0 lo) == items.size) = true) := by
  intro q
  rw [Bool.and_eq_true, Bool.and_eq_true] at q
  have q1 : ((sIx items.size 0 lo : Nat) : Int) = 0 := eq_of_beq q.1.1
  have q2 : sIx items.size items.size hi - sIx items.size 0 lo = items.size := eq_of_beq q.2
  exact hw ⟨by omega, by omega⟩
 show wpAny _ _ (if (((sIx items.size 0 lo : Nat) : Int) == 0 && (1 : Int) == 1 && (sIx items.size items.size hi - sIx items.size 0 lo) == items.size) = true then _ else _) _ _ s
 rw [if_neg hno, pick_gen]
 first
  | exact wpAny_bind (m := Builtin.Tuple.tupleExact _) (wpAny_newObj_type (wpAny_pure ⟨_, rfl, wpAny_pure h⟩) htake)
  | exact wpAny_bind (m := Builtin.Tuple.tupleExact _) (wpAny_newObj_type (wpAny_bind (wpAny_pure (wpAny_pure ⟨_, rfl, wpAny_pure h⟩))) htake)
  | exact wpAny_bind (wpAny_bind (m := Builtin.Tuple.tupleExact _) (wpAny_newObj_type (wpAny_pure (wpAny_pure ⟨_, rfl, wpAny_pure h⟩)) htake))
  | exact wpAny_bind (wpAny_bind (m := Builtin.Tuple.tupleExact _) (wpAny_newObj_type (wpAny_pure ⟨_, rfl, wpAny_pure h⟩) htake))
end
end HT
namespace L2
open PySem PySem.Spec PyProof.Rows
abbrev TO := St -> Hp -> (Option Int -> Hp -> Prop) -> Prop
def PO (X : Cx) (e : Option Expr) (t : TO) : Prop :=
 ∀ (pins : List (Addr × Obj)) (s : Shared) (σ : St) (H : Hp) (Q : Option Int -> Hp -> Prop), Inv X pins σ H s -> t σ H Q →
  wpAny (model X.prog X.w) X.A (evalPart e X.env) (fun u s' => ∃ o H', Inv X pins σ H' s' /\ IsPart u o /\ Q o H') X.xe s
def tNoPart : TO := fun _ H Q => Q none H
def tPart (t : TE) : TO := fun σ H Q => t σ H fun x H1 => ∃ i, x = .int i /\ Q (some i) H1
theorem intsAre_of {ns : List Int} : ∀ {us : List Value}, Vals (ns.map V.int) us -> IntsAre us ns := by
 induction ns with
 | nil => intro us r; rw [List.map_nil] at r; cases r; exact .nil
 | cons n ns ih =>
  intro us r
  rw [List.map_cons] at r
  cases r with
  | cons r1 r2 =>
   obtain ⟨t, e⟩ := r1
   subst e
   exact .cons n t (ih r2)
section
variable {X : Cx} {e : Expr} {te : TE} {lo hi : Option Expr} {tl th : TO} {pos p2 : Pos}
theorem po_none : PO X none tNoPart := by
 intro pins s σ H Q I h
 rw [evalPart_none]
 exact wpAny_pure ⟨none, H, I, .none, h⟩
theorem po_some (h : PE X e te) : PO X (some e) (tPart te) := by
 intro pins s σ H Q I hw
 rw [evalPart_some]
 refine thn (h pins s σ H _ I hw) fun u s1 ⟨x, H1, I1, r1, q1⟩ => ?_
 obtain ⟨i, rfl, q⟩ := q1
 obtain ⟨t, rfl⟩ := r1
 exact ⟨some i, H1, I1, .int i t, q⟩
def SlR (X : Cx) (r : V -> Option Int -> Option Int -> Hp -> VK -> Prop) : Prop :=
 ∀ (pins : List (Addr × Obj)) (s : Shared) (σ : St) (H : Hp) (x : V) (v vl vu : Value) (lo hi : Option Int) (sl : Addr) (Q : VK), Inv X pins σ H s -> RelV x v -> s.heap.IsSliceOf sl vl vu .none -> IsPart vl lo -> IsPart vu hi -> r x lo hi H Q →
  ∃ T id, typeLookup (.type T) "__getitem__" = pure (some (.builtin id)) /\ s.TypeIs v T /\ wpAny (model X.prog X.w) X.A (getItem v (.ref sl)) (EP X pins σ Q) X.xe s
theorem SlR.or {r r' : V -> Option Int -> Option Int -> Hp -> VK -> Prop} (h : SlR X r) (h' : SlR X r') : SlR X (fun x lo hi H Q => r x lo hi H Q \/ r' x lo hi H Q) := by
 intro pins s σ H x v vl vu lo hi sl Q I rx hs pl pu q
 rcases q with q | q
 ·exact h pins s σ H x v vl vu lo hi sl Q I rx hs pl pu q
 ·exact h' pins s σ H x v vl vu lo hi sl Q I rx hs pl pu q
def tSl (r : V -> Option Int -> Option Int -> Hp -> VK -> Prop) (te : TE) (tl th : TO) : TE := fun σ H Q => te σ H fun x H1 => tl σ H1 fun l H2 => th σ H2 fun u H3 => r x l u H3 Q
theorem pe_slice {r : V -> Option Int -> Option Int -> Hp -> VK -> Prop} (hr : SlR X r) (he : PE X e te) (hl : PO X lo tl) (hu : PO X hi th) : PE X (.Subscript e (.Slice lo hi none p2) pos) (tSl r te tl th) := by
 intro pins s σ H Q I h
 refine Subscript_ (thn (he pins s σ H _ I h) fun v s1 ⟨x, H1, I1, r1, q1⟩ => ?_)
 refine wpAny_Slice (thn (hl pins s1 σ H1 _ I1 q1) fun vl s2 ⟨l, H2, I2, pl, q2⟩ => thn (hu pins s2 σ H2 _ I2 q2) fun vu s3 ⟨u, H3, I3, pu, q3⟩ => ?_)
 rw [evalPart_none]
 refine wpAny_pure ?_
 have I4 : Inv X pins σ H3 { s3 with heap := s3.heap.push { cls := .type "slice", data := .fields #[vl, vu, .none] } } := I3.kept (t' := s3.toks) fun b ob q => Heap.get?_push_of_some _ q
 obtain ⟨T, id, hT, ht, hg⟩ := hr pins { s3 with heap := s3.heap.push { cls := .type "slice", data := .fields #[vl, vu, .none] } } σ H3 x v vl vu l u s3.heap.objs.size Q I4 r1 (Heap.IsSliceOf.new ..) pl pu q3
 show wpAny (model X.prog X.w) X.A (subscriptTail e (.Slice lo hi none p2) v (.ref s3.heap.objs.size)) (EP X pins σ Q) X.xe { s3 with heap := s3.heap.push { cls := .type "slice", data := .fields #[vl, vu, .none] } }
 exact tail_any (ops := [.ref s3.heap.objs.size, v]) ht hT hg (by with_unfolding_all rfl)
def cutV (xs : List V) (lo hi : Option Int) : List V := (xs.drop (HT.sIx xs.length 0 lo)).take (HT.sIx xs.length xs.length hi - HT.sIx xs.length 0 lo)
theorem cutV_length (xs : List V) (lo hi : Option Int) : (cutV xs lo hi).length <= xs.length := by
 unfold cutV
 rw [List.length_take, List.length_drop]
 omega
def rSlT (K : PySem.W.Frag) : V -> Option Int -> Option Int -> Hp -> VK -> Prop := fun x lo hi H Q => ∃ a xs, x = .ref a /\ SqT K H a xs /\
 ¬ (HT.sIx xs.length 0 lo = 0 /\ HT.sIx xs.length xs.length hi = xs.length) /\ ∀ p, H p = none -> Q (.ref p) (upd H p (.tup (cutV xs lo hi)))
theorem sl_tup : SlR X (rSlT X.K) := by
 intro pins s σ H x v vl vu lo hi sl Q I rx hs pl pu h
 obtain ⟨a, xs, rfl, hx, hw, q⟩ := h
 cases rx
 obtain ⟨its, r, ht, hz⟩ := I.tuple hx
 have hlen : its.toArray.size = xs.length := by rw [List.size_toArray]; exact r.length.symm
 refine ⟨"tuple", _, PyProof.Rows.slot_tuple_getitem.lookup, ht.typeIs, ?_⟩
 refine HT.getItem_tuple_cut ht hs pl pu (by rw [hlen]; exact hw) ?_ (by rw [hlen]; exact hz)
 rw [hlen]
 refine ⟨.ref s.heap.objs.size, _, I.laid (t' := s.toks) (o := .tup (cutV xs lo hi)) (fun b ob q => Heap.get?_push_of_some _ q) (Nat.le_refl _) ?_, rfl, q _ (I.hok.fresh (Nat.le_refl _))⟩
 exact ⟨Nat.le_trans (cutV_length xs lo hi) hz, _, (r.drop (HT.sIx xs.length 0 lo)).take (HT.sIx xs.length xs.length hi - HT.sIx xs.length 0 lo), IsTup.new _ _⟩
def rCatT (K : PySem.W.Frag) : R2 := fun x y H Q => ∃ a b xs ys, x = .ref a /\ y = .ref b /\ SqT K H a xs /\ SqT K H b ys /\ xs ≠ [] /\ xs.length + ys.length <= sizeLine /\
 (ys = [] -> Q (.ref a) H) /\ (ys ≠ [] -> ∀ p, H p = none -> Q (.ref p) (upd H p (.tup (xs ++ ys))))
theorem Vals.nil_iff {xs : List V} {us : List Value} (r : Vals xs us) : us = [] ↔ xs = [] := by
 cases r with
 | nil => simp
 | cons _ _ => simp
theorem op_catT : OpR X (binaryOp .Add) (rCatT X.K) := by
 intro pins s σ H x y v u Q I rx ry h
 obtain ⟨a, b, xs, ys, rfl, rfl, ha, hb, hx, hz, q1, q2⟩ := h
 cases rx
 cases ry
 obtain ⟨its, r1, p1, _⟩ := I.tuple ha
 obtain ⟨its2, r2, p2, _⟩ := I.tuple hb
 refine HT.cat_tup p1 p2 (fun z => hx (r1.nil_iff.mp z)) (fun z => ⟨.ref a, H, I, rfl, q1 (r2.nil_iff.mp z)⟩) (fun z => ?_) (by rw [<- r1.length, <- r2.length]; exact hz)
 refine ⟨.ref s.heap.objs.size, _, I.laid (t' := s.toks) (o := .tup (xs ++ ys)) (fun b ob q => Heap.get?_push_of_some _ q) (Nat.le_refl _) ?_, rfl, q2 (fun w => z (r2.nil_iff.mpr w)) _ (I.hok.fresh (Nat.le_refl _))⟩
 exact ⟨by rw [List.length_append]; exact hz, _, r1.append r2, IsTup.new _ _⟩
end
def ixN (n : Nat) (i : Int) : Option Nat := if 0 <= i then (if i < n then some i.toNat else none) else if -(n : Int) <= i then some (i + n).toNat else none
def atI {α : Type} (xs : List α) (i : Int) : Option α := (ixN xs.length i).bind fun j => xs[j]?
theorem ixN_seq {n : Nat} {i : Int} {j : Nat} (h : ixN n i = some j) : seqIndex? i n = some j /\ j < n /\ -(n : Int) <= i /\ i < n := by
 unfold ixN at h
 by_cases h0 : 0 <= i
 ·rw [if_pos h0] at h
  by_cases h1 : i < n
  ·rw [if_pos h1] at h
   have e : i.toNat = j := Option.some.inj h
   exact ⟨by rw [seqIndex_of h0 h1, e], by omega, by omega, h1⟩
  ·rw [if_neg h1] at h; cases h
 ·rw [if_neg h0] at h
  by_cases h1 : -(n : Int) <= i
  ·rw [if_pos h1] at h
   have e : (i + n).toNat = j := Option.some.inj h
   exact ⟨by rw [seqIndex_neg (by omega) h1, e], by omega, h1, by omega⟩
  ·rw [if_neg h1] at h; cases h
theorem atI_get {α : Type} {xs : List α} {i : Int} {v : α} (h : atI xs i = some v) : ∃ j, seqIndex? i xs.length = some j /\ xs[j]? = some v /\ j < xs.length /\ -(xs.length : Int) <= i /\ i < xs.length := by
 unfold atI at h
 cases e : ixN xs.length i with
 | none => rw [e] at h; cases h
 | some j =>
  rw [e] at h
  obtain ⟨h1, h2, h3, h4⟩ := ixN_seq e
  exact ⟨j, h1, h, h2, h3, h4⟩
theorem atI_nat {α : Type} {xs : List α} {j : Nat} {v : α} (h : xs[j]? = some v) : atI xs (j : Int) = some v := by
 have hj : j < xs.length := (List.getElem?_eq_some_iff.mp h).1
 have e : ixN xs.length (j : Int) = some j := by
  unfold ixN
  rw [if_pos (by omega), if_pos (by omega)]; simp
 unfold atI; rw [e]; exact h
def PlainIx (b : Expr) : Prop := ∀ o i, subscripted b false o i = operate [o, i] (getItem o i)
def IxR (X : Cx) (r : R2) : Prop :=
 ∀ (value slice : Expr) (pins : List (Addr × Obj)) (s : Shared) (σ : St) (H : Hp) (x y : V) (v u : Value) (Q : VK), Inv X pins σ H s -> RelV x v -> RelV y u -> r x y H Q →
  subscripted slice false v u = operate [v, u] (getItem v u) -> wpAny (model X.prog X.w) X.A (subscriptTail value slice v u) (EP X pins σ Q) X.xe s
def MtR (X : Cx) (id : String) (r : V -> List V -> Hp -> VK -> Prop) : Prop :=
 ∀ (pins : List (Addr × Obj)) (s : Shared) (σ : St) (H : Hp) (x : V) (xs : List V) (v : Value) (us : List Value) (Q : VK), Inv X pins σ H s -> RelV x v -> Vals xs us -> r x xs H Q →
  wpAny (model X.prog X.w) X.A (call (.builtin id) (v :: us)) (EP X pins σ Q) X.xe s
section
variable {X : Cx} {a b : Expr} {ta tb : TE} {pos : Pos}
theorem IxR.or {r r' : R2} (h : IxR X r) (h' : IxR X r') : IxR X (fun x y H Q => r x y H Q \/ r' x y H Q) := by
 intro value slice pins s σ H x y v u Q I rx ry q hs
 rcases q with q | q
 ·exact h value slice pins s σ H x y v u Q I rx ry q hs
 ·exact h' value slice pins s σ H x y v u Q I rx ry q hs
theorem MtR.or {id : String} {r r' : V -> List V -> Hp -> VK -> Prop} (h : MtR X id r) (h' : MtR X id r') : MtR X id (fun x xs H Q => r x xs H Q \/ r' x xs H Q) := by
 intro pins s σ H x xs v us Q I rx rs q
 rcases q with q | q
 ·exact h pins s σ H x xs v us Q I rx rs q
 ·exact h' pins s σ H x xs v us Q I rx rs q
theorem pe_ix {r : R2} (hr : IxR X r) (ha : PE X a ta) (hb : PE X b tb) (hs : PlainIx b) : PE X (.Subscript a b pos) (tOp r ta tb) := by
 intro pins s σ H Q I h
 exact Subscript_ (binT ha hb I h fun v u s2 x y H2 I2 rx ry q => hr a b pins s2 σ H2 x y v u Q I2 rx ry q (hs _ _))
def rIxL (K : PySem.W.Frag) : R2 := fun x y H Q => ∃ p xs i v, x = .ref p /\ y = .int i /\ SqL K H p xs /\ atI xs i = some v /\ Q v H
def rIxT (K : PySem.W.Frag) : R2 := fun x y H Q => ∃ p xs i v, x = .ref p /\ y = .int i /\ SqT K H p xs /\ atI xs i = some v /\ Q v H
def rIxS : R2 := fun x y H Q => ∃ z i c, x = .str z /\ y = .int i /\ z.length <= sizeLine /\ atI z.cps.toList i = some c /\ Q (.str ⟨#[c]⟩) H
theorem ix_list : IxR X (rIxL X.K) := by
 intro value slice pins s σ H x y v u Q I rx ry h hs
 obtain ⟨p, xs, i, z, rfl, rfl, hq, he, q⟩ := h
 cases rx
 obtain ⟨t, rfl⟩ := ry
 obtain ⟨its, r, pl, hz⟩ := I.list hq
 obtain ⟨j, h1, h2, h3, h4, h5⟩ := atI_get he
 obtain ⟨w, ew, rw'⟩ := r.get h2
 have hl := r.length
 have hn := line63
 have fin : EP X pins σ Q w s := ⟨z, H, I, rw', q⟩
 by_cases h0 : 0 <= i
 ·have hj : i.toNat = j := by
   rw [seqIndex_of h0 h5] at h1
   exact Option.some.inj h1
  exact item_listR pl.isList h0 (by omega) (by rw [hj]; simpa using ew) fin hs
 ·have hj : (i + (its.toArray.size : Int)).toNat = j := by
   rw [seqIndex_neg (by omega) h4] at h1
   rw [List.size_toArray, <- hl]
   exact Option.some.inj h1
  exact subscriptTail_builtinR (x := w) pl.isList.typeIs slot_list_getitem.lookup
   (wpAny_getItem_list_neg (Q := fun r s' => r = w /\ EP X pins σ Q r s') pl.isList (by omega) (by rw [List.size_toArray] <;> omega) (by omega) (by rw [hj]; simpa using ew) ⟨rfl, fin⟩) hs
theorem ix_tup : IxR X (rIxT X.K) := by
 intro value slice pins s σ H x y v u Q I rx ry h hs
 obtain ⟨p, xs, i, z, rfl, rfl, hq, he, q⟩ := h
 cases rx
 obtain ⟨t, rfl⟩ := ry
 obtain ⟨its, r, pl, hz⟩ := I.tuple hq
 obtain ⟨j, h1, h2, h3, h4, h5⟩ := atI_get he
 obtain ⟨w, ew, rw'⟩ := r.get h2
 have hl := r.length
 have hn := line63
 have fin : EP X pins σ Q w s := ⟨z, H, I, rw', q⟩
 exact subscriptTail_builtinR (x := w) pl.typeIs slot_tuple_getitem.lookup
  (getItem_tuple (j := j) (Q := fun r s' => r = w /\ EP X pins σ Q r s') pl (by omega) (by omega) (by rw [List.size_toArray, <- hl]; exact h1) (by simpa using ew) ⟨rfl, fin⟩) hs
theorem ix_str : IxR X rIxS := by
 intro value slice pins s σ H x y v u Q I rx ry h hs
 obtain ⟨z, i, c, rfl, rfl, hz, he, q⟩ := h
 obtain ⟨t, rfl⟩ := rx
 obtain ⟨t', rfl⟩ := ry
 obtain ⟨j, h1, h2, h3, h4, h5⟩ := atI_get he
 have hl : z.cps.toList.length = z.length := by simp [Str.length]
 rw [hl] at h1 h4 h5
 have hn := line63
 exact tail_any (typeIs_str s z t) slot_str_getitem.lookup (getItem_str (c := c) (by
  have e1 : decide (i < -(2 ^ 63 : Int)) = false := decide_eq_false (by omega)
  have e2 : decide (i >= 2 ^ 63) = false := decide_eq_false (by omega)
  rw [e1, e2, Bool.or_false]) (by rw [h1]; simpa using h2) ⟨.str ⟨#[c]⟩, H, I.tok _, ⟨_, rfl⟩, q⟩) hs
def rIx (K : PySem.W.Frag) : R2 := fun x y H Q => rIxL K x y H Q \/ rIxT K x y H Q \/ rIxS x y H Q
theorem ix_seq : IxR X (rIx X.K) := ix_list.or (ix_tup.or ix_str)
theorem mapSeq_set (its : List Value) (n j : Nat) (u : Value) : Obj.mapSeq (·.setIfInBounds j u) { cls := .type "list", data := .seq its.toArray n } = { cls := .type "list", data := .seq (its.set j u).toArray n } := by
 simp [Obj.mapSeq]
theorem Inv.lst {pins : List (Addr × Obj)} {σ : St} {H : Hp} {s : Shared} {p : Addr} {xs : List V} (I : Inv X pins σ H s) (h : H p = some (.lst xs)) :
  ∃ (its : List Value) (n : Nat), Vals xs its /\ s.heap.get? p = some { cls := .type "list", data := .seq its.toArray n } /\ xs.length <= sizeLine := by
 obtain ⟨z, its, n, r, e⟩ := I.hok p _ h
 exact ⟨its, n, r, e, z⟩
theorem Inv.lstUpd {pins : List (Addr × Obj)} {σ : St} {H : Hp} {s : Shared} {p : Addr} {xs ys : List V} {its its' : List Value} {n n' : Nat} {f : Obj -> Obj} (I : Inv X pins σ H s) (h : H p = some (.lst xs))
  (ho : s.heap.get? p = some { cls := .type "list", data := .seq its.toArray n }) (hf : f { cls := .type "list", data := .seq its.toArray n } = { cls := .type "list", data := .seq its'.toArray n' }) (r : Vals ys its') (hz : ys.length <= sizeLine) (t : Nat) :
  Inv X pins σ (upd H p (.lst ys)) { s with heap := s.heap.update p f, toks := t } := by
 have e : (s.heap.update p f).get? p = some { cls := .type "list", data := .seq its'.toArray n' } := by
  rw [Heap.get?_update_self f ho (by rw [hf] <;> rfl), hf]
 refine I.write (x := p) (e := p) (by rw [h]; trivial) (.inl rfl) (fun b u hb q => (Heap.get?_update_other _ _ (Ne.symm hb)).trans q) ⟨_, e⟩ ?_
 exact ⟨hz, its', n', r, e⟩
def rSetL : V -> V -> V -> Hp -> (Hp -> Prop) -> Prop := fun o i v H Q => ∃ p xs k j, o = .ref p /\ i = .int k /\ H p = some (.lst xs) /\ ixN xs.length k = some j /\ Q (upd H p (.lst (xs.set j v)))
theorem set_list : PSet X rSetL := by
 intro pins s σ H o i v ov iv u Q I ro ri rv h
 obtain ⟨p, xs, k, j, rfl, rfl, hp, hj, q⟩ := h
 cases ro
 obtain ⟨t, rfl⟩ := ri
 obtain ⟨its, n, r, ho, hz⟩ := I.lst hp
 obtain ⟨h1, h2, h3, h4⟩ := ixN_seq hj
 have hl := r.length
 have hn := line63
 have I' : Inv X pins σ (upd H p (.lst (xs.set j v))) { s with heap := s.heap.update p (Obj.mapSeq (·.setIfInBounds j u)) } :=
  I.lstUpd hp ho (mapSeq_set its n j u) (r.set rv j) (by rw [List.length_set]; exact hz) s.toks
 by_cases h0 : 0 <= k
 ·have hk : k.toNat = j := by
   rw [seqIndex_of h0 h4] at h1
   exact Option.some.inj h1
  exact PySem.W.ki_setAt ho h0 (by omega) (by rw [List.size_toArray, <- hl]; exact h4) (by rw [hk]; exact ⟨_, I', q⟩)
 ·have hk : (k + (its.toArray.size : Int)).toNat = j := by
   rw [seqIndex_neg (by omega) h3] at h1
   rw [List.size_toArray, <- hl]
   exact Option.some.inj h1
  exact PySem.W.ki_setBack ho (by omega) (by rw [List.size_toArray, <- hl]; exact h3) (by omega) (by rw [hk]; exact ⟨_, I', q⟩)
theorem slice_bounds (lo hi : Option Int) (n : Nat) : (sliceBounds lo hi none n).1 = ((HT.sIx n 0 lo : Nat) : Int) /\ (sliceBounds lo hi none n).2.1 = ((HT.sIx n n hi : Nat) : Int) /\ (sliceBounds lo hi none n).2.2 = 1 := by
 refine ⟨?_, ?_, rfl⟩
 ·cases lo with
  | none => simp [sliceBounds, HT.sIx]
  | some i =>
   simp only [sliceBounds, HT.sIx, Option.getD_none, show (1 : Int) > 0 by decide, if_true]
   by_cases h : i < 0
   ·simp only [h, if_true] <;> omega
   ·simp only [h, if_false] <;> omega
 ·cases hi with
  | none => simp [sliceBounds, HT.sIx]
  | some i =>
   simp only [sliceBounds, HT.sIx, Option.getD_none, show (1 : Int) > 0 by decide, if_true]
   by_cases h : i < 0
   ·simp only [h, if_true] <;> omega
   ·simp only [h, if_false] <;> omega
theorem slicePick_cut (its : List Value) (lo hi : Option Int) : slicePick its.toArray lo hi none = ((its.drop (HT.sIx its.length 0 lo)).take (HT.sIx its.length its.length hi - HT.sIx its.length 0 lo)).toArray := by
 obtain ⟨h1, h2, h3⟩ := slice_bounds lo hi its.toArray.size
 unfold slicePick
 rw [h1, h2, h3]
 simp only [sliceRange_one, pick_run, List.size_toArray] <;> rfl
def rSlL (K : PySem.W.Frag) : V -> Option Int -> Option Int -> Hp -> VK -> Prop := fun x lo hi H Q => ∃ a xs, x = .ref a /\ SqL K H a xs /\ ∀ p, H p = none -> Q (.ref p) (upd H p (.lst (cutV xs lo hi)))
theorem sl_list : SlR X (rSlL X.K) := by
 intro pins s σ H x v vl vu lo hi sl Q I rx hs pl pu h
 obtain ⟨a, xs, rfl, hx, q⟩ := h
 cases rx
 obtain ⟨its, r, ht, hz⟩ := I.list hx
 have hlen := r.length
 refine ⟨"list", _, slot_list_getitem.lookup, ht.isList.typeIs, ?_⟩
 refine wpAny_getItem_list_slice ht.isList hs pl pu .none (by simp) ?_ (by rw [List.size_toArray] <;> omega)
 rw [slicePick_cut, <- hlen]
 refine ⟨.ref s.heap.objs.size, _, I.laid (t' := s.toks) (o := .lst (cutV xs lo hi)) (fun b ob q => Heap.get?_push_of_some _ q) (Nat.le_refl _) ?_, rfl, q _ (I.hok.fresh (Nat.le_refl _))⟩
 exact ⟨Nat.le_trans (cutV_length xs lo hi) hz, _, 0, (r.drop (HT.sIx xs.length 0 lo)).take (HT.sIx xs.length xs.length hi - HT.sIx xs.length 0 lo), Heap.get?_push_size _ rfl⟩
def eqV : V -> V -> Bool
 | .non, .non => true
 | .bl a, .bl b => a == b
 | .bl a, .int b => (if a then 1 else 0) == b
 | .int a, .bl b => a == (if b then 1 else 0)
 | .int a, .int b => a == b
 | .str a, .str b => a == b
 | _, _ => false
def inV (x : V) (xs : List V) : Bool := xs.any fun y => eqV y x
theorem call_len_seq : CallR X (.builtin "len") (fun xs H Q => ∃ p ys, xs = [.ref p] /\ (SqL X.K H p ys \/ SqT X.K H p ys) /\ Q (.int ys.length) H) := by
 intro pins s σ H xs us Q I r h
 obtain ⟨p, ys, rfl, hq, q⟩ := h
 obtain ⟨u, rfl, rx⟩ := vals1 r
 cases rx
 have hn := line63
 rcases hq with hq | hq
 ·obtain ⟨its, r', pl, hz⟩ := I.list hq
  have hlen := r'.length
  exact Calls.call_len_list pl.isList (by simp only [List.size_toArray] <;> omega) ⟨.int ys.length, H, I.tok _, ⟨s.toks + 1, by rw [List.size_toArray, hlen]⟩, q⟩
 ·obtain ⟨its, r', pl, hz⟩ := I.tuple hq
  have hlen := r'.length
  exact len_tuple pl (by simp only [List.size_toArray] <;> omega) ⟨.int ys.length, H, I.tok _, ⟨s.toks + 1, by rw [List.size_toArray, hlen]⟩, q⟩
theorem call_len_str : CallR X (.builtin "len") (fun xs H Q => ∃ z, xs = [.str z] /\ z.length <= sizeLine /\ Q (.int z.length) H) := by
 intro pins s σ H xs us Q I r h
 obtain ⟨z, rfl, hz, q⟩ := h
 obtain ⟨u, rfl, t, rfl⟩ := vals1 r
 have hn := line63
 exact len_str (by omega) ⟨.int z.length, H, I.tok _, ⟨_, rfl⟩, q⟩
theorem CallR.or {f : Value} {r r' : List V -> Hp -> VK -> Prop} (h : CallR X f r) (h' : CallR X f r') : CallR X f (fun xs H Q => r xs H Q \/ r' xs H Q) := by
 intro pins s σ H xs us Q I rs q
 rcases q with q | q
 ·exact h pins s σ H xs us Q I rs q
 ·exact h' pins s σ H xs us Q I rs q
theorem call_list_of : CallR X (.type "list") (fun xs H Q => ∃ p ys, xs = [.ref p] /\ (SqL X.K H p ys \/ SqT X.K H p ys) /\ ∀ l, H l = none -> Q (.ref l) (upd H l (.lst ys))) := by
 intro pins s σ H xs us Q I r h
 obtain ⟨p, ys, rfl, hq, q⟩ := h
 obtain ⟨u, rfl, rx⟩ := vals1 r
 cases rx
 have fin : ∀ (its : List Value), Vals ys its -> ys.length <= sizeLine -> ∀ (h' : Heap) (c' : Nat), (∀ b o', s.heap.get? b = some o' -> h'.get? b = some o') →
   h'.get? s.heap.objs.size = some { cls := .type "list", dict := none, data := .seq its.toArray c', slots := #[] } -> EP X pins σ Q (.ref s.heap.objs.size) { s with heap := h' } := fun its r' hz h' c' kp e =>
  ⟨.ref s.heap.objs.size, _, I.laid (t' := s.toks) kp (Nat.le_refl _) (show ObjOk X.prog X.w _ h' _ (.lst ys) from ⟨hz, its, c', r', e⟩), rfl, q _ (I.hok.fresh (Nat.le_refl _))⟩
 rcases hq with hq | hq
 ·obtain ⟨its, r', pl, hz⟩ := I.list hq
  have hlen := r'.length
  obtain ⟨o, ho, hc, n, hd⟩ := pl.isList
  exact call_list_seq p (.inl rfl) ho hc hd (fun h' c' kp e => fin its r' hz h' c' kp e) (by simp only [List.size_toArray] <;> omega)
 ·obtain ⟨its, r', pl, hz⟩ := I.tuple hq
  have hlen := r'.length
  obtain ⟨o, ho, hc, n, hd⟩ := pl
  exact call_list_seq p (.inr rfl) ho hc hd (fun h' c' kp e => fin its r' hz h' c' kp e) (by simp only [List.size_toArray] <;> omega)
def tyV (K : PySem.W.Frag) (T : String) (x : V) (H : Hp) : Prop := match x with
 | .str _ => T = "str"
 | .int _ => T = "int"
 | .ref p => (T = "list" /\ ∃ xs, SqL K H p xs) \/ (T = "tuple" /\ ∃ o, K.lookup p = some o /\ o.cls = .type "tuple" /\ o.dict = none) \/
   (T = "dict" /\ ((∃ kvs, H p = some (.dK kvs)) \/ ∃ kvs, H p = some (.dT kvs))) \/ (T = "set" /\ ∃ S n, H p = some (.set S n)) \/ (T = "dict" /\ ∃ kvs, H p = some (.dU kvs))
 | _ => False
theorem tyV_is {pins : List (Addr × Obj)} {σ : St} {H : Hp} {s : Shared} {T : String} {x : V} {v : Value} (I : Inv X pins σ H s) (r : RelV x v) (ty : tyV X.K T x H) :
  s.TypeIs v T /\ ∀ a, v = .ref a -> ∃ ob, s.heap.get? a = some ob /\ ob.dict = none := by
 cases x with
 | str z =>
  obtain ⟨t, rfl⟩ := r
  cases (show T = "str" from ty)
  exact ⟨typeIs_str s z t, fun _ e => nomatch e⟩
 | int i =>
  obtain ⟨t, rfl⟩ := r
  cases (show T = "int" from ty)
  exact ⟨typeIs_int s i t, fun _ e => nomatch e⟩
 | ref p =>
  cases r
  rcases ty with ⟨rfl, xs, hq⟩ | ⟨rfl, o, hk, hc, hd⟩ | ⟨rfl, hk⟩ | ⟨rfl, S, n, hk⟩ | ⟨rfl, kvs, hk⟩
  ·obtain ⟨its, _, pl, _⟩ := I.list hq
   refine ⟨pl.isList.typeIs, fun a e => ?_⟩
   cases e
   obtain ⟨o, n, e, c, hd, _⟩ := pl
   exact ⟨o, e, hd⟩
  ·refine ⟨⟨o, I.kIn p o hk, hc⟩, fun a e => ?_⟩
   cases e
   exact ⟨o, I.kIn _ o hk, hd⟩
  ·have z : ∃ o, s.heap.get? p = some o /\ o.ExactDict := by
    rcases hk with ⟨kvs, hk⟩ | ⟨kvs, hk⟩
    ·obtain ⟨_, _, _, _, o, _, _, e, ex, _⟩ := I.hok p _ hk
     exact ⟨o, e, ex⟩
    ·obtain ⟨_, _, _, _, o, _, _, e, ex, _⟩ := I.hok p _ hk
     exact ⟨o, e, ex⟩
   obtain ⟨o, e, ex⟩ := z
   refine ⟨⟨o, e, ex.1⟩, fun a e2 => ?_⟩
   cases e2
   exact ⟨o, e, ex.2.1⟩
  ·obtain ⟨o, _, _, _, e, ex, _⟩ := I.hok p _ hk
   refine ⟨⟨o, e, ex.1⟩, fun a e2 => ?_⟩
   cases e2
   exact ⟨o, e, ex.2.1⟩
  ·obtain ⟨_, _, o, _, _, e, ex, _⟩ := I.hok p _ hk
   refine ⟨⟨o, e, ex.1⟩, fun a e2 => ?_⟩
   cases e2
   exact ⟨o, e, ex.2.1⟩
 | _ => exact False.elim ty
def tBM0 (K : PySem.W.Frag) (T : String) (r : V -> List V -> Hp -> VK -> Prop) (to : TE) : TE := fun σ H Q => to σ H fun x H1 => tyV K T x H1 /\ r x [] H1 Q
def tBM (K : PySem.W.Frag) (T : String) (r : V -> List V -> Hp -> VK -> Prop) (to : TE) (t : TA) : TE := fun σ H Q => to σ H fun x H1 => tyV K T x H1 /\ t σ H1 fun xs H2 => r x xs H2 Q
variable {o e : Expr} {es : List Expr} {to : TE} {t : TA} {name : Str} {apos cpos : Pos} {T id : String} {r : V -> List V -> Hp -> VK -> Prop}
theorem pe_bm0 (pa : PlainAttrs T) (slot : Slot T name id) (hty : typeOf (.builtin id) = pure (.type "method_descriptor")) (hm : MtR X id r) (ho : PE X o to)
  (hbase : attributeBase o name X.env (eval o X.env) = eval o X.env := by rfl) (hline : (apos.endLine == cpos.line) = true := by rfl) : PE X (.Call (.Attribute o name apos) [] [] cpos) (tBM0 X.K T r to) := by
 intro pins s σ H Q I h
 refine wpAny_Call_method0_late hbase hline (thn (ho pins s σ H _ I h) fun v s1 ⟨x, H1, I1, r1, ty, q1⟩ => ?_)
 obtain ⟨h1, h2⟩ := tyV_is I1 r1 ty
 exact ⟨T, id, pa, slot, hty, h1, h2, Calls.callWith_builtin rfl (PySem.evalArgs_none (hm pins s1 σ H1 x [] v [] Q I1 r1 .nil q1))⟩
theorem pe_bm (pa : PlainAttrs T) (slot : Slot T name id) (hty : typeOf (.builtin id) = pure (.type "method_descriptor")) (hm : MtR X id r) (ho : PE X o to) (ha : PA X (e :: es) t)
  (hbase : attributeBase o name X.env (eval o X.env) = eval o X.env := by rfl)
  (hfew : ((backTo cpos (starEach (e :: es) X.env)).all (fun x => !x.1) && (backToKw cpos (keywordEach [] X.env)).all (fun x => x.1.isSome)
   && decide ((e :: es).length + ([] : List Keyword).length + (if ([] : List Keyword).isEmpty then 0 else 1) < 30)) = true := by rfl)
  (hline : (apos.endLine == cpos.line) = true := by rfl) (hs : starEach (e :: es) X.env = (false, eval e X.env) :: starEach es X.env := by rfl) (hplain : (backTo cpos (starEach es X.env)).any (·.1) = false := by rfl) :
  PE X (.Call (.Attribute o name apos) (e :: es) [] cpos) (tBM X.K T r to t) := by
 intro pins s σ H Q I h
 refine wpAny_Call_method_late hbase hfew hline rfl (thn (ho pins s σ H _ I h) fun v s1 ⟨x, H1, I1, r1, ty, q1⟩ => ?_)
 obtain ⟨h1, h2⟩ := tyV_is I1 r1 ty
 refine ⟨T, id, pa, slot, hty, h1, h2, ?_⟩
 have hA := ha cpos pins s1 σ H1 _ I1 q1
 rw [hs] at hA ⊢
 refine Calls.callWith_builtin (by show (false || (backTo cpos (starEach es X.env)).any (·.1)) = false; rw [hplain] <;> rfl) (Calls.evalArgs_plain ?_)
 exact thn hA fun us s2 ⟨vs, H2, I2, r2, q2⟩ => hm pins s2 σ H2 x vs v us Q I2 r1 r2 q2
end
def MtM (X : Cx) (id : String) (r : V -> List V -> Hp -> VK -> Prop) : Prop :=
 ∀ (pins : List (Addr × Obj)) (s : Shared) (σ : St) (H : Hp) (x : V) (xs : List V) (v : Value) (us : List Value) (Q : VK), Inv X pins σ H s -> RelV x v -> Vals xs us -> r x xs H Q →
  wpAny (model X.prog X.w) X.A (call (.builtin id) (v :: us)) (EP X pins σ Q) X.xe s
theorem Vals.one {x : V} {us : List Value} (h : Vals [x] us) : ∃ u, us = [u] /\ RelV x u := by
 cases h with
 | cons r t => cases t; exact ⟨_, rfl, r⟩
theorem Vals.two {x y : V} {us : List Value} (h : Vals [x, y] us) : ∃ u v, us = [u, v] /\ RelV x u /\ RelV y v := by
 cases h with
 | cons r t =>
  obtain ⟨v, e, q⟩ := Vals.one t
  subst e
  exact ⟨_, _, rfl, r, q⟩
theorem Vals.zero : ∀ {us : List Value}, Vals [] us -> us = []
 | _, .nil => rfl
theorem Vals.dropLast {xs : List V} {us : List Value} (h : Vals xs us) : Vals xs.dropLast us.dropLast := by
 induction h with
 | nil => exact .nil
 | cons r t ih =>
  cases t with
  | nil => exact .nil
  | cons q t' => exact .cons r ih
theorem Vals.reverse {xs : List V} {us : List Value} (h : Vals xs us) : Vals xs.reverse us.reverse := by
 induction h with
 | nil => exact .nil
 | cons r t ih => rw [List.reverse_cons, List.reverse_cons]; exact Vals.append ih (.cons r .nil)
theorem Vals.rep {xs : List V} {us : List Value} (h : Vals xs us) : ∀ k : Nat, Vals (List.replicate k xs).flatten (List.replicate k us).flatten
 | 0 => .nil
 | k + 1 => by
  rw [List.replicate_succ, List.replicate_succ, List.flatten_cons, List.flatten_cons]
  exact Vals.append h (Vals.rep h k)
theorem erase_last {α : Type} (l : List α) : l.eraseIdx (l.length - 1) = l.dropLast := by
 induction l with
 | nil => rfl
 | cons a r ih =>
  cases r with
  | nil => rfl
  | cons b r =>
   have e : (a :: b :: r).length - 1 = ((b :: r).length - 1) + 1 := by
    have h1 : (a :: b :: r).length = r.length + 2 := rfl
    have h2 : (b :: r).length = r.length + 1 := rfl
    omega
   rw [e, List.eraseIdx_cons_succ, ih]
   all_goals rfl
theorem foldl_rep (its : List Value) : ∀ (k : Nat) (acc : List Value),
  List.foldl (fun x1 x2 => x1 ++ x2) acc.toArray (List.replicate k its.toArray) = (acc ++ (List.replicate k its).flatten).toArray
 | 0, acc => by simp
 | k + 1, acc => by
  have e : acc.toArray ++ its.toArray = (acc ++ its).toArray := by simp
  have e2 : (acc ++ its) ++ (List.replicate k its).flatten = acc ++ (List.replicate (k + 1) its).flatten := by
   rw [List.replicate_succ, List.flatten_cons, List.append_assoc]
  rw [<- e2, <- foldl_rep its k (acc ++ its), <- e, List.replicate_succ, List.foldl_cons]
section
variable {X : Cx} {pins : List (Addr × Obj)} {σ : St} {H : Hp} {s : Shared} {l b : Addr} {xs ys zs : List V}
theorem Inv.lset {its its' : List Value} {n : Nat} {f : Array Value -> Array Value} {t' : Nat} (I : Inv X pins σ H s) (hH : H l = some (.lst xs))
  (e : s.heap.get? l = some { cls := .type "list", data := .seq its.toArray n }) (hf : f its.toArray = its'.toArray) (hv : Vals ys its') (hz : ys.length <= sizeLine) :
  Inv X pins σ (upd H l (.lst ys)) { s with heap := s.heap.update l (Obj.mapSeq f), toks := t' } := by
 have q := PySem.IsL.update e f
 rw [hf] at q
 refine I.write (x := l) (e := l) (by rw [hH]; exact trivial) (.inl rfl) (fun b' u hb hu => (Heap.get?_update_other s.heap (Obj.mapSeq f) (Ne.symm hb)).trans hu) ⟨_, q⟩ ?_
 exact ⟨hz, its', _, hv, q⟩
theorem Inv.lnew {its : List Value} {t' : Nat} (I : Inv X pins σ H s) (hv : Vals ys its) (hz : ys.length <= sizeLine) :
  Inv X pins σ (upd H s.heap.objs.size (.lst ys)) { s with heap := s.heap.push { cls := .type "list", data := .seq its.toArray }, toks := t' } :=
 I.laid (fun _ _ q => Heap.get?_push_of_some _ q) (Nat.le_refl _) ⟨hz, its, 0, hv, Heap.get?_push_size _ rfl⟩
theorem Inv.fresh (I : Inv X pins σ H s) : H s.heap.objs.size = none := I.hok.fresh (Nat.le_refl _)
theorem Inv.lstM (I : Inv X pins σ H s) (hH : H l = some (.lst xs)) : xs.length <= sizeLine /\ ∃ (its : List Value) (n : Nat), Vals xs its /\ xs.length = its.length /\ s.heap.get? l = some { cls := .type "list", data := .seq its.toArray n } := by
 obtain ⟨z, its, n, r, e⟩ := I.hok l _ hH
 exact ⟨z, its, n, r, r.length, e⟩
theorem notLongL {n : Nat} (h : n <= sizeLine) : Builtin.List.listTooLong n = false := by
 unfold Builtin.List.listTooLong
 exact decide_eq_false (by omega)
end
section
variable {X : Cx}
def rAppend : V -> List V -> Hp -> VK -> Prop := fun x vs H Q => ∃ l xs y, x = .ref l /\ vs = [y] /\ H l = some (.lst xs) /\ xs.length < sizeLine /\ Q .non (upd H l (.lst (xs ++ [y])))
theorem mt_append : MtM X "list.append" rAppend := by
 intro pins s σ H x vs v us Q I rx rv h
 obtain ⟨l, xs, y, rfl, rfl, hH, hz, q⟩ := h
 cases rx
 obtain ⟨u, rfl, ru⟩ := rv.one
 obtain ⟨z, its, n, r, hl, e⟩ := I.lstM hH
 refine call_meets F.slot_list_append ⟨_, e, rfl⟩ F.entry_list_append (F.args_list_append_2 _ _) (PySem.list_append l its.toArray n u (by rw [List.size_toArray]; omega)) ⟨e, ?_⟩
 refine ⟨.non, _, I.lset (its' := its ++ [u]) hH e (by simp) (r.append (.cons ru .nil)) ?_, rfl, q⟩
 rw [List.length_append, List.length_singleton]
 omega
def rExtend : V -> List V -> Hp -> VK -> Prop := fun x vs H Q => ∃ l b xs zs, x = .ref l /\ vs = [.ref b] /\ H l = some (.lst xs) /\ H b = some (.lst zs) /\ xs.length + zs.length <= sizeLine /\ Q .non (upd H l (.lst (xs ++ zs)))
theorem mt_extend : MtM X "list.extend" rExtend := by
 intro pins s σ H x vs v us Q I rx rv h
 obtain ⟨l, b, xs, zs, rfl, rfl, hH, hB, hz, q⟩ := h
 cases rx
 obtain ⟨u, rfl, ru⟩ := rv.one
 cases ru
 obtain ⟨z, its, n, r, hl, e⟩ := I.lstM hH
 obtain ⟨z2, its2, n2, r2, hl2, e2⟩ := I.lstM hB
 have hsz : its.toArray.size + its2.toArray.size <= sizeLine := by rw [List.size_toArray, List.size_toArray]; omega
 have hlong : ¬ (!its.toArray.isEmpty && Builtin.List.listTooLong (its.toArray.size + its2.toArray.size)) = true := by
  rw [notLongL hsz, Bool.and_false]
  exact Bool.false_ne_true
 refine call_meets F.slot_list_extend ⟨_, e, rfl⟩ F.entry_list_extend (F.args_list_extend_2 _ _)
  (AutoSeq1.list_extend_list_list_0 l its.toArray n b its2.toArray n2 hlong (by rw [List.size_toArray]; omega) (by omega)) ⟨e, e2, ?_⟩
 refine ⟨.non, _, I.lset (its' := its ++ its2) hH e (by simp) (r.append r2) ?_, rfl, q⟩
 rw [List.length_append]
 omega
def rPop : V -> List V -> Hp -> VK -> Prop := fun x vs H Q => ∃ l xs y, x = .ref l /\ vs = [] /\ H l = some (.lst xs) /\ xs[xs.length - 1]? = some y /\ Q y (upd H l (.lst xs.dropLast))
theorem mt_pop : MtM X "list.pop" rPop := by
 intro pins s σ H x vs v us Q I rx rv h
 obtain ⟨l, xs, y, rfl, rfl, hH, hy, q⟩ := h
 cases rx
 have hus := rv.zero
 subst hus
 obtain ⟨z, its, n, r, hl, e⟩ := I.lstM hH
 obtain ⟨u, hu, ru⟩ := r.get hy
 have hy' : its.toArray[its.toArray.size - 1]? = some u := by
  show its.toArray[its.length - 1]? = some u
  rw [<- Array.getElem?_toList, <- hl]
  exact hu
 refine call_meets F.slot_list_pop ⟨_, e, rfl⟩ F.entry_list_pop (F.args_list_pop_1 _) (MeetsSeq.list_pop_last l its.toArray n u hy' (by rw [List.size_toArray]; omega)) ⟨e, ?_⟩
 refine ⟨y, _, I.lset (its' := its.dropLast) hH e ?_ r.dropLast ?_, ru, q⟩
 ·show its.toArray.eraseIdxIfInBounds (its.toArray.size - 1) = its.dropLast.toArray
  rw [List.size_toArray, List.eraseIdxIfInBounds_toArray, erase_last]
 ·rw [List.length_dropLast]
  omega
def rCat : R2 := fun x y H Q => ∃ l b xs zs, x = .ref l /\ y = .ref b /\ H l = some (.lst xs) /\ H b = some (.lst zs) /\ xs.length + zs.length <= sizeLine /\ ∀ p, H p = none -> Q (.ref p) (upd H p (.lst (xs ++ zs)))
theorem op_cat : OpR X (binaryOp .Add) rCat := by
 intro pins s σ H x y v u Q I rx ry h
 obtain ⟨l, b, xs, zs, rfl, rfl, hH, hB, hz, q⟩ := h
 cases rx
 cases ry
 obtain ⟨z, its, n, r, hl, e⟩ := I.lstM hH
 obtain ⟨z2, its2, n2, r2, hl2, e2⟩ := I.lstM hB
 refine PySem.P.add_list e e2 ?_ (by rw [List.size_toArray, List.size_toArray]; omega)
 have ea : its.toArray ++ its2.toArray = (its ++ its2).toArray := by simp
 rw [ea]
 exact ⟨.ref _, _, I.lnew (t' := s.toks) (r.append r2) (by rw [List.length_append]; omega), rfl, q _ I.fresh⟩
def rRep : R2 := fun x y H Q => ∃ l k xs, x = .ref l /\ y = .int k /\ H l = some (.lst xs) /\ -(2 ^ 63) <= k /\ k < 2 ^ 63 /\ xs.length * k.toNat <= sizeLine /\
 ∀ p, H p = none -> Q (.ref p) (upd H p (.lst (List.replicate k.toNat xs).flatten))
theorem len_rep {α : Type} (xs : List α) (k : Nat) : (List.replicate k xs).flatten.length = k * xs.length := by
 induction k with
 | zero => simp
 | succ k ih => rw [List.replicate_succ, List.flatten_cons, List.length_append, ih, Nat.succ_mul, Nat.add_comm]
theorem op_rep : OpR X (binaryOp .Mult) rRep := by
 intro pins s σ H x y v u Q I rx ry h
 obtain ⟨l, k, xs, rfl, rfl, hH, h1, h2, hz, q⟩ := h
 cases rx
 obtain ⟨t, rfl⟩ := ry
 obtain ⟨z, its, n, r, hl, e⟩ := I.lstM hH
 have hlen : its.toArray.size * k.toNat <= sizeLine := by rw [List.size_toArray, <- hl]; exact hz
 have hcap : ¬ its.toArray.size * k.toNat > (2 ^ 63 - 1) / 8 := by
  have : (sizeLine : Nat) <= (2 ^ 63 - 1) / 8 := by decide
  omega
 have hfit : ¬ (!Builtin.List.listFitsIndex k) = true := by
  rw [fitsIndex_both h1 h2]
  exact Bool.false_ne_true
 have hlong : ¬ Builtin.List.listTooLong (its.toArray.size * k.toNat) = true := by
  rw [notLongL hlen]
  exact Bool.false_ne_true
 have hnew : List.foldl (fun x1 x2 => x1 ++ x2) #[] (List.replicate (if its.toArray.isEmpty = true then 0 else k.toNat) its.toArray) = (List.replicate k.toNat its).flatten.toArray := by
  have f0 : ∀ m : Nat, List.foldl (fun x1 x2 => x1 ++ x2) #[] (List.replicate m its.toArray) = (List.replicate m its).flatten.toArray := fun m => by
   have := foldl_rep its m []
   rw [List.nil_append] at this
   exact this
  rw [f0]
  cases its with
  | nil => simp
  | cons a r' => rw [if_neg (by simp)]
 refine wpAny_binaryOp_repeat_ref (T := "list") (U := "int") (by decide) ⟨_, e, rfl⟩ (fun s' => typeIs_int s' k t) noFill_list_mul F.fills_int_mul F.slot_int_rmul repeat_list F.slot_int_index.lookup
  (call_meets F.slot_int_rmul (typeIs_int s k t) F.entry_int_rmul (F.args_int_rmul_2 _ _) (int___rmul___int_list k t l its.toArray n)
   ⟨e, rfl, ⟨_, e, rfl⟩, call_meets F.slot_list_mul ⟨_, e, rfl⟩ F.entry_list_mul (F.args_list_mul_2 _ _) (AutoListH.list___mul___list_int_3 l its.toArray n k t hfit hcap hlong) ⟨e, ?_⟩⟩)
 rw [hnew]
 exact ⟨.ref _, _, I.lnew (t' := s.toks) (r.rep k.toNat) (by rw [len_rep, Nat.mul_comm]; exact hz), rfl, q _ I.fresh⟩
end
end L2
namespace Att
open PySem PySem.W PySem.Calls PyProof.Rows
theorem ints_of_wellAll {P : Params} {h : Heap} : ∀ (ns : List Int) (vs : List Value), WellAll P h vs (ns.map WData.int) -> IntsAre vs ns := by
 intro ns
 induction ns with
 | nil =>
  intro vs w
  rw [List.map_nil] at w
  cases w
  exact .nil
 | cons n ns ih =>
  intro vs w
  rw [List.map_cons] at w
  cases w with
  | cons a b =>
   cases a
   exact .cons _ _ (ih _ b)
theorem script_of {l : OpenLaw} {n : Nat} (hn : l.most = some n) {P : Params} {h : Heap} {args : List WData} {vals : List Value}
  (hpre : l.row.toRowW.claim.pre args = true) (hwl : WellAll P h vals args) :
  ∃ a vs ns, vals = [Value.ref a] /\ args = [WData.list (ns.map WData.int)] /\ h.get? a = some { cls := .type "list", data := .seq vs.toArray } /\ IntsAre vs ns /\ ns.length <= n := by
 have hsh : WShape.hasAll [] args [.list .int] = true := (pre_splitW hpre).1
 have hc : l.pre.holds [] { args := args } = true := (pre_splitW hpre).2
 obtain ⟨d, r, rfl, h1, h2⟩ := hasAllW_cons hsh
 obtain rfl := hasAllW_nil h2
 obtain ⟨xs, rfl, h3⟩ := hasW_list h1
 obtain ⟨ns, rfl⟩ := items_int h3
 have hlen : ns.length <= n := by
  unfold OpenLaw.pre at hc
  have h4 : (WTm.not (.lt (.lit (.int (n : Int))) (.len (.arg 0)))).holds [] { args := [.list (ns.map .int)] } = true := by
   have h4 := (holds_andW hc).1
   rw [hn] at h4
   exact h4
  have h5 := condW_of h4 (w_not (w_lt w_lit (w_len_list (w_arg rfl))))
  rw [List.length_map] at h5
  refine Nat.le_of_not_lt fun q => ?_
  have q' : (n : Int) < ((ns.length : Nat) : Int) := by omega
  first
   | (rw [decide_eq_true q'] at h5; exact absurd h5 (by decide))
   | (simp at h5; omega)
 cases hwl with
 | cons w1 w2 =>
  cases w2
  cases w1 with
  | list ho hall => exact ⟨_, _, ns, rfl, rfl, ho, ints_of_wellAll ns _ hall, hlen⟩
theorem post_true (l : OpenLaw) (args : List WData) : l.row.toRowW.claim.post args (.bool true) args = true :=
 postW_of (r := l.row.toRowW) (X := (true == true))
  (show WShape.has [] (.bool true) .bool = true by first | rfl | decide | simp [WShape.has, WShape.arms, WShape.armsAll])
  (show (WTm.eq .res (.lit (.bool true))).value [] { args := args, res := some (.bool true), after := args } = some (.bool (true == true)) from w_eq_bool (w_res rfl) w_lit) rfl
theorem attach_call {l : OpenLaw} {n : Nat} {q : Program} {loose : List Str} {XP : (Str -> Option Value) -> Heap -> Prop} {YP : World -> Heap -> Prop} {d : DefRec}
  (hn : l.most = some n) (hdf : d.params.defaults = [])
  (call : ∀ (w : World) (s₀ s₁ : Shared) (mg mb : Str -> Option Value) (fa : Addr) (o : Obj) (pm cd doc : Value) (a : Addr) (vs : List Value) (ns : List Int),
   Ground q loose [] XP w s₀ mg mb s₁.heap -> YP w s₁.heap →
   s₁.heap.get? fa = some o -> o.data = .func (docDef d.name d.params d.body d.scope pm cd doc) -> s₁.heap.CodeRec cd d.name -> mg d.name = some (.ref fa) →
   s₁.heap.get? a = some { cls := .type "list", data := .seq vs.toArray } -> IntsAre vs ns -> ns.length <= n -> s₁.gens = #[] →
   codeAny (model l.prog w) callerA (.call (.ref fa) ⟨[.ref a], []⟩) (fun r s' => r = .ok (.ret (.bool true)) /\ OldK s₁.heap s'.heap /\ s'.os = s₁.os /\ AllBare s'.gens) s₁) :
  WalkO q loose XP YP l.row.toRowW d [] (fun f vs => PySem.call f vs) := by
 intro w s₀ s₁ mg mb G Y fa o pm cd doc dV kV ho hd hcd hD hmg hg args vals as hpre hlay hrd hwl hlo
 obtain rfl : dV = .none := Dflts.none hD hdf
 obtain rfl : kV = .none := Dflts.noKw hD
 obtain ⟨a, vs, ns, rfl, rfl, hobj, hints, hlen⟩ := script_of hn hpre hwl
 refine enter_call (codeAny_mono (call w s₀ s₁ mg mb fa o pm cd doc a vs ns G Y ho (fd_plain hd) hcd hmg hobj hints hlen hg) fun r s' hq => ?_)
 obtain ⟨rfl, h2, h3, h4⟩ := hq
 exact ⟨.inl ⟨.bool true, .bool true, [], rfl, fun _ => rfl, .bool true, post_true l _, fun _ => ⟨List.Pairwise.nil, fun _ hm => (nomatch hm)⟩⟩, h2, h3, h4⟩
end Att
namespace L2
open PySem PySem.Spec PyProof.Rows
theorem vals_ints : ∀ {vs : List Value} {ns : List Int}, IntsAre vs ns -> Vals (ns.map V.int) vs
 | _, _, .nil => .nil
 | _, _, .cons n t h => .cons ⟨t, rfl⟩ (vals_ints h)
def defArgs (s : Stmt) : Arguments := match s with
 | .FunctionDef _ a _ _ _ _ _ _ _ _ => a
 | _ => { posonlyargs := [], args := [], vararg := none, kwonlyargs := [], kw_defaults := [], kwarg := none, defaults := [] }
def defBody (s : Stmt) : List Stmt := match s with
 | .FunctionDef _ _ b _ _ _ _ _ _ _ => b
 | _ => []
def defScope (s : Stmt) : Scope := match s with
 | .FunctionDef _ _ _ _ _ _ sc _ _ _ => sc
 | _ => { kind := .function, names := [], isGenerator := false, isCoroutine := false }
abbrev CX0 : CXT := fun _ _ _ _ _ _ => False
structure Fun (K : PySem.W.Frag) (x qual : Str) (st : Stmt) (f : Addr) (fd : FuncData) : Prop where
 ex : ∃ (oc : Value) (od : Option Addr) (kV doc pm : Value) (an : Option Addr) (cdv ct : Value) (osl : Array (Option Value)),
  fd = PySem.W.fnOf x qual (defArgs st) (defBody st) (defScope st) .none kV doc pm an cdv ct /\ K.lookup f = some ⟨oc, od, .func fd, osl⟩ /\ PySem.W.codeIn K cdv qual = true
 kp : PySem.W.keepIn K (.ref f) = true
section
variable {P : Program} {w : World} {K : PySem.W.Frag} {mg : Str -> Option Value} {base : Heap}
theorem Fun.ok {x qual : Str} {st : Stmt} {f : Addr} {fd : FuncData} {N ps : List Str} {k : Nat} {sp : Sp} (F : Fun K x qual st f fd) (S : FnScope N ps (defScope st)) (len : ∀ vs H Q E, sp vs H Q E -> vs.length = ps.length)
  (hbody : ∀ (cdv : Value) (A : Around) (outer : List Env) (s : Shared) (H : Hp) (vs : List V) (Q : VK) (E : XK), Room k (A.deeper (envOfC qual (defScope st) s.heap.objs.size f cdv)) -> sp vs H Q E →
   ∃ t, PSs (cxOf CX0 P w K mg base N qual (defScope st) f cdv A outer s H E).nox (defBody st) t /\ t { nx := fun _ H' => Q .non H', rt := Q } (start N vs) H) : FnOk P w K mg base CX0 (k + 1) f fd ps sp := by
 obtain ⟨oc, od, kV, doc, pm, an, cdv, ct, osl, rfl, lk, hcd⟩ := F.ex
 refine fn_of lk hcd S len fun A outer s H vs Q E hr hsp => ?_
 obtain ⟨t, h, q⟩ := hbody cdv A outer s H vs Q E hr hsp
 exact ⟨t, h.nox, q⟩
theorem Fun.binds {x qual : Str} {st : Stmt} {f : Addr} {fd : FuncData} {ps : List Str} (F : Fun K x qual st f fd)
  (h : ∀ (kV doc pm : Value) (an : Option Addr) (cdv ct : Value) (us : List Value), us.length = ps.length -> bindArgs (PySem.W.fnOf x qual (defArgs st) (defBody st) (defScope st) .none kV doc pm an cdv ct) ⟨us, []⟩ = pure (ps.zip us)) : Binds K fd ps [] := by
 obtain ⟨oc, od, kV, doc, pm, an, cdv, ct, osl, rfl, lk, hcd⟩ := F.ex
 exact .all (h kV doc pm an cdv ct)
theorem fun_mk {x qual : Str} {st : Stmt} {f : Addr} {oc : Value} {od an : Option Addr} {osl : Array (Option Value)} {kV doc pm cdv ct : Value} (l : K.lookup f = some ⟨oc, od, .func (PySem.W.fnOf x qual (defArgs st) (defBody st) (defScope st) .none kV doc pm an cdv ct), osl⟩)
  (c : PySem.W.codeIn K cdv qual = true) (k : PySem.W.keepIn K (.ref f) = true) : Fun K x qual st f (PySem.W.fnOf x qual (defArgs st) (defBody st) (defScope st) .none kV doc pm an cdv ct) := ⟨⟨oc, od, kV, doc, pm, an, cdv, ct, osl, rfl, l, c⟩, k⟩
end
theorem hu_of {A : Around} {k : Nat} (hr : Room k A) : A.units + 1 < cLine := Nat.lt_of_le_of_lt (Nat.add_le_add_left (by decide : 1 <= 64) _) hr.units
section
variable {X : Cx}
theorem pv (i : Nat) {x : Str} {pos : Pos} (hN : X.N[i]? = some x := by rfl) (hv : Vis X.env.scope x := by first | exact Or.inl rfl | exact Or.inr (Or.inl rfl) | exact Or.inr (Or.inr rfl)) (hd : (x == ("__debug__" : Str)) = false := by decide)
  (hcd : (x == ("__classdict__" : Str)) = false := by decide) : PE X (.Name x pos) (tVar i) := pe_var hN hv hd hcd
end
theorem iteF {A B : Prop} (h : B) : if false = true then A else B := by
 rw [if_neg Bool.false_ne_true]
 exact h
theorem iteT {A B : Prop} (h : A) : if true = true then A else B := by
 rw [if_pos rfl]
 exact h
def Same (H H' : Hp) : Prop := ∀ b o, H b = some o -> H' b = some o
theorem Same.refl (H : Hp) : Same H H := fun _ _ h => h
theorem Same.trans {H H1 H2 : Hp} (a : Same H H1) (b : Same H1 H2) : Same H H2 := fun c o h => b c o (a c o h)
theorem Same.free {H H' : Hp} (e : Same H H') {l : Addr} (h : H' l = Option.none) : H l = Option.none := by
 cases q : H l with
 | none => rfl
 | some o =>
  rw [e l o q] at h
  cases h
theorem Same.seq {K : PySem.W.Frag} {H H' : Hp} {a : Addr} {xs : List V} (e : Same H H') (h : SqL K H a xs) : SqL K H' a xs := by
 rcases h with (h | ⟨o, h⟩) | h
 ·exact .inl (.inl (e _ _ h))
 ·exact .inl (.inr ⟨o, e _ _ h⟩)
 ·exact .inr h
section
variable {κ : Type} [DecidableEq κ]
def valV (kvs : List (κ × V)) (k : κ) : Option V := (kvs.find? fun kv => decide (kv.1 = k)).map (·.2)
def putK (kvs : List (κ × V)) (k : κ) (v : V) : List (κ × V) :=
 if (kvs.any fun kv => decide (kv.1 = k)) = true then kvs.map (fun kv => if kv.1 = k then (kv.1, v) else kv) else kvs ++ [(k, v)]
theorem valV_pos {p : κ × V} {r : List (κ × V)} {k : κ} (e : p.1 = k) : valV (p :: r) k = some p.2 := by simp [valV, List.find?_cons, e]
theorem valV_neg {p : κ × V} {r : List (κ × V)} {k : κ} (e : ¬ p.1 = k) : valV (p :: r) k = valV r k := by simp [valV, List.find?_cons, e]
theorem valV_any (k : κ) : ∀ kvs : List (κ × V), (kvs.any fun kv => decide (kv.1 = k)) = (valV kvs k).isSome
 | [] => rfl
 | p :: r => by
  rw [List.any_cons]
  by_cases e : p.1 = k
  ·simp only [valV_pos e, decide_eq_true e, Bool.true_or, Option.isSome_some]
  ·rw [valV_neg e, decide_eq_false e, Bool.false_or]; exact valV_any k r
theorem length_putK (kvs : List (κ × V)) (k : κ) (v : V) : (putK kvs k v).length <= kvs.length + 1 := by
 unfold putK
 split
 ·rw [List.length_map]; omega
 ·rw [List.length_append, List.length_cons, List.length_nil]; omega
theorem RelO.isSome_eq {o : Option V} {u : Option Value} (r : RelO o u) : o.isSome = u.isSome := by
 cases o with
 | none => cases u with
  | none => rfl
  | some _ => exact (show False from r).elim
 | some _ => cases u with
  | none => exact (show False from r).elim
  | some _ => rfl
theorem RelO.getD {o : Option V} {u : Option Value} {d : V} {d' : Value} (r : RelO o u) (rd : RelV d d') : RelV (o.getD d) (u.getD d') := by
 cases o with
 | none => cases u with
  | none => exact rd
  | some _ => exact (show False from r).elim
 | some _ => cases u with
  | none => exact (show False from r).elim
  | some _ => exact r
theorem KV.val {kvs : List (κ × V)} {vs : List (κ × Value)} (r : KV kvs vs) (k : κ) : RelO (valV kvs k) (valueAt vs k) := by
 unfold KV at r
 induction r with
 | nil => exact True.intro
 | @cons p q ps qs h t ih =>
  obtain ⟨h1, h2⟩ := h
  by_cases e : p.1 = k
  ·have e' : q.1 = k := h1.symm.trans e
   have b : valueAt (q :: qs) k = some q.2 := by simp [valueAt, List.find?_cons, e']
   rw [valV_pos e, b]; exact h2
  ·have e' : ¬ q.1 = k := fun z => e (h1.trans z)
   have b : valueAt (q :: qs) k = valueAt qs k := by simp [valueAt, List.find?_cons, e']
   rw [valV_neg e, b]; exact ih
theorem KV.any {kvs : List (κ × V)} {vs : List (κ × Value)} (r : KV kvs vs) (k : κ) : (kvs.any fun kv => decide (kv.1 = k)) = vs.any fun kv => decide (kv.1 = k) := by
 unfold KV at r
 induction r with
 | nil => rfl
 | cons h t ih => rw [List.any_cons, List.any_cons, ih, h.1]
theorem KV.repl {kvs : List (κ × V)} {vs : List (κ × Value)} (r : KV kvs vs) (k : κ) {y : V} {u : Value} (ry : RelV y u) :
  KV (kvs.map fun kv => if kv.1 = k then (kv.1, y) else kv) (vs.map fun kv => if kv.1 = k then (kv.1, u) else kv) := by
 unfold KV at r ⊢
 induction r with
 | nil => exact .nil
 | @cons p q ps qs h t ih =>
  rw [List.map_cons, List.map_cons]
  refine .cons ?_ ih
  obtain ⟨h1, h2⟩ := h
  by_cases e : p.1 = k
  ·rw [if_pos e, if_pos (h1.symm.trans e)]; exact ⟨h1, ry⟩
  ·rw [if_neg e, if_neg (fun z => e (h1.trans z))]; exact ⟨h1, h2⟩
theorem KV.put {kvs : List (κ × V)} {vs : List (κ × Value)} (r : KV kvs vs) (k : κ) {y : V} {u : Value} (ry : RelV y u) : KV (putK kvs k y) (stored vs k u) := by
 unfold putK stored
 rw [r.any k]
 by_cases e : (vs.any fun kv => decide (kv.1 = k)) = true
 ·rw [if_pos e, if_pos e]; exact r.repl k ry
 ·rw [if_neg e, if_neg e]; exact Paired.snoc r ⟨rfl, ry⟩
theorem KV.keys {kvs : List (κ × V)} {vs : List (κ × Value)} (r : KV kvs vs) : kvs.map (·.1) = vs.map (·.1) := by
 unfold KV at r
 induction r with
 | nil => rfl
 | cons h t ih => rw [List.map_cons, List.map_cons, ih, h.1]
theorem KV.length {kvs : List (κ × V)} {vs : List (κ × Value)} (r : KV kvs vs) : kvs.length = vs.length := Paired.length r
end
theorem kV_is {P : Program} {w : World} {k : Key} {u : Value} (r : RelV (kV k) u) : (mixKind P w).is k u = true := by
 cases k with
 | inl i => obtain ⟨t, e⟩ := (show ∃ t, u = Value.int i t from r); subst e; exact mixKind_int P w i t
 | inr x => obtain ⟨t, e⟩ := (show ∃ t, u = Value.str x t from r); subst e; exact mixKind_str P w x t
theorem items_are {P : Program} {w : World} : ∀ {ks : List Key} {us : List Value}, Vals (ks.map kV) us -> ItemsAre (mixKind P w) ks us
 | [], _, r => by rw [List.map_nil] at r; cases r; exact .nil
 | k :: ks, _, r => by
  rw [List.map_cons] at r
  cases r with
  | cons h t => exact .cons (kV_is h) (items_are t)
abbrev KT (H : Hp) : List (List Key × V) -> List (List Key × Addr × Value) -> Prop := Paired fun p q => p.1 = q.1 /\ H q.2.1 = some (.tup (p.1.map kV)) /\ RelV p.2 q.2.2
theorem KT.val {H : Hp} {kvs : List (List Key × V)} {xs : List (List Key × Addr × Value)} (r : KT H kvs xs) (k : List Key) : RelO (valV kvs k) ((atKey xs k).map (·.2)) := by
 induction r with
 | nil => exact True.intro
 | @cons p q ps qs h t ih =>
  obtain ⟨h1, _, h2⟩ := h
  by_cases e : p.1 = k
  ·have e' : q.1 = k := h1.symm.trans e
   have b : atKey (q :: qs) k = some q.2 := by simp [atKey, List.find?_cons, e']
   rw [valV_pos e, b]; exact h2
  ·have e' : ¬ q.1 = k := fun z => e (h1.trans z)
   have b : atKey (q :: qs) k = atKey qs k := by simp [atKey, List.find?_cons, e']
   rw [valV_neg e, b]; exact ih
theorem KT.repl {H : Hp} {kvs : List (List Key × V)} {xs : List (List Key × Addr × Value)} (r : KT H kvs xs) (k : List Key) {y : V} {u : Value} (ry : RelV y u) :
  KT H (kvs.map fun kv => if kv.1 = k then (kv.1, y) else kv) (xs.map (putAt k u)) := by
 induction r with
 | nil => exact .nil
 | @cons p q ps qs h t ih =>
  rw [List.map_cons, List.map_cons]
  refine .cons ?_ ih
  obtain ⟨h1, h2, h3⟩ := h
  unfold putAt
  by_cases e : p.1 = k
  ·rw [if_pos e, if_pos (h1.symm.trans e)]; exact ⟨h1, h2, ry⟩
  ·rw [if_neg e, if_neg (fun z => e (h1.trans z))]; exact ⟨h1, h2, h3⟩
theorem KT.put {H : Hp} {kvs : List (List Key × V)} {xs : List (List Key × Addr × Value)} (r : KT H kvs xs) (k : List Key) {b : Addr} {y : V} {u : Value} (hb : H b = some (.tup (k.map kV))) (ry : RelV y u) :
  KT H (putK kvs k y) (storedH xs k b u) := by
 have e : (kvs.any fun kv => decide (kv.1 = k)) = (atKey xs k).isSome := by
  rw [valV_any, (r.val k).isSome_eq, Option.isSome_map]
 unfold putK storedH
 rw [e]
 by_cases q : (atKey xs k).isSome = true
 ·rw [if_pos q, if_pos q]; exact r.repl k ry
 ·rw [if_neg q, if_neg q]; exact Paired.snoc r ⟨rfl, hb, ry⟩
theorem KT.keeps {H H' : Hp} {kvs : List (List Key × V)} {xs : List (List Key × Addr × Value)} (r : KT H kvs xs) (ht : ∀ b ys, H b = some (.tup ys) -> H' b = some (.tup ys)) : KT H' kvs xs :=
 Paired.mapP r fun _ _ z => ⟨z.1, ht _ _ z.2.1, z.2.2⟩
section
variable {P : Program} {w : World} {H : Hp} {h : Heap} {a : Addr}
theorem rd_of {u : HO} (ok : HOk P w H h) (e : Rd H a u) : ObjOk P w H h a u := e.ok ok
theorem dk_rd {kvs : List (Key × V)} (ok : HOk P w H h) (e : Rd H a (.dK kvs)) : kvs.length <= sizeLine /\ (a == sysModules) = false /\ ∃ vs, KV kvs vs /\ h.DictOf (mixKind P w) a vs :=
 show ObjOk P w H h a (.dK kvs) from rd_of ok e
theorem dk_of {kvs : List (Key × V)} (ok : HOk P w H h) (e : H a = some (.dK kvs)) : kvs.length <= sizeLine /\ (a == sysModules) = false /\ ∃ vs, KV kvs vs /\ h.DictOf (mixKind P w) a vs := dk_rd ok (.inl e)
theorem key_of {ks : List Key} (ok : HOk P w H h) (e : H a = some (.tup (ks.map kV))) : (tupleKind (mixKind P w)).is h ks a := by
 obtain ⟨_, its, r, o, h1, h2, n, h3⟩ := (show ObjOk P w H h a (.tup (ks.map kV)) from ok a _ e)
 exact ⟨o, its.toArray, n, h1, h2, h3, by simpa using items_are r⟩
theorem dt_rd {kvs : List (List Key × V)} (ok : HOk P w H h) (e : Rd H a (.dT kvs)) : kvs.length <= sizeLine /\ (a == sysModules) = false /\
  ∃ xs, KT H kvs xs /\ h.DictOfH (tupleKind (mixKind P w)) a xs := by
 obtain ⟨z, y, xs, r, o, es, ep, h1, h2, h3, h4, h5⟩ := (show ObjOk P w H h a (.dT kvs) from rd_of ok e)
 refine ⟨z, y, xs, r, o, es, ep, h1, h2, h3, h4, fun x hx => ?_, h5⟩
 have all : ∀ {l : List (List Key × V)} {m : List (List Key × Addr × Value)}, KT H l m -> ∀ x ∈ m, (tupleKind (mixKind P w)).is h x.1 x.2.1 := by
  intro l m q
  induction q with
  | nil => intro x hx; exact nomatch hx
  | @cons p q ps qs hq t ih =>
   intro x hx
   rcases List.mem_cons.mp hx with e | hx
   ·subst e
    exact key_of ok (by rw [<- hq.1]; exact hq.2.1)
   ·exact ih x hx
 exact all r x hx
theorem dt_of {kvs : List (List Key × V)} (ok : HOk P w H h) (e : H a = some (.dT kvs)) : kvs.length <= sizeLine /\ (a == sysModules) = false /\
  ∃ xs, KT H kvs xs /\ h.DictOfH (tupleKind (mixKind P w)) a xs := dt_rd ok (.inl e)
end
def DGet (H : Hp) (a : Addr) (y : V) (r : Option V) : Prop :=
 (∃ kvs k, Rd H a (.dK kvs) /\ y = kV k /\ r = valV kvs k) \/ ∃ kvs k b, Rd H a (.dT kvs) /\ y = .ref b /\ H b = some (.tup (k.map kV)) /\ r = valV kvs k
def DPut (H : Hp) (a : Addr) (y v : V) (H' : Hp) : Prop :=
 (∃ kvs k, H a = some (.dK kvs) /\ y = kV k /\ kvs.length < sizeLine /\ H' = upd H a (.dK (putK kvs k v))) \/
 ∃ kvs k b, H a = some (.dT kvs) /\ y = .ref b /\ H b = some (.tup (k.map kV)) /\ kvs.length < sizeLine /\ H' = upd H a (.dT (putK kvs k v))
theorem DGet.k {H : Hp} {a : Addr} {kvs : List (Key × V)} {k : Key} (e : H a = some (.dK kvs)) : DGet H a (kV k) (valV kvs k) := .inl ⟨kvs, k, .inl e, rfl, rfl⟩
theorem DGet.t {H : Hp} {a b : Addr} {kvs : List (List Key × V)} {k : List Key} (e : H a = some (.dT kvs)) (eb : H b = some (.tup (k.map kV))) : DGet H a (.ref b) (valV kvs k) := .inr ⟨kvs, k, b, .inl e, rfl, eb, rfl⟩
theorem DPut.k {H : Hp} {a : Addr} {kvs : List (Key × V)} {k : Key} {v : V} (e : H a = some (.dK kvs)) (hl : kvs.length < sizeLine) : DPut H a (kV k) v (upd H a (.dK (putK kvs k v))) := .inl ⟨kvs, k, e, rfl, hl, rfl⟩
theorem DPut.t {H : Hp} {a b : Addr} {kvs : List (List Key × V)} {k : List Key} {v : V} (e : H a = some (.dT kvs)) (eb : H b = some (.tup (k.map kV))) (hl : kvs.length < sizeLine) :
  DPut H a (.ref b) v (upd H a (.dT (putK kvs k v))) := .inr ⟨kvs, k, b, e, rfl, eb, hl, rfl⟩
section
variable {X : Cx} {pins : List (Addr × Obj)} {σ : St} {H : Hp} {s : Shared} {a : Addr} {y v : V} {u r : Value} {o : Option V} {A : Around} {E : Value -> Shared -> Prop}
theorem Inv.big (I : Inv X pins σ H s) : sysModules < s.heap.objs.size := by
 have h : mainGlobals < s.heap.objs.size := (I.mod.glob.keeps I.bk).lt
 exact Nat.lt_trans (by decide) h
theorem d_getItem {Q : Value -> Shared -> Prop} (hu : A.units + 1 < cLine) (I : Inv X pins σ H s) (g : DGet H a y (some v)) (ry : RelV y u) (h : ∀ w' s', Inv X pins σ H s' -> RelV v w' -> Q w' s') :
  wpAny (model X.prog X.w) A (getItem (.ref a) u) Q E s := by
 rcases g with ⟨kvs, k, e, ey, l⟩ | ⟨kvs, k, b, e, ey, eb, l⟩
 ·subst ey
  obtain ⟨z, hd, vs, rel, dd⟩ := dk_rd I.hok e
  obtain ⟨w', hw, rw'⟩ := RelO.some_of (v := v) (o := valueAt vs k) (by rw [l]; exact rel.val k)
  exact wpAny_getItem_of (kV_is ry) dd.mapOf hw (h w' _ (I.tok _) rw')
 ·subst ey
  cases (show u = Value.ref b from ry)
  obtain ⟨z, hd, xs, rel, dd⟩ := dt_rd I.hok e
  obtain ⟨w', hw, rw'⟩ := RelO.some_of (v := v) (o := (atKey xs k).map (·.2)) (by rw [l]; exact rel.val k)
  obtain ⟨p, hp, hp2⟩ := Option.map_eq_some_iff.mp hw
  refine wpAny_getItem_heap (tupleKind_room_in1 hu) (key_of I.hok eb) dd hp ?_
  rw [hp2]
  exact h w' _ (I.tok _) rw'
theorem d_in {Q : Value -> Shared -> Prop} (hu : A.units + 1 < cLine) (I : Inv X pins σ H s) (g : DGet H a y o) (ry : RelV y u) (h : ∀ s', Inv X pins σ H s' -> Q (.bool o.isSome) s') :
  wpAny (model X.prog X.w) A (compareOp .In u (.ref a)) Q E s := by
 rcases g with ⟨kvs, k, e, ey, l⟩ | ⟨kvs, k, b, e, ey, eb, l⟩
 ·subst ey
  obtain ⟨z, hd, vs, rel, dd⟩ := dk_rd I.hok e
  refine wpAny_in_of (kV_is ry) hd dd.mapOf ?_
  rw [<- (rel.val k).isSome_eq, <- l]
  exact h _ (I.tok _)
 ·subst ey
  cases (show u = Value.ref b from ry)
  obtain ⟨z, hd, xs, rel, dd⟩ := dt_rd I.hok e
  refine wpAny_in_heap (tupleKind_room_in1 hu) (key_of I.hok eb) hd dd ?_
  have q := (rel.val k).isSome_eq
  rw [Option.isSome_map] at q
  rw [<- q, <- l]
  exact h _ (I.tok _)
theorem d_notIn {Q : Value -> Shared -> Prop} (hu : A.units + 1 < cLine) (I : Inv X pins σ H s) (g : DGet H a y o) (ry : RelV y u) (h : ∀ s', Inv X pins σ H s' -> Q (.bool (!o.isSome)) s') :
  wpAny (model X.prog X.w) A (compareOp .NotIn u (.ref a)) Q E s := by
 rcases g with ⟨kvs, k, e, ey, l⟩ | ⟨kvs, k, b, e, ey, eb, l⟩
 ·subst ey
  obtain ⟨z, hd, vs, rel, dd⟩ := dk_rd I.hok e
  refine wpAny_notIn_of (kV_is ry) hd dd.mapOf ?_
  rw [<- (rel.val k).isSome_eq, <- l]
  exact h _ (I.tok _)
 ·subst ey
  cases (show u = Value.ref b from ry)
  obtain ⟨z, hd, xs, rel, dd⟩ := dt_rd I.hok e
  refine wpAny_notIn_heap (tupleKind_room_in1 hu) (key_of I.hok eb) hd dd ?_
  have q := (rel.val k).isSome_eq
  rw [Option.isSome_map] at q
  rw [<- q, <- l]
  exact h _ (I.tok _)
theorem d_write {h' : Heap} {t' : Nat} {ob : HO} (I : Inv X pins σ H s) (mu : Mut (H a)) (hs : Heap.SameBut a s.heap h') (he : ∃ q, h'.get? a = some q) (new : ObjOk X.prog X.w (upd H a ob) h' a ob) :
  Inv X pins σ (upd H a ob) { s with heap := h', toks := t' } :=
 I.write (x := a) (e := a) mu (.inl rfl) (fun b q hb z => (hs.2 b hb).trans z) he new
theorem dk_new {P : Program} {w : World} {H' : Hp} {h' : Heap} {kvs : List (Key × V)} {vs : List (Key × Value)} (z : kvs.length <= sizeLine) (hd : (a == sysModules) = false) (rel : KV kvs vs) (dd : h'.DictOf (mixKind P w) a vs) :
  ObjOk P w H' h' a (.dK kvs) := ⟨z, hd, vs, rel, dd⟩
theorem d_setItem {H' : Hp} {Q : Unit -> Shared -> Prop} (hu : A.units + 1 < cLine) (I : Inv X pins σ H s) (g : DPut H a y v H') (ry : RelV y u) (rv : RelV v r) (h : ∀ s', Inv X pins σ H' s' -> Q () s') :
  wpAny (model X.prog X.w) A (setItem (.ref a) u r) Q E s := by
 rcases g with ⟨kvs, k, e, ey, l, eH⟩ | ⟨kvs, k, b, e, ey, eb, l, eH⟩
 ·subst ey eH
  obtain ⟨z, hd, vs, rel, dd⟩ := dk_of I.hok e
  have hz : vs.length <= sizeLine := by rw [<- rel.length]; exact z
  have hl : (putK kvs k v).length <= sizeLine := by have := length_putK kvs k v; omega
  refine wpAny_setItem_pairs (hsz := hz) (kV_is ry) dd fun h' dd' hs => h _ ?_
  have he : ∃ q, h'.get? a = some q := let ⟨q, _, _, hq, _⟩ := dd'; ⟨q, hq⟩
  exact d_write I (by rw [e]; exact True.intro) hs he (dk_new hl hd (rel.put k rv) dd')
 ·subst ey eH
  cases (show u = Value.ref b from ry)
  obtain ⟨z, hd, xs, rel, dd⟩ := dt_of I.hok e
  have hz : xs.length <= sizeLine := by rw [<- Paired.length rel]; exact z
  have hl : (putK kvs k v).length <= sizeLine := by have := length_putK kvs k v; omega
  refine wpAny_setItem_heap (hsz := hz) (tupleKind_room_in1 hu) (key_of I.hok eb) dd fun h' dd' hs => h _ ?_
  obtain ⟨q, es, ep, hq, h2, h3, h4, _, h5⟩ := dd'
  refine d_write I (by rw [e]; exact True.intro) hs ⟨q, hq⟩ ⟨hl, hd, _, (rel.put k eb rv).keeps fun c ys ec => ?_, q, es, ep, hq, h2, h3, h4, h5⟩
  rw [upd_ne (ne_of ec e (fun z => nomatch z))]
  exact ec
end
theorem dict_typeIs {X : Cx} {pins : List (Addr × Obj)} {σ : St} {H : Hp} {s : Shared} {a : Addr} {y : V} {o : Option V} (I : Inv X pins σ H s) (g : DGet H a y o) : s.TypeIs (.ref a) "dict" := by
 rcases g with ⟨kvs, k, e, _, _⟩ | ⟨kvs, k, b, e, _, _, _⟩
 ·obtain ⟨_, _, vs, _, dd⟩ := dk_rd I.hok e
  exact dd.typeIs
 ·obtain ⟨_, _, xs, _, dd⟩ := dt_rd I.hok e
  exact dd.typeIs
theorem dk_empty {P : Program} {w : World} {H : Hp} (h : Heap) (hb : sysModules < h.objs.size) : ObjOk P w H (h.push { cls := .type "dict", data := .dict #[] }) h.objs.size (.dK []) :=
 ⟨Nat.zero_le _, beq_eq_false_iff_ne.mpr (Ne.symm (Nat.ne_of_lt hb)), [], .nil, Heap.DictOf.new h⟩
def tDNewK : TE := fun _ H Q => ∀ p, H p = none -> Q (.ref p) (upd H p (.dK []))
section
variable {X : Cx} {pos : Pos}
theorem pe_dnewK : PE X (.Dict [] [] pos) tDNewK := fun pins s σ H Q I h =>
 wpAny_Dict_empty ⟨.ref s.heap.objs.size, _, I.laid (a := s.heap.objs.size) (o := .dK []) (t' := s.toks) (fun _ _ q => Heap.get?_push_of_some _ q) (Nat.le_refl _) (dk_empty s.heap I.big), rfl, h _ (I.hok.fresh (Nat.le_refl _))⟩
end
end L2
namespace IL
open PySem PySem.Spec PyProof.Rows L2
inductive W where
 | non | bl (b : Bool) | int (i : Int) | str (x : Str) | tup (ws : List W) | fl (ws : List W) | ref (i : Nat) | exc (c : Str) (ns : List Str) (ws : List W) | fn (x : Str) (ws : List W)
mutual
def W.dec : (a b : W) -> Decidable (a = b)
 | .non, .non => Decidable.isTrue rfl
 | .bl a, .bl b => if h : a = b then Decidable.isTrue (by rw [h]) else Decidable.isFalse (fun e => h (W.bl.inj e))
 | .int a, .int b => if h : a = b then Decidable.isTrue (by rw [h]) else Decidable.isFalse (fun e => h (W.int.inj e))
 | .str a, .str b => if h : a = b then Decidable.isTrue (by rw [h]) else Decidable.isFalse (fun e => h (W.str.inj e))
 | .tup a, .tup b => match W.decs a b with
  | Decidable.isTrue h => Decidable.isTrue (by rw [h])
  | Decidable.isFalse h => Decidable.isFalse (fun e => h (W.tup.inj e))
 | .fl a, .fl b => match W.decs a b with
  | Decidable.isTrue h => Decidable.isTrue (by rw [h])
  | Decidable.isFalse h => Decidable.isFalse (fun e => h (W.fl.inj e))
 | .ref a, .ref b => if h : a = b then Decidable.isTrue (by rw [h]) else Decidable.isFalse (fun e => h (W.ref.inj e))
 | .exc c ns a, .exc c' ns' b => match W.decs a b with
  | Decidable.isTrue h => if h1 : c = c' then if h2 : ns = ns' then Decidable.isTrue (by rw [h, h1, h2]) else Decidable.isFalse (fun e => h2 (W.exc.inj e).2.1) else Decidable.isFalse (fun e => h1 (W.exc.inj e).1)
  | Decidable.isFalse h => Decidable.isFalse (fun e => h (W.exc.inj e).2.2)
 | .fn c a, .fn c' b => match W.decs a b with
  | Decidable.isTrue h => if h1 : c = c' then Decidable.isTrue (by rw [h, h1]) else Decidable.isFalse (fun e => h1 (W.fn.inj e).1)
  | Decidable.isFalse h => Decidable.isFalse (fun e => h (W.fn.inj e).2)
 | .non, .bl _ | .non, .int _ | .non, .str _ | .non, .tup _ | .non, .fl _ | .non, .ref _ | .non, .exc _ _ _ => Decidable.isFalse (fun e => nomatch e)
 | .bl _, .non | .bl _, .int _ | .bl _, .str _ | .bl _, .tup _ | .bl _, .fl _ | .bl _, .ref _ | .bl _, .exc _ _ _ => Decidable.isFalse (fun e => nomatch e)
 | .int _, .non | .int _, .bl _ | .int _, .str _ | .int _, .tup _ | .int _, .fl _ | .int _, .ref _ | .int _, .exc _ _ _ => Decidable.isFalse (fun e => nomatch e)
 | .str _, .non | .str _, .bl _ | .str _, .int _ | .str _, .tup _ | .str _, .fl _ | .str _, .ref _ | .str _, .exc _ _ _ => Decidable.isFalse (fun e => nomatch e)
 | .tup _, .non | .tup _, .bl _ | .tup _, .int _ | .tup _, .str _ | .tup _, .fl _ | .tup _, .ref _ | .tup _, .exc _ _ _ => Decidable.isFalse (fun e => nomatch e)
 | .fl _, .non | .fl _, .bl _ | .fl _, .int _ | .fl _, .str _ | .fl _, .tup _ | .fl _, .ref _ | .fl _, .exc _ _ _ => Decidable.isFalse (fun e => nomatch e)
 | .ref _, .non | .ref _, .bl _ | .ref _, .int _ | .ref _, .str _ | .ref _, .tup _ | .ref _, .fl _ | .ref _, .exc _ _ _ => Decidable.isFalse (fun e => nomatch e)
 | .exc _ _ _, .non | .exc _ _ _, .bl _ | .exc _ _ _, .int _ | .exc _ _ _, .str _ | .exc _ _ _, .tup _ | .exc _ _ _, .fl _ | .exc _ _ _, .ref _ => Decidable.isFalse (fun e => nomatch e)
 | .non, .fn _ _ | .bl _, .fn _ _ | .int _, .fn _ _ | .str _, .fn _ _ | .tup _, .fn _ _ | .fl _, .fn _ _ | .ref _, .fn _ _ | .exc _ _ _, .fn _ _ => Decidable.isFalse (fun e => nomatch e)
 | .fn _ _, .non | .fn _ _, .bl _ | .fn _ _, .int _ | .fn _ _, .str _ | .fn _ _, .tup _ | .fn _ _, .fl _ | .fn _ _, .ref _ | .fn _ _, .exc _ _ _ => Decidable.isFalse (fun e => nomatch e)
def W.decs : (a b : List W) -> Decidable (a = b)
 | [], [] => Decidable.isTrue rfl
 | a :: as, b :: bs => match W.dec a b, W.decs as bs with
  | Decidable.isTrue h, Decidable.isTrue h' => Decidable.isTrue (by rw [h, h'])
  | Decidable.isFalse h, _ => Decidable.isFalse (fun e => h (List.cons.inj e).1)
  | _, Decidable.isFalse h => Decidable.isFalse (fun e => h (List.cons.inj e).2)
 | [], _ :: _ | _ :: _, [] => Decidable.isFalse (fun e => nomatch e)
end
instance : DecidableEq W := W.dec
inductive PO where
 | lst (ws : List W)
 | dct (kvs : List (W × W))
 | obj (c : Str) (fs : List (Str × W))
 | fdc (kvs : List (W × W))
 | udc (kvs : List (W × W))
 deriving DecidableEq
def PO.fz : PO -> Bool
 | .fdc _ => true
 | _ => false
abbrev PH := List PO
abbrev Po (α : Type) := PH -> Option (α × PH)
def ret {α : Type} (a : α) : Po α := fun ph => some (a, ph)
def nono {α : Type} : Po α := fun _ => none
structure XC where
 cls : Str
 fs : List (Str × W)
inductive Out (α : Type) where
 | ok (a : α) (ph : PH)
 | ex (x : XC) (ph : PH)
 | no
def Out.Run {α : Type} (r : Out α) (N : α -> PH -> Prop) (E : XC -> PH -> Prop) : Prop := match r with
 | .ok a ph => N a ph
 | .ex x ph => E x ph
 | .no => False
theorem Out.Run.mono {α : Type} {r : Out α} {N N' : α -> PH -> Prop} {E E' : XC -> PH -> Prop} (h : r.Run N E) (hn : ∀ a ph, N a ph -> N' a ph) (he : ∀ x ph, E x ph -> E' x ph) : r.Run N' E' := by
 cases r with
 | ok a ph => exact hn a ph h
 | ex x ph => exact he x ph h
 | no => exact h
abbrev Mo (α : Type) := PH -> Out α
def pur {α : Type} (a : α) : Mo α := fun ph => .ok a ph
def nop {α : Type} : Mo α := fun _ => .no
def lift {α : Type} (o : Po α) : Mo α := fun ph => match o ph with
 | some p => .ok p.1 p.2
 | none => .no
def bnd {α β : Type} (m : Mo α) (f : α -> Mo β) : Mo β := fun ph => match m ph with
 | .ok a ph' => f a ph'
 | .ex x ph' => .ex x ph'
 | .no => .no
theorem run_bnd {α β : Type} {m : Mo α} {f : α -> Mo β} {ph : PH} {N : β -> PH -> Prop} {E : XC -> PH -> Prop} : (bnd m f ph).Run N E = (m ph).Run (fun a ph1 => (f a ph1).Run N E) E := by
 unfold bnd
 cases m ph <;> rfl
theorem run_lift {α : Type} {o : Po α} {ph : PH} {N : α -> PH -> Prop} {E : XC -> PH -> Prop} (h : (lift o ph).Run N E) : ∃ a ph', o ph = some (a, ph') /\ N a ph' := by
 unfold lift at h
 cases e : o ph with
 | none => rw [e] at h; exact h.elim
 | some p => rw [e] at h; exact ⟨p.1, p.2, rfl, h⟩
abbrev PSt := List (Option W)
abbrev EM := PSt -> Mo W
abbrev TM := PSt -> Mo Bool
abbrev AM := PSt -> Mo (List W)
inductive Fl where
 | nx (σ : PSt) | rt (w : W) | bk (σ : PSt) | ct (σ : PSt)
abbrev SM := PSt -> Mo Fl
def KL (K : PySem.W.Frag) (a : Addr) (xs : List V) : Prop :=
 ∃ (o : Obj) (its : Array Value) (n : Nat), K.lookup a = some o /\ o.cls = .type "list" /\ o.dict = none /\ o.data = .seq its n /\ its.size <= sizeLine /\ Vals xs its.toList
def FrzL (K : PySem.W.Frag) (H : Hp) (a : Addr) (xs : List V) : Prop := (∃ o, H a = some (.frz o (.lst xs))) \/ KL K a xs
theorem FrzL.sq {K : PySem.W.Frag} {H : Hp} {a : Addr} {xs : List V} (h : FrzL K H a xs) : SqL K H a xs := by
 rcases h with ⟨o, h⟩ | h
 ·exact .inl (.inr ⟨o, h⟩)
 ·exact .inr h
def XFld (H : Hp) (o : Obj) (ns : List Str) (vs : List V) : Prop := (ns = [] /\ vs = []) \/ ∃ d od, o.dict = some d /\ ns.length = vs.length /\ H d = some (.frz od (.xd (ns.zip vs)))
abbrev hoAny : HO := .ext fun _ => True
structure Lam where
 ar : Arguments
 bd : Expr
 sc : Scope
 pos : Pos
def lamB : List Stmt -> Option Lam
 | [.Return (some (.Call _ [_, .Lambda a b s p] _ _)) _] => some ⟨a, b, s, p⟩
 | _ => none
def lamIn (K : PySem.W.Frag) (x : Str) : Option Lam := match PySem.W.nsIn K mainGlobals x with
 | some (some (.ref f)) => (match K.lookup f with
  | some ⟨_, _, .func fd, _⟩ => (match fd.body with
   | .stmts b => lamB b
   | _ => none)
  | _ => none)
 | _ => none
def lamTabs (K : PySem.W.Frag) : List (Str × Addr × Addr) := match K.lookup mainGlobals with
 | some ⟨_, _, .dict es _, _⟩ => es.toList.filterMap fun e => match e.key with
  | .str x _ => if (lamIn K x).isSome then (PySem.W.tabIn K x).map (x, ·) else none
  | _ => none
 | _ => []
def lamQ (x : Str) : Str := (x ++ ".<locals>.") ++ "<lambda>"
def CodeG (H : Hp) (v : Value) (x : Str) : Prop := ∃ c oc vs t, v = .ref c /\ H c = some (.frz oc hoAny) /\ oc.data = .fields vs /\ vs[1]? = some (.str (lamQ x) t)
def TabG (H : Hp) (x : Str) (P : Addr) : Prop := ∃ ps, H P = some (.tbl ps) /\ PySem.TriplesOk ps.toList /\ ∀ pos v, codeAmong pos ps.toList = some v -> CodeG H v x
def LamO (K : PySem.W.Frag) (H : Hp) (x : Str) (o : Obj) (cl : List (Str × Addr)) : Prop := ∃ L pm v ctv, lamIn K x = some L /\ o = { cls := .type "function", data := .func (PySem.W.kla_fn "<lambda>" (lamQ x) L.ar L.bd L.sc cl pm v ctv) } /\ CodeG H v x /\
 ∀ y, L.sc.names.lookup y = some .free -> ∃ c, cl.lookup y = some c
def CellsV (H : Hp) : List (Str × Addr) -> List V -> Prop
 | [], [] => True
 | p :: cl, v :: vs => (∃ oc u, H p.2 = some (.frz oc hoAny) /\ oc.data = .cell (some u) /\ RelV v u) /\ CellsV H cl vs
 | _, _ => False
mutual
inductive RelW (K : PySem.W.Frag) (φ : Nat -> Addr) (n : Nat) (H : Hp) : W -> V -> Prop where
 | non : RelW K φ n H .non .non
 | bl (b : Bool) : RelW K φ n H (.bl b) (.bl b)
 | int (i : Int) : RelW K φ n H (.int i) (.int i)
 | str (x : Str) : RelW K φ n H (.str x) (.str x)
 | tup {ws : List W} {a : Addr} {vs : List V} (h : H a = some (.tup vs)) (r : RelWs K φ n H ws vs) : RelW K φ n H (.tup ws) (.ref a)
 | fl {ws : List W} {a : Addr} {vs : List V} (h : FrzL K H a vs) (r : RelWs K φ n H ws vs) : RelW K φ n H (.fl ws) (.ref a)
 | ref {i : Nat} (h : i < n) : RelW K φ n H (.ref i) (.ref (φ i))
 | exc {c : Str} {ns : List Str} {ws : List W} {a C : Addr} {vs : List V} {o : Obj} {u : HO} (h : H a = some (.frz o u)) (hc : o.cls = .ref C) (hn : PySem.W.nsIn K mainGlobals c = some (some (.ref C))) (hk : PySem.W.notCls o = true) (hf : XFld H o ns vs) (r : RelWs K φ n H ws vs) : RelW K φ n H (.exc c ns ws) (.ref a)
 | fn {x : Str} {ws : List W} {a : Addr} {vs : List V} {o : Obj} {cl : List (Str × Addr)} (h : H a = some (.frz o hoAny)) (hl : LamO K H x o cl) (hc : CellsV H cl vs) (r : RelWs K φ n H ws vs) : RelW K φ n H (.fn x ws) (.ref a)
inductive RelWs (K : PySem.W.Frag) (φ : Nat -> Addr) (n : Nat) (H : Hp) : List W -> List V -> Prop where
 | nil : RelWs K φ n H [] []
 | cons {w : W} {v : V} {ws : List W} {vs : List V} (h : RelW K φ n H w v) (r : RelWs K φ n H ws vs) : RelWs K φ n H (w :: ws) (v :: vs)
end
structure Step (K : PySem.W.Frag) (φ : Nat -> Addr) (n : Nat) (H : Hp) (φ' : Nat -> Addr) (n' : Nat) (H' : Hp) : Prop where
 le : n <= n'
 eq : ∀ i, i < n -> φ' i = φ i
 tup : ∀ a xs, H a = some (.tup xs) -> H' a = some (.tup xs)
 frz : ∀ a o u, H a = some (.frz o u) -> H' a = some (.frz o u)
section
variable {K : PySem.W.Frag} {φ φ' φ'' : Nat -> Addr} {n n' n'' : Nat} {H H' H'' : Hp}
theorem Step.refl : Step K φ n H φ n H := ⟨Nat.le_refl _, fun _ _ => rfl, fun _ _ h => h, fun _ _ _ h => h⟩
theorem Step.trans (a : Step K φ n H φ' n' H') (b : Step K φ' n' H' φ'' n'' H'') : Step K φ n H φ'' n'' H'' :=
 ⟨Nat.le_trans a.le b.le, fun i h => (b.eq i (Nat.lt_of_lt_of_le h a.le)).trans (a.eq i h), fun c xs h => b.tup c xs (a.tup c xs h), fun c o u h => b.frz c o u (a.frz c o u h)⟩
theorem XFld.mono (s : Step K φ n H φ' n' H') {o : Obj} {ns : List Str} {vs : List V} (h : XFld H o ns vs) : XFld H' o ns vs :=
 h.imp_right fun ⟨d, od, e1, e2, e3⟩ => ⟨d, od, e1, e2, s.frz _ _ _ e3⟩
theorem CodeG.mono {v : Value} {x : Str} (h : CodeG H v x) (s : ∀ a o, H a = some (.frz o hoAny) -> H' a = some (.frz o hoAny)) : CodeG H' v x :=
 let ⟨c, oc, vs, t, e1, e2, e3⟩ := h; ⟨c, oc, vs, t, e1, s _ _ e2, e3⟩
theorem LamO.mono {x : Str} {o : Obj} {cl : List (Str × Addr)} (h : LamO K H x o cl) (s : ∀ a o, H a = some (.frz o hoAny) -> H' a = some (.frz o hoAny)) : LamO K H' x o cl :=
 let ⟨L, pm, v, ctv, e1, e2, e3, e4⟩ := h; ⟨L, pm, v, ctv, e1, e2, e3.mono s, e4⟩
theorem CellsV.mono (s : ∀ a o, H a = some (.frz o hoAny) -> H' a = some (.frz o hoAny)) : ∀ {cl : List (Str × Addr)} {vs : List V}, CellsV H cl vs -> CellsV H' cl vs
 | [], [], _ => trivial
 | _ :: _, _ :: _, ⟨⟨oc, u, e1, e2⟩, r⟩ => ⟨⟨oc, u, s _ _ e1, e2⟩, CellsV.mono s r⟩
 | [], _ :: _, h => h.elim
 | _ :: _, [], h => h.elim
mutual
theorem RelW.mono (s : Step K φ n H φ' n' H') : ∀ {w : W} {v : V}, RelW K φ n H w v -> RelW K φ' n' H' w v
 | _, _, .non => .non
 | _, _, .bl b => .bl b
 | _, _, .int i => .int i
 | _, _, .str x => .str x
 | _, _, .tup h r => .tup (s.tup _ _ h) (RelWs.mono s r)
 | _, _, .fl h r => .fl (h.elim (fun ⟨o, e⟩ => .inl ⟨o, s.frz _ _ _ e⟩) .inr) (RelWs.mono s r)
 | _, _, .ref (i := i) h => (s.eq i h) ▸ .ref (Nat.lt_of_lt_of_le h s.le)
 | _, _, .exc h hc hn hk hf r => .exc (s.frz _ _ _ h) hc hn hk (hf.mono s) (RelWs.mono s r)
 | _, _, .fn h hl hc r => .fn (s.frz _ _ _ h) (hl.mono fun a o z => s.frz a o _ z) (hc.mono fun a o z => s.frz a o _ z) (RelWs.mono s r)
theorem RelWs.mono (s : Step K φ n H φ' n' H') : ∀ {ws : List W} {vs : List V}, RelWs K φ n H ws vs -> RelWs K φ' n' H' ws vs
 | _, _, .nil => .nil
 | _, _, .cons h r => .cons (RelW.mono s h) (RelWs.mono s r)
end
theorem RelWs.length : ∀ {ws : List W} {vs : List V}, RelWs K φ n H ws vs -> ws.length = vs.length
 | _, _, .nil => rfl
 | _, _, .cons _ r => by simp [RelWs.length r]
theorem RelWs.get : ∀ {ws : List W} {vs : List V} {i : Nat} {w : W}, RelWs K φ n H ws vs -> ws[i]? = some w -> ∃ v, vs[i]? = some v /\ RelW K φ n H w v
 | _, _, _, _, .nil, e => by simp at e
 | _, _, 0, _, .cons h _, e => by simp at e; subst e; exact ⟨_, rfl, h⟩
 | _, _, i + 1, w, .cons _ r, e => by
  obtain ⟨u, h1, h2⟩ := RelWs.get (i := i) (w := w) r (by simpa using e)
  exact ⟨u, by simpa using h1, h2⟩
theorem RelWs.append : ∀ {ws xs : List W} {vs us : List V}, RelWs K φ n H ws vs -> RelWs K φ n H xs us -> RelWs K φ n H (ws ++ xs) (vs ++ us)
 | _, _, _, _, .nil, s => s
 | _, _, _, _, .cons h r, s => .cons h (RelWs.append r s)
theorem RelWs.take : ∀ {ws : List W} {vs : List V} (k : Nat), RelWs K φ n H ws vs -> RelWs K φ n H (ws.take k) (vs.take k)
 | _, _, 0, _ => .nil
 | _, _, _ + 1, .nil => .nil
 | _, _, k + 1, .cons h r => .cons h (RelWs.take k r)
theorem RelWs.drop : ∀ {ws : List W} {vs : List V} (k : Nat), RelWs K φ n H ws vs -> RelWs K φ n H (ws.drop k) (vs.drop k)
 | _, _, 0, r => r
 | _, _, _ + 1, .nil => .nil
 | _, _, k + 1, .cons h r => RelWs.drop k r
theorem RelWs.set {w : W} {v : V} (q : RelW K φ n H w v) : ∀ {ws : List W} {vs : List V} (i : Nat), RelWs K φ n H ws vs -> RelWs K φ n H (ws.set i w) (vs.set i v)
 | _, _, _, .nil => .nil
 | _, _, 0, .cons _ r => .cons q r
 | _, _, i + 1, .cons h r => .cons h (RelWs.set q i r)
theorem RelWs.reverse : ∀ {ws : List W} {vs : List V}, RelWs K φ n H ws vs -> RelWs K φ n H ws.reverse vs.reverse
 | _, _, .nil => .nil
 | _, _, .cons h r => by simp only [List.reverse_cons]; exact RelWs.append (RelWs.reverse r) (.cons h .nil)
end
def keyW : Key -> W
 | .inl i => .int i
 | .inr x => .str x
inductive RelD (K : PySem.W.Frag) (φ : Nat -> Addr) (n : Nat) (H : Hp) : List (W × W) -> List (Key × V) -> Prop where
 | nil : RelD K φ n H [] []
 | cons {k : Key} {w : W} {v : V} {kws : List (W × W)} {kvs : List (Key × V)} (h : RelW K φ n H w v) (r : RelD K φ n H kws kvs) : RelD K φ n H ((keyW k, w) :: kws) ((k, v) :: kvs)
inductive RelT (K : PySem.W.Frag) (φ : Nat -> Addr) (n : Nat) (H : Hp) : List (W × W) -> List (List Key × V) -> Prop where
 | nil : RelT K φ n H [] []
 | cons {k : List Key} {w : W} {v : V} {kws : List (W × W)} {kvs : List (List Key × V)} (h : RelW K φ n H w v) (r : RelT K φ n H kws kvs) : RelT K φ n H ((.tup (k.map keyW), w) :: kws) ((k, v) :: kvs)
theorem RelD.mono {K : PySem.W.Frag} {φ φ' : Nat -> Addr} {n n' : Nat} {H H' : Hp} (s : Step K φ n H φ' n' H') : ∀ {ws : List (W × W)} {vs : List (Key × V)}, RelD K φ n H ws vs -> RelD K φ' n' H' ws vs
 | _, _, .nil => .nil
 | _, _, .cons h r => .cons (h.mono s) (RelD.mono s r)
theorem RelT.mono {K : PySem.W.Frag} {φ φ' : Nat -> Addr} {n n' : Nat} {H H' : Hp} (s : Step K φ n H φ' n' H') : ∀ {ws : List (W × W)} {vs : List (List Key × V)}, RelT K φ n H ws vs -> RelT K φ' n' H' ws vs
 | _, _, .nil => .nil
 | _, _, .cons h r => .cons (h.mono s) (RelT.mono s r)
inductive RelU (K : PySem.W.Frag) (φ : Nat -> Addr) (n : Nat) (H : Hp) : List (W × W) -> List (V × V) -> Prop where
 | nil : RelU K φ n H [] []
 | cons {k w : W} {u v : V} {kws : List (W × W)} {kvs : List (V × V)} (hk : RelW K φ n H k u) (h : RelW K φ n H w v) (r : RelU K φ n H kws kvs) : RelU K φ n H ((k, w) :: kws) ((u, v) :: kvs)
theorem RelU.mono {K : PySem.W.Frag} {φ φ' : Nat -> Addr} {n n' : Nat} {H H' : Hp} (s : Step K φ n H φ' n' H') : ∀ {ws : List (W × W)} {vs : List (V × V)}, RelU K φ n H ws vs -> RelU K φ' n' H' ws vs
 | _, _, .nil => .nil
 | _, _, .cons hk h r => .cons (hk.mono s) (h.mono s) (RelU.mono s r)
inductive RelF (K : PySem.W.Frag) (φ : Nat -> Addr) (n : Nat) (H : Hp) : List (Str × W) -> List (Str × V) -> Prop where
 | nil : RelF K φ n H [] []
 | cons {f : Str} {w : W} {v : V} {fs : List (Str × W)} {vs : List (Str × V)} (h : RelW K φ n H w v) (r : RelF K φ n H fs vs) : RelF K φ n H ((f, w) :: fs) ((f, v) :: vs)
theorem RelF.mono {K : PySem.W.Frag} {φ φ' : Nat -> Addr} {n n' : Nat} {H H' : Hp} (s : Step K φ n H φ' n' H') : ∀ {ws : List (Str × W)} {vs : List (Str × V)}, RelF K φ n H ws vs -> RelF K φ' n' H' ws vs
 | _, _, .nil => .nil
 | _, _, .cons h r => .cons (h.mono s) (RelF.mono s r)
def RelPO (K : PySem.W.Frag) (φ : Nat -> Addr) (n : Nat) (H : Hp) (o : PO) (a : Addr) : Prop := match o with
 | .lst ws => ∃ vs, H a = some (.lst vs) /\ RelWs K φ n H ws vs
 | .dct kws => (∃ kvs, H a = some (.dK kvs) /\ RelD K φ n H kws kvs) \/ ∃ kvs, H a = some (.dT kvs) /\ RelT K φ n H kws kvs
 | .obj c fs => ∃ C dx vs, PySem.W.nsIn K mainGlobals c = some (some (.ref C)) /\ H a = some (.ins C dx vs) /\ RelF K φ n H fs vs
 | .udc kws => ∃ kvs, H a = some (.dU kvs) /\ RelU K φ n H kws kvs /\ (kws.map (·.1)).Nodup
 | .fdc kws => ∃ o, o.cls = .type "dict" /\ ((∃ kvs, H a = some (.frz o (.dK kvs)) /\ RelD K φ n H kws kvs) \/ ∃ kvs, H a = some (.frz o (.dT kvs)) /\ RelT K φ n H kws kvs)
structure RelH (K : PySem.W.Frag) (φ : Nat -> Addr) (ph : PH) (H : Hp) : Prop where
 hp : ∀ i o, ph[i]? = some o -> RelPO K φ ph.length H o (φ i)
 inj : ∀ i j, i < ph.length -> j < ph.length -> φ i = φ j -> i = j
 tb : ∀ p ∈ lamTabs K, TabG H p.1 p.2.2
theorem TabG.upd {H : Hp} {x : Str} {P a : Addr} {o : HO} (h : TabG H x P) (n1 : ∀ ps, H a ≠ some (.tbl ps)) (n2 : ∀ oc, H a ≠ some (.frz oc hoAny)) : TabG (upd H a o) x P := by
 obtain ⟨ps, e1, e2, e3⟩ := h
 refine ⟨ps, ?_, e2, fun pos v e => ?_⟩
 ·rw [upd_ne (fun z => n1 ps (by rw [<- z]; exact e1))]; exact e1
 ·obtain ⟨c, oc, vs, t, f1, f2, f3⟩ := e3 pos v e
  refine ⟨c, oc, vs, t, f1, ?_, f3⟩
  rw [upd_ne (fun z => n2 oc (by rw [<- z]; exact f2))]; exact f2
theorem TabG.new {H : Hp} {x : Str} {P a : Addr} {o : HO} (h : TabG H x P) (hn : H a = none) : TabG (L2.upd H a o) x P := h.upd (fun _ z => by rw [hn] at z; cases z) fun _ z => by rw [hn] at z; cases z
inductive RelS (K : PySem.W.Frag) (φ : Nat -> Addr) (n : Nat) (H : Hp) : PSt -> L2.St -> Prop where
 | nil : RelS K φ n H [] []
 | sm {w : W} {v : V} {ws : PSt} {vs : L2.St} (h : RelW K φ n H w v) (r : RelS K φ n H ws vs) : RelS K φ n H (some w :: ws) (some v :: vs)
 | nn {v : Option V} {ws : PSt} {vs : L2.St} (r : RelS K φ n H ws vs) : RelS K φ n H (none :: ws) (v :: vs)
section
variable {K : PySem.W.Frag} {φ φ' φ'' : Nat -> Addr} {n n' n'' : Nat} {H H' H'' : Hp} {ph : PH}
theorem RelS.mono (s : Step K φ n H φ' n' H') : ∀ {ws : PSt} {vs : L2.St}, RelS K φ n H ws vs -> RelS K φ' n' H' ws vs
 | _, _, .nil => .nil
 | _, _, .sm h r => .sm (h.mono s) (RelS.mono s r)
 | _, _, .nn r => .nn (RelS.mono s r)
theorem RelS.get : ∀ {ws : PSt} {vs : L2.St} {i : Nat} {w : W}, RelS K φ n H ws vs -> ws[i]? = some (some w) -> ∃ v, vs[i]? = some (some v) /\ RelW K φ n H w v
 | _, _, _, _, .nil, e => by simp at e
 | _, _, 0, _, .sm h _, e => by simp at e; subst e; exact ⟨_, rfl, h⟩
 | _, _, 0, _, .nn _, e => by simp at e
 | _, _, i + 1, w, .sm _ r, e => by
  obtain ⟨u, h1, h2⟩ := RelS.get (i := i) (w := w) r (by simpa using e)
  exact ⟨u, by simpa using h1, h2⟩
 | _, _, i + 1, w, .nn r, e => by
  obtain ⟨u, h1, h2⟩ := RelS.get (i := i) (w := w) r (by simpa using e)
  exact ⟨u, by simpa using h1, h2⟩
theorem RelS.set {w : W} {v : V} (q : RelW K φ n H w v) : ∀ {ws : PSt} {vs : L2.St} (i : Nat), RelS K φ n H ws vs -> RelS K φ n H (ws.set i (Option.some w)) (vs.set i (Option.some v))
 | _, _, _, .nil => .nil
 | _, _, 0, .sm _ r => .sm q r
 | _, _, 0, .nn r => .sm q r
 | _, _, i + 1, .sm h r => .sm h (RelS.set q i r)
 | _, _, i + 1, .nn r => .nn (RelS.set q i r)
theorem RelS.start : ∀ {ws : List W} {vs : List V} (k : Nat), RelWs K φ n H ws vs -> RelS K φ n H (ws.map Option.some ++ List.replicate k Option.none) (vs.map Option.some ++ List.replicate k Option.none)
 | _, _, 0, .nil => .nil
 | _, _, k + 1, .nil => .nn (RelS.start k .nil)
 | _, _, k, .cons h r => .sm h (RelS.start k r)
theorem RelPO.some {o : PO} {a : Addr} (h : RelPO K φ n H o a) : ∃ x, H a = Option.some x /\ (o.fz = false -> Mut (Option.some x)) := by
 cases o with
 | lst ws => obtain ⟨vs, e, _⟩ := h; exact ⟨_, e, fun _ => trivial⟩
 | dct kws =>
  rcases h with ⟨vs, e, _⟩ | ⟨vs, e, _⟩
  ·exact ⟨_, e, fun _ => trivial⟩
  ·exact ⟨_, e, fun _ => trivial⟩
 | obj c fs => obtain ⟨C, dx, vs, _, e, _⟩ := h; exact ⟨_, e, fun _ => trivial⟩
 | udc kws => obtain ⟨kvs, e, _⟩ := h; exact ⟨_, e, fun _ => trivial⟩
 | fdc kws =>
  obtain ⟨o, _, ⟨vs, e, _⟩ | ⟨vs, e, _⟩⟩ := h
  ·exact ⟨_, e, fun z => nomatch z⟩
  ·exact ⟨_, e, fun z => nomatch z⟩
theorem RelPO.mono {o : PO} {a : Addr} (s : Step K φ n H φ' n' H') (e : H' a = H a) (h : RelPO K φ n H o a) : RelPO K φ' n' H' o a := by
 cases o with
 | lst ws => obtain ⟨vs, q, r⟩ := h; exact ⟨vs, e.trans q, r.mono s⟩
 | dct kws =>
  rcases h with ⟨vs, q, r⟩ | ⟨vs, q, r⟩
  ·exact .inl ⟨vs, e.trans q, r.mono s⟩
  ·exact .inr ⟨vs, e.trans q, r.mono s⟩
 | obj c fs => obtain ⟨C, dx, vs, q1, q2, r⟩ := h; exact ⟨C, dx, vs, q1, e.trans q2, r.mono s⟩
 | udc kws => obtain ⟨kvs, q, r, nd⟩ := h; exact ⟨kvs, e.trans q, r.mono s, nd⟩
 | fdc kws =>
  obtain ⟨o, hc, ⟨vs, q, r⟩ | ⟨vs, q, r⟩⟩ := h
  ·exact ⟨o, hc, .inl ⟨vs, e.trans q, r.mono s⟩⟩
  ·exact ⟨o, hc, .inr ⟨vs, e.trans q, r.mono s⟩⟩
theorem RelH.at (h : RelH K φ ph H) {i : Nat} (hi : i < ph.length) : ∃ x, H (φ i) = Option.some x /\ (ph[i].fz = false -> Mut (Option.some x)) := (h.hp i ph[i] (by simp [hi])).some
theorem RelH.mu (h : RelH K φ ph H) {i : Nat} {o : PO} (hw : ph[i]? = Option.some o) (hz : o.fz = false) : ∃ x, H (φ i) = Option.some x /\ Mut (Option.some x) := let ⟨x, e, k⟩ := (h.hp i o hw).some; ⟨x, e, k hz⟩
theorem step_tup {p : Addr} {xs : List V} (hp : H p = none) : Step K φ n H φ n (upd H p (.tup xs)) := by
 refine ⟨Nat.le_refl _, fun _ _ => rfl, fun a ys h => ?_, fun a o u h => ?_⟩
 ·rw [upd_ne (ne_of_none h hp)]; exact h
 ·rw [upd_ne (ne_of_none h hp)]; exact h
theorem RelH.tup {p : Addr} {xs : List V} (h : RelH K φ ph H) (hp : H p = none) : RelH K φ ph (upd H p (.tup xs)) := by
 refine ⟨fun i o e => ?_, h.inj, fun p hm => (h.tb p hm).new hp⟩
 have hi : i < ph.length := (List.getElem?_eq_some_iff.mp e).1
 obtain ⟨x, ex, _⟩ := h.at hi
 exact (h.hp i o e).mono (step_tup hp) (upd_ne (ne_of_none ex hp))
def ext (φ : Nat -> Addr) (n : Nat) (p : Addr) : Nat -> Addr := fun i => if i = n then p else φ i
theorem ext_lt {p : Addr} {i : Nat} (h : i < n) : ext φ n p i = φ i := by unfold ext; rw [if_neg (by omega)]
theorem ext_eq {p : Addr} : ext φ n p n = p := by unfold ext; rw [if_pos rfl]
theorem step_new {p : Addr} {o : HO} (hp : H p = none) : Step K φ n H (ext φ n p) (n + 1) (upd H p o) := by
 refine ⟨Nat.le_succ _, fun i h => ext_lt h, fun a ys h => ?_, fun a o u h => ?_⟩
 ·rw [upd_ne (ne_of_none h hp)]; exact h
 ·rw [upd_ne (ne_of_none h hp)]; exact h
theorem RelH.new {p : Addr} {x : HO} {o : PO} (h : RelH K φ ph H) (hp : H p = none) (r : RelPO K (ext φ ph.length p) (ph.length + 1) (upd H p x) o p) :
  RelH K (ext φ ph.length p) (ph ++ [o]) (upd H p x) := by
 refine ⟨fun i o' e => ?_, fun i j hi hj e => ?_, fun p hm => (h.tb p hm).new hp⟩
 ·rw [List.length_append]
  by_cases hi : i < ph.length
  ·rw [List.getElem?_append_left hi] at e
   obtain ⟨y, ey, _⟩ := h.at hi
   rw [ext_lt hi]
   exact (h.hp i o' e).mono (step_new hp) (upd_ne (ne_of_none ey hp))
  ·have hl := (List.getElem?_eq_some_iff.mp e).1
   simp at hl
   have : i = ph.length := by omega
   subst this
   simp at e
   subst e
   rw [ext_eq]
   exact r
 ·simp at hi hj
  have key : ∀ k, k < ph.length -> φ k ≠ p := fun k hk z => by
   obtain ⟨y, ey, _⟩ := h.at hk
   rw [z, hp] at ey; cases ey
  by_cases h1 : i < ph.length <;> by_cases h2 : j < ph.length
  ·rw [ext_lt h1, ext_lt h2] at e; exact h.inj i j h1 h2 e
  ·have : j = ph.length := by omega
   subst this
   rw [ext_lt h1, ext_eq] at e; exact (key i h1 e).elim
  ·have : i = ph.length := by omega
   subst this
   rw [ext_lt h2, ext_eq] at e; exact (key j h2 e.symm).elim
  ·omega
theorem step_set {a : Addr} {x y : HO} (ha : H a = some x) (mx : Mut (some x)) : Step K φ n H φ n (upd H a y) := by
 refine ⟨Nat.le_refl _, fun _ _ => rfl, fun c ys h => ?_, fun c o u h => ?_⟩
 ·rw [upd_ne (ne_of h ha (by rintro rfl; exact mx))]; exact h
 ·rw [upd_ne (ne_of h ha (by rintro rfl; exact mx))]; exact h
theorem RelH.put {i : Nat} {x : HO} {o o0 : PO} (h : RelH K φ ph H) (hw : ph[i]? = some o0) (hz : o0.fz = false) (r : RelPO K φ ph.length (upd H (φ i) x) o (φ i)) : RelH K φ (ph.set i o) (upd H (φ i) x) := by
 have hi : i < ph.length := (List.getElem?_eq_some_iff.mp hw).1
 obtain ⟨y, ey, my⟩ := h.mu hw hz
 refine ⟨fun j o' e => ?_, fun j k hj hk e => ?_, fun p hm => (h.tb p hm).upd (fun ps z => ?_) fun oc z => ?_⟩
 ·rw [List.length_set]
  by_cases hj : j = i
  ·subst hj
   rw [List.getElem?_set_self hi] at e
   cases e
   exact r
  ·rw [List.getElem?_set_ne (Ne.symm hj)] at e
   have hjl := (List.getElem?_eq_some_iff.mp e).1
   exact (h.hp j o' e).mono (step_set ey my) (upd_ne fun z => hj (h.inj j i hjl hi z))
 ·rw [List.length_set] at hj hk
  exact h.inj j k hj hk e
 ·rw [ey] at z; cases z; exact my
 ·rw [ey] at z; cases z; exact my
end
def Made (X : Cx) (C : Addr) (H' : Hp) (e : Value) (s' : Shared) : Prop :=
 ∃ pins σ s vs h' a, e = .ref a /\ s' = { s with heap := h' } /\ Inv X pins σ H' s /\ Heap.MadeExcOf s.heap h' a (.ref C) vs
structure UnB (fs : List Addr) (H H' : Hp) (h B h' : Heap) : Prop where
 keep : ∀ b o, h.get? b = some o -> H b = none -> b ∉ fs -> B.get? b = some o
 slot : ∀ b o, h.get? b = some o -> H b = none -> b ∈ fs -> ∃ sl, h'.get? b = some { o with slots := sl }
 free : ∀ b o, h.get? b = some o -> H b = none -> H' b = none
 there : ∀ b o, h.get? b = some o -> b ∉ fs -> ∃ o', B.get? b = some o'
 tups : ∀ b xs, H b = some (.tup xs) -> H' b = some (.tup xs)
 frzs : ∀ b o u, H b = some (.frz o u) -> H' b = some (.frz o u)
 tbls : ∀ b ps, H b = some (.tbl ps) -> ∃ more, H' b = some (.tbl (ps ++ more))
def Flew (P : Program) (w : World) (l : List Env) (H : Hp) (s : Shared) (C : Addr) (H' : Hp) (e : Value) (s' : Shared) : Prop :=
 ∃ a a0 B, e = .ref a /\ s'.os = s.os /\ AllBare s'.gens /\ Heap.FlyingW B l a (.ref C) a0 s'.heap /\ HOk P w H' B /\ UnB (frs l) H H' s.heap B s'.heap
def Thr (X : Cx) (x : XC) (H' : Hp) (e : Value) (s' : Shared) : Prop := ∃ C, X.mg x.cls = some (.ref C) /\ x.fs = [] /\ (Made X C H' e s' \/ ∃ pins σ H s, Inv X pins σ H s /\ Flew X.prog X.w X.stack H s C H' e s')
def XE (X : Cx) (φ : Nat -> Addr) (n : Nat) (H : Hp) : XC -> PH -> Prop := fun x ph' => ∀ φ' H' e s', RelH X.K φ' ph' H' -> Step X.K φ n H φ' ph'.length H' -> Thr X x H' e s' -> X.xe e s'
theorem XE.step {X : Cx} {φ φ1 : Nat -> Addr} {n n1 : Nat} {H H1 : Hp} {x : XC} {ph' : PH} (h : XE X φ n H x ph') (s : Step X.K φ n H φ1 n1 H1) : XE X φ1 n1 H1 x ph' := fun φ' H' e s' r t q => h φ' H' e s' r (s.trans t) q
def tM (X : Cx) (m : EM) : TE := fun σ H Q => ∃ φ ph ws, RelH X.K φ ph H /\ RelS X.K φ ph.length H ws σ /\ (m ws ph).Run (fun w ph' =>
 ∀ φ' H' v, RelH X.K φ' ph' H' -> Step X.K φ ph.length H φ' ph'.length H' -> RelW X.K φ' ph'.length H' w v -> Q v H') (XE X φ ph.length H)
def tT (X : Cx) (m : TM) : TT := fun σ H Q => ∃ φ ph ws, RelH X.K φ ph H /\ RelS X.K φ ph.length H ws σ /\ (m ws ph).Run (fun b ph' =>
 ∀ φ' H', RelH X.K φ' ph' H' -> Step X.K φ ph.length H φ' ph'.length H' -> Q b H') (XE X φ ph.length H)
def tA (X : Cx) (m : AM) : TA := fun σ H Q => ∃ φ ph ws, RelH X.K φ ph H /\ RelS X.K φ ph.length H ws σ /\ (m ws ph).Run (fun xs ph' =>
 ∀ φ' H' vs, RelH X.K φ' ph' H' -> Step X.K φ ph.length H φ' ph'.length H' -> RelWs X.K φ' ph'.length H' xs vs -> Q vs H') (XE X φ ph.length H)
def EndF (X : Cx) (D : Ends) (φ' : Nat -> Addr) (ph' : PH) (H' : Hp) (f : Fl) : Prop := match f with
 | .nx ws' => ∀ σ', RelS X.K φ' ph'.length H' ws' σ' -> D.nx σ' H'
 | .bk ws' => ∀ σ', RelS X.K φ' ph'.length H' ws' σ' -> D.bk σ' H'
 | .ct ws' => ∀ σ', RelS X.K φ' ph'.length H' ws' σ' -> D.ct σ' H'
 | .rt w => ∀ v, RelW X.K φ' ph'.length H' w v -> D.rt v H'
def tS (X : Cx) (m : SM) : TS := fun D σ H => ∃ φ ph ws, RelH X.K φ ph H /\ RelS X.K φ ph.length H ws σ /\ (m ws ph).Run (fun f ph' =>
 ∀ φ' H', RelH X.K φ' ph' H' -> Step X.K φ ph.length H φ' ph'.length H' -> EndF X D φ' ph' H' f) (XE X φ ph.length H)
section
variable {X : Cx} {e : Expr}
theorem PE.imp {t t' : TE} (h : PE X e t) (k : ∀ σ H Q, t' σ H Q -> t σ H Q) : PE X e t' := fun pins s σ H Q I q => h pins s σ H Q I (k σ H Q q)
theorem PT.imp {t t' : TT} (h : PT X e t) (k : ∀ σ H Q, t' σ H Q -> t σ H Q) : PT X e t' := fun pins s σ H Q I q => h pins s σ H Q I (k σ H Q q)
theorem PA.imp {es : List Expr} {t t' : TA} (h : PA X es t) (k : ∀ σ H Q, t' σ H Q -> t σ H Q) : PA X es t' := fun pos pins s σ H Q I q => h pos pins s σ H Q I (k σ H Q q)
theorem PS.imp {st : Stmt} {t t' : TS} (h : PS X st t) (k : ∀ D σ H, t' D σ H -> t D σ H) : PS X st t' := fun pins s σ H D I q => h pins s σ H D I (k D σ H q)
theorem PSs.imp {st : List Stmt} {t t' : TS} (h : PSs X st t) (k : ∀ D σ H, t' D σ H -> t D σ H) : PSs X st t' := fun pins s σ H D I q => h pins s σ H D I (k D σ H q)
abbrev IE (X : Cx) (e : Expr) (m : EM) : Prop := PE X e (tM X m)
abbrev IT (X : Cx) (e : Expr) (m : TM) : Prop := PT X e (tT X m)
abbrev IA (X : Cx) (es : List Expr) (m : AM) : Prop := PA X es (tA X m)
abbrev IS (X : Cx) (st : Stmt) (m : SM) : Prop := PS X st (tS X m)
abbrev ISs (X : Cx) (st : List Stmt) (m : SM) : Prop := PSs X st (tS X m)
end
def eVar (i : Nat) : EM := fun σ => lift fun ph => match σ[i]? with
 | some (some w) => some (w, ph)
 | _ => none
def eC (w : W) : EM := fun _ => pur w
def eOp (f : W -> W -> Po W) (a b : EM) : EM := fun σ => bnd (a σ) fun x => bnd (b σ) fun y => lift (f x y)
def eUn (f : W -> Po W) (a : EM) : EM := fun σ => bnd (a σ) fun x => lift (f x)
def OpI (K : PySem.W.Frag) (r : R2) (f : W -> W -> Po W) : Prop := ∀ {φ : Nat -> Addr} {ph : PH} {H : Hp} {x y : W} {vx vy : V} {w : W} {ph' : PH} {Q : VK}, RelH K φ ph H -> RelW K φ ph.length H x vx -> RelW K φ ph.length H y vy -> f x y ph = some (w, ph') →
 (∀ φ' H' v, RelH K φ' ph' H' -> Step K φ ph.length H φ' ph'.length H' -> RelW K φ' ph'.length H' w v -> Q v H') -> r vx vy H Q
section
variable {X : Cx} {a b c : Expr} {ma mb mc : EM} {pos : Pos}
theorem ie_var (i : Nat) {x : Str} (hN : X.N[i]? = some x := by rfl) (hv : Vis X.env.scope x := by first | exact Or.inl rfl | exact Or.inr (Or.inl rfl) | exact Or.inr (Or.inr rfl)) (hd : (x == ("__debug__" : Str)) = false := by decide)
  (hcd : (x == ("__classdict__" : Str)) = false := by decide) : IE X (.Name x pos) (eVar i) := by
 refine PE.imp (pe_var hN hv hd hcd) fun σ H Q h => ?_
 obtain ⟨φ, ph, ws, hH, hS, h⟩ := h
 obtain ⟨w, ph', e, k⟩ := run_lift h
 split at e
 ·rename_i w' ew
  cases e
  obtain ⟨v, ev, rv⟩ := hS.get ew
  exact ⟨v, ev, k φ H v hH Step.refl rv⟩
 ·cases e
theorem ie_c {t : V} {w : W} (h : PE X a (tC t)) (r : ∀ φ n H, RelW X.K φ n H w t) : IE X a (eC w) := by
 refine PE.imp h fun σ H Q h => ?_
 obtain ⟨φ, ph, ws, hH, hS, h⟩ := h
 exact h φ H _ hH Step.refl (r _ _ _)
theorem ie_int {i : Int} {j : Nat} : IE X (.Constant (.int i) j pos) (eC (.int i)) := ie_c pe_int fun _ _ _ => .int i
theorem ie_bl {x : Bool} {j : Nat} : IE X (.Constant (.bool x) j pos) (eC (.bl x)) := ie_c pe_bl fun _ _ _ => .bl x
theorem ie_non {j : Nat} : IE X (.Constant .none j pos) (eC .non) := ie_c pe_non fun _ _ _ => .non
theorem tM.bind {β : Type} {m : EM} {σ : L2.St} {H : Hp} {Q : VK} {φ : Nat -> Addr} {ph : PH} {ws : PSt} {f : W -> Mo β} {N : β -> PH -> Prop} (hH : RelH X.K φ ph H) (hS : RelS X.K φ ph.length H ws σ) (h : (bnd (m ws) f ph).Run N (XE X φ ph.length H))
  (k : ∀ w ph1 φ1 H1 v, RelH X.K φ1 ph1 H1 -> Step X.K φ ph.length H φ1 ph1.length H1 -> RelW X.K φ1 ph1.length H1 w v -> (f w ph1).Run N (XE X φ1 ph1.length H1) -> Q v H1) : tM X m σ H Q := by
 rw [run_bnd] at h
 exact ⟨φ, ph, ws, hH, hS, h.mono (fun w ph1 h1 φ1 H1 v hH1 s1 r1 => k w ph1 φ1 H1 v hH1 s1 r1 (h1.mono (fun _ _ z => z) fun _ _ z => z.step s1)) fun _ _ z => z⟩
theorem tT.bind {β : Type} {m : TM} {σ : L2.St} {H : Hp} {Q : Bool -> Hp -> Prop} {φ : Nat -> Addr} {ph : PH} {ws : PSt} {f : Bool -> Mo β} {N : β -> PH -> Prop} (hH : RelH X.K φ ph H) (hS : RelS X.K φ ph.length H ws σ) (h : (bnd (m ws) f ph).Run N (XE X φ ph.length H))
  (k : ∀ b ph1 φ1 H1, RelH X.K φ1 ph1 H1 -> Step X.K φ ph.length H φ1 ph1.length H1 -> (f b ph1).Run N (XE X φ1 ph1.length H1) -> Q b H1) : tT X m σ H Q := by
 rw [run_bnd] at h
 exact ⟨φ, ph, ws, hH, hS, h.mono (fun b ph1 h1 φ1 H1 hH1 s1 => k b ph1 φ1 H1 hH1 s1 (h1.mono (fun _ _ z => z) fun _ _ z => z.step s1)) fun _ _ z => z⟩
theorem tA.bind {β : Type} {m : AM} {σ : L2.St} {H : Hp} {Q : List V -> Hp -> Prop} {φ : Nat -> Addr} {ph : PH} {ws : PSt} {f : List W -> Mo β} {N : β -> PH -> Prop} (hH : RelH X.K φ ph H) (hS : RelS X.K φ ph.length H ws σ) (h : (bnd (m ws) f ph).Run N (XE X φ ph.length H))
  (k : ∀ xs ph1 φ1 H1 vs, RelH X.K φ1 ph1 H1 -> Step X.K φ ph.length H φ1 ph1.length H1 -> RelWs X.K φ1 ph1.length H1 xs vs -> (f xs ph1).Run N (XE X φ1 ph1.length H1) -> Q vs H1) : tA X m σ H Q := by
 rw [run_bnd] at h
 exact ⟨φ, ph, ws, hH, hS, h.mono (fun w ph1 h1 φ1 H1 v hH1 s1 r1 => k w ph1 φ1 H1 v hH1 s1 r1 (h1.mono (fun _ _ z => z) fun _ _ z => z.step s1)) fun _ _ z => z⟩
theorem bin_imp {r : R2} {f : W -> W -> Po W} (hi : OpI X.K r f) {σ : L2.St} {H : Hp} {Q : VK} (h : tM X (eOp f ma mb) σ H Q) : tOp r (tM X ma) (tM X mb) σ H Q := by
 obtain ⟨φ, ph, ws, hH, hS, h⟩ := h
 refine tM.bind hH hS h fun x ph1 φ1 H1 vx hH1 s1 rx h => tM.bind hH1 (hS.mono s1) h fun y ph2 φ2 H2 vy hH2 s2 ry h => ?_
 obtain ⟨w, ph', e, k⟩ := run_lift h
 exact hi hH2 (rx.mono s2) ry e fun φ3 H3 v hH3 s3 r3 => k φ3 H3 v hH3 ((s1.trans s2).trans s3) r3
theorem ie_op {op : Operator} {r : R2} {f : W -> W -> Po W} (ho : OpR X (binaryOp op) r) (hi : OpI X.K r f) (ha : IE X a ma) (hb : IE X b mb) : IE X (.BinOp a op b pos) (eOp f ma mb) :=
 PE.imp (pe_op ho ha hb) fun _ _ _ h => bin_imp hi h
theorem ie_cmp {op : CmpOp} {r : R2} {f : W -> W -> Po W} (ho : OpR X (compareOp op) r) (hi : OpI X.K r f) (ha : IE X a ma) (hb : IE X b mb) (hm : behindInMarks op b = false) : IE X (.Compare a [op] [b] pos) (eOp f ma mb) :=
 PE.imp (pe_cmpR ho ha hb hm) fun _ _ _ h => bin_imp hi h
def eT (m : EM) : TM := fun σ => bnd (m σ) fun w => lift (match w with
 | .bl b => ret b
 | _ => nono)
theorem it_cmp {op : CmpOp} {r : R2} {f : W -> W -> Po W} (ho : OpR X (compareOp op) r) (hi : OpI X.K r f) (ha : IE X a ma) (hb : IE X b mb) (hm : behindInMarks op b = false) : IT X (.Compare a [op] [b] pos) (eT (eOp f ma mb)) := by
 refine PT.imp (pt_cmpR ho ha hb hm) fun σ H Q h => ?_
 obtain ⟨φ, ph, ws, hH, hS, h⟩ := h
 refine bin_imp hi (tM.bind hH hS h fun x ph1 φ1 H1 vx hH1 s1 rx h => ?_)
 obtain ⟨w, ph', e, k⟩ := run_lift h
 split at e
 ·cases e
  cases rx
  exact ⟨_, rfl, k φ1 H1 hH1 s1⟩
 ·cases e
end
def iop (g : Int -> Int -> Int) : W -> W -> Po W := fun x y => match x, y with
 | .int i, .int j => ret (.int (g i j))
 | _, _ => nono
def iopC (c : Int -> Int -> Bool) (g : Int -> Int -> Int) : W -> W -> Po W := fun x y => match x, y with
 | .int i, .int j => if c i j = true then ret (.int (g i j)) else nono
 | _, _ => nono
def icmp (g : Int -> Int -> Bool) : W -> W -> Po W := fun x y => match x, y with
 | .int i, .int j => ret (.bl (g i j))
 | _, _ => nono
theorem iopC_i {K : PySem.W.Frag} {C : Int -> Int -> Prop} {c : Int -> Int -> Bool} {g : Int -> Int -> Int} (hc : ∀ i j, c i j = true -> C i j) : OpI K (rI C fun i j => .int (g i j)) (iopC c g) := by
 intro φ ph H x y vx vy w ph' Q hH rx ry e k
 unfold iopC at e
 split at e
 ·split at e
  ·cases e; cases rx; cases ry
   exact ⟨_, _, rfl, rfl, hc _ _ (by assumption), k φ H _ hH Step.refl (.int _)⟩
  ·cases e
 ·cases e
theorem icmp_i {K : PySem.W.Frag} {g : Int -> Int -> Bool} : OpI K (rI0 fun i j => .bl (g i j)) (icmp g) := by
 intro φ ph H x y vx vy w ph' Q hH rx ry e k
 unfold icmp at e
 split at e
 ·cases e; cases rx; cases ry
  exact ⟨_, _, rfl, rfl, k φ H _ hH Step.refl (.bl _)⟩
 ·cases e
def tAndM (a b : TM) : TM := fun σ => bnd (a σ) fun c => if c = true then b σ else pur false
def tOrM (a b : TM) : TM := fun σ => bnd (a σ) fun c => if c = true then pur true else b σ
def tNotM (a : TM) : TM := fun σ => bnd (a σ) fun c => pur (!c)
def eAnd (a b : EM) : EM := fun σ => bnd (a σ) fun w => match w with
 | .bl c => if c = true then b σ else pur (.bl false)
 | _ => nop
def eOr (a b : EM) : EM := fun σ => bnd (a σ) fun w => match w with
 | .bl c => if c = true then pur (.bl true) else b σ
 | _ => nop
def eNot (a : EM) : EM := fun σ => bnd (a σ) fun w => match w with
 | .bl c => pur (.bl (!c))
 | _ => nop
def eIf (t : TM) (a b : EM) : EM := fun σ => bnd (t σ) fun c => if c = true then a σ else b σ
section
variable {X : Cx} {a b c : Expr} {rest : List Expr} {ma mb mc : EM} {ta tb : TM} {pos : Pos}
theorem it_not (ha : IT X a ta) : IT X (.UnaryOp .Not a pos) (tNotM ta) := by
 refine PT.imp (pt_not ha) fun σ H Q h => ?_
 obtain ⟨φ, ph, ws, hH, hS, h⟩ := h
 exact tT.bind hH hS h fun x ph1 φ1 H1 hH1 s1 h => h φ1 H1 hH1 s1
theorem and_imp {σ : L2.St} {H : Hp} {Q : Bool -> Hp -> Prop} (h : tT X (tAndM ta tb) σ H Q) : tAnd (tT X ta) (tT X tb) σ H Q := by
 obtain ⟨φ, ph, ws, hH, hS, h⟩ := h
 refine tT.bind hH hS h fun x ph1 φ1 H1 hH1 s1 h => ?_
 cases x with
 | true => exact iteT ⟨φ1, ph1, ws, hH1, hS.mono s1, h.mono (fun _ _ k φ2 H2 hH2 s2 => k φ2 H2 hH2 (s1.trans s2)) fun _ _ z => z⟩
 | false => exact iteF (h φ1 H1 hH1 s1)
theorem or_imp {σ : L2.St} {H : Hp} {Q : Bool -> Hp -> Prop} (h : tT X (tOrM ta tb) σ H Q) : tOr (tT X ta) (tT X tb) σ H Q := by
 obtain ⟨φ, ph, ws, hH, hS, h⟩ := h
 refine tT.bind hH hS h fun x ph1 φ1 H1 hH1 s1 h => ?_
 cases x with
 | false => exact iteF ⟨φ1, ph1, ws, hH1, hS.mono s1, h.mono (fun _ _ k φ2 H2 hH2 s2 => k φ2 H2 hH2 (s1.trans s2)) fun _ _ z => z⟩
 | true => exact iteT (h φ1 H1 hH1 s1)
theorem iw_one {op : BoolOp} (ha : IT X a ta) : PW X (.BoolOp op [a] pos) (tT X ta) := by
 cases op with
 | And => exact pw_and1 ha
 | Or => exact pw_or1 ha
theorem iw_and (ha : IT X a ta) (hb : PW X (.BoolOp .And (b :: rest) pos) (tT X tb)) : PW X (.BoolOp .And (a :: b :: rest) pos) (tT X (tAndM ta tb)) :=
 fun wh pins s σ H Q I h => pw_and ha hb wh pins s σ H Q I (and_imp h)
theorem iw_or (ha : IT X a ta) (hb : PW X (.BoolOp .Or (b :: rest) pos) (tT X tb)) : PW X (.BoolOp .Or (a :: b :: rest) pos) (tT X (tOrM ta tb)) :=
 fun wh pins s σ H Q I h => pw_or ha hb wh pins s σ H Q I (or_imp h)
theorem ie_and (ha : IE X a ma) (hb : IE X (.BoolOp .And (b :: rest) pos) mb) : IE X (.BoolOp .And (a :: b :: rest) pos) (eAnd ma mb) := by
 refine PE.imp (pe_and ha hb) fun σ H Q h => ?_
 obtain ⟨φ, ph, ws, hH, hS, h⟩ := h
 refine tM.bind hH hS h fun x ph1 φ1 H1 vx hH1 s1 rx h => ?_
 cases rx with
 | bl c =>
  refine ⟨c, rfl, ?_⟩
  cases c with
  | true => exact iteT ⟨φ1, ph1, ws, hH1, hS.mono s1, h.mono (fun _ _ k φ2 H2 v hH2 s2 r2 => k φ2 H2 v hH2 (s1.trans s2) r2) fun _ _ z => z⟩
  | false => exact iteF (h φ1 H1 _ hH1 s1 (.bl false))
 | _ => exact h.elim
theorem ie_one {op : BoolOp} (ha : IE X a ma) : IE X (.BoolOp op [a] pos) ma := pe_one ha
theorem ie_not (ha : IE X a ma) : IE X (.UnaryOp .Not a pos) (eNot ma) := by
 refine PE.imp (pe_not ha) fun σ H Q h => ?_
 obtain ⟨φ, ph, ws, hH, hS, h⟩ := h
 refine tM.bind hH hS h fun x ph1 φ1 H1 vx hH1 s1 rx h => ?_
 cases rx with
 | bl c => exact ⟨_, rfl, h φ1 H1 _ hH1 s1 (.bl _)⟩
 | _ => exact h.elim
theorem ie_if (hc : IT X c ta) (ha : IE X a ma) (hb : IE X b mb) : IE X (.IfExp c a b pos) (eIf ta ma mb) := by
 refine PE.imp (pe_ifExp hc ha hb) fun σ H Q h => ?_
 obtain ⟨φ, ph, ws, hH, hS, h⟩ := h
 refine tT.bind hH hS h fun x ph1 φ1 H1 hH1 s1 h => ?_
 cases x with
 | true => exact iteT ⟨φ1, ph1, ws, hH1, hS.mono s1, h.mono (fun _ _ k φ2 H2 v hH2 s2 r2 => k φ2 H2 v hH2 (s1.trans s2) r2) fun _ _ z => z⟩
 | false => exact iteF ⟨φ1, ph1, ws, hH1, hS.mono s1, h.mono (fun _ _ k φ2 H2 v hH2 s2 r2 => k φ2 H2 v hH2 (s1.trans s2) r2) fun _ _ z => z⟩
def truW (w : W) : Po Bool := fun ph => match w with
 | .non => some (false, ph)
 | .bl b => some (b, ph)
 | .int i => some (i != 0, ph)
 | .str y => if y.length <= sizeLine then some ((y.length : Int) != 0, ph) else none
 | .tup ws => some (!ws.isEmpty, ph)
 | .fl ws => some (!ws.isEmpty, ph)
 | .ref i => match ph[i]? with
  | some (.lst ws) => some (!ws.isEmpty, ph)
  | _ => none
 | .exc .. => none
 | .fn .. => none
def eTru (m : EM) : TM := fun σ => bnd (m σ) fun w => lift (truW w)
theorem emp_of {K : PySem.W.Frag} {φ : Nat -> Addr} {n : Nat} {H : Hp} {ws : List W} {vs : List V} (r : RelWs K φ n H ws vs) : (!vs.isEmpty) = !ws.isEmpty := by cases r <;> rfl
theorem it_tru (ha : IE X a ma) (he : ∀ whole, isTrue a X.env whole = (do let v <- whole; standAt a.pos; holding [v] (truthy v)) := by intro _; rfl) : IT X a (eTru ma) := by
 refine PT.imp (pt_truth ha he) fun σ H Q h => ?_
 obtain ⟨φ, ph, ws, hH, hS, h⟩ := h
 refine tM.bind hH hS h fun x ph1 φ1 H1 vx hH1 s1 rx h => ?_
 obtain ⟨b, ph2, e, k⟩ := run_lift h
 unfold truW at e
 cases rx with
 | non => cases e; exact ⟨_, rfl, k φ1 H1 hH1 s1⟩
 | bl b => cases e; exact ⟨_, rfl, k φ1 H1 hH1 s1⟩
 | int i => cases e; exact ⟨_, rfl, k φ1 H1 hH1 s1⟩
 | str y =>
  simp only at e
  split at e
  ·rename_i hy
   cases e
   exact ⟨_, ⟨hy, rfl⟩, k φ1 H1 hH1 s1⟩
  ·cases e
 | tup hq r => cases e; exact ⟨_, .inr (.inl ⟨_, SqT.of hq, rfl⟩), by rw [emp_of r]; exact k φ1 H1 hH1 s1⟩
 | fl hq r => cases e; exact ⟨_, .inl ⟨_, hq.sq, rfl⟩, by rw [emp_of r]; exact k φ1 H1 hH1 s1⟩
 | ref hi =>
  simp only at e
  split at e
  ·rename_i ws' hw
   cases e
   obtain ⟨vs, hv, r⟩ := hH1.hp _ _ hw
   exact ⟨_, .inl ⟨vs, SqL.of hv, rfl⟩, by rw [emp_of r]; exact k φ1 H1 hH1 s1⟩
  ·cases e
 | exc => cases e
 | fn => cases e
end
def sNext : SM := fun σ => pur (.nx σ)
def sSeq (a b : SM) : SM := fun σ => bnd (a σ) fun f => match f with
 | .nx σ' => b σ'
 | f => pur f
def sExpr (e : EM) : SM := fun σ => bnd (e σ) fun _ => pur (.nx σ)
def sRet (e : EM) : SM := fun σ => bnd (e σ) fun w => pur (.rt w)
def sIf (t : TM) (a b : SM) : SM := fun σ => bnd (t σ) fun c => if c = true then a σ else b σ
abbrev GM := W -> PSt -> Mo PSt
def gN (i : Nat) : GM := fun w σ => pur (σ.set i (some w))
def sAsg (e : EM) (g : GM) : SM := fun σ => bnd (e σ) fun w => bnd (g w σ) fun σ' => pur (.nx σ')
def tG (X : Cx) (g : GM) : TG := fun v σ H Q => ∃ φ ph ws w, RelH X.K φ ph H /\ RelS X.K φ ph.length H ws σ /\ RelW X.K φ ph.length H w v /\ (g w ws ph).Run (fun ws' ph' =>
 ∀ φ' H' σ', RelH X.K φ' ph' H' -> Step X.K φ ph.length H φ' ph'.length H' -> RelS X.K φ' ph'.length H' ws' σ' -> Q σ' H') (XE X φ ph.length H)
abbrev IG (X : Cx) (tg : Expr) (g : GM) : Prop := PG X tg (tG X g)
section
variable {X : Cx} {e c : Expr} {m : EM} {t : TM} {a b : SM} {st : Stmt} {as bs rest : List Stmt} {pos : Pos} {tg : Expr} {g : GM}
theorem PG.imp {t t' : TG} (h : PG X tg t) (k : ∀ v σ H Q, t' v σ H Q -> t v σ H Q) : PG X tg t' := fun pins s σ H v u Q I r q => h pins s σ H v u Q I r (k v σ H Q q)
theorem iss_nil : ISs X [] sNext := PSs.imp pss_nil fun D σ H h => by
 obtain ⟨φ, ph, ws, hH, hS, h⟩ := h
 exact h φ H hH Step.refl σ hS
theorem seq_imp {D : Ends} {σ : L2.St} {H : Hp} (h : tS X (sSeq a b) D σ H) : tSeq (tS X a) (tS X b) D σ H := by
 obtain ⟨φ, ph, ws, hH, hS, h⟩ := h
 unfold sSeq at h
 rw [run_bnd] at h
 refine ⟨φ, ph, ws, hH, hS, h.mono (fun f ph1 h φ1 H1 hH1 s1 => ?_) fun _ _ z => z⟩
 cases f with
 | nx ws1 => exact fun σ1 hS1 => ⟨φ1, ph1, ws1, hH1, hS1, h.mono (fun f ph2 k φ2 H2 hH2 s2 => k φ2 H2 hH2 (s1.trans s2)) fun _ _ z => z.step s1⟩
 | bk ws1 => exact h φ1 H1 hH1 s1
 | ct ws1 => exact h φ1 H1 hH1 s1
 | rt w => exact h φ1 H1 hH1 s1
theorem iss_cons (h1 : IS X st a) (h2 : ISs X rest b) : ISs X (st :: rest) (sSeq a b) := PSs.imp (pss_cons h1 h2) fun _ _ _ h => seq_imp h
theorem iss_one (h1 : IS X st a) : ISs X [st] a := pss_one h1
theorem is_expr (he : IE X e m) (hs : swapsWith e none pos.line X.env = pure false := by rfl) : IS X (.Expr e pos) (sExpr m) := PS.imp (ps_expr he hs) fun D σ H h => by
 obtain ⟨φ, ph, ws, hH, hS, h⟩ := h
 exact tM.bind hH hS h fun w ph1 φ1 H1 v hH1 s1 r1 h => h φ1 H1 hH1 s1 σ (hS.mono s1)
theorem is_ret (he : IE X e m) : IS X (.Return (some e) pos) (sRet m) := PS.imp (ps_ret he) fun D σ H h => by
 obtain ⟨φ, ph, ws, hH, hS, h⟩ := h
 exact tM.bind hH hS h fun w ph1 φ1 H1 v hH1 s1 r1 h => h φ1 H1 hH1 s1 v r1
theorem is_if (hc : IT X c t) (ha : ISs X as a) (hb : ISs X bs b) : IS X (.If c as bs pos) (sIf t a b) := PS.imp (ps_if hc ha hb) fun D σ H h => by
 obtain ⟨φ, ph, ws, hH, hS, h⟩ := h
 refine tT.bind hH hS h fun x ph1 φ1 H1 hH1 s1 h => ?_
 cases x with
 | true => exact iteT ⟨φ1, ph1, ws, hH1, hS.mono s1, h.mono (fun _ _ k φ2 H2 hH2 s2 => k φ2 H2 hH2 (s1.trans s2)) fun _ _ z => z⟩
 | false => exact iteF ⟨φ1, ph1, ws, hH1, hS.mono s1, h.mono (fun _ _ k φ2 H2 hH2 s2 => k φ2 H2 hH2 (s1.trans s2)) fun _ _ z => z⟩
theorem ig_name {i : Nat} {x : Str} (hN : X.N.Nodup) (hi : X.N[i]? = some x) (hx : Loc X.env.scope x) (hf : X.fn x = true \/ X.env.scope.names.lookup x = some .local := by first | exact .inl rfl | exact .inr rfl | assumption) : IG X (.Name x pos) (gN i) :=
 PG.imp (pg_name hN hi hx hf) fun v σ H Q h => by
  obtain ⟨φ, ph, ws, w, hH, hS, rw', h⟩ := h
  exact h φ H _ hH Step.refl (hS.set rw' i)
theorem tG.bind {β : Type} {g : GM} {σ : L2.St} {H : Hp} {Q : L2.St -> Hp -> Prop} {φ : Nat -> Addr} {ph : PH} {ws : PSt} {w : W} {v : V} {f : PSt -> Mo β} {N : β -> PH -> Prop} (hH : RelH X.K φ ph H) (hS : RelS X.K φ ph.length H ws σ) (rw' : RelW X.K φ ph.length H w v) (h : (bnd (g w ws) f ph).Run N (XE X φ ph.length H))
  (k : ∀ ws1 ph1 φ1 H1 σ1, RelH X.K φ1 ph1 H1 -> Step X.K φ ph.length H φ1 ph1.length H1 -> RelS X.K φ1 ph1.length H1 ws1 σ1 -> (f ws1 ph1).Run N (XE X φ1 ph1.length H1) -> Q σ1 H1) : tG X g v σ H Q := by
 rw [run_bnd] at h
 exact ⟨φ, ph, ws, w, hH, hS, rw', h.mono (fun ws1 ph1 h1 φ1 H1 σ1 hH1 s1 r1 => k ws1 ph1 φ1 H1 σ1 hH1 s1 r1 (h1.mono (fun _ _ z => z) fun _ _ z => z.step s1)) fun _ _ z => z⟩
theorem asg_imp {D : Ends} {σ : L2.St} {H : Hp} (h : tS X (sAsg m g) D σ H) : tAsg (tM X m) (tG X g) D σ H := by
 obtain ⟨φ, ph, ws, hH, hS, h⟩ := h
 refine tM.bind hH hS h fun w ph1 φ1 H1 v hH1 s1 r1 h => ?_
 exact tG.bind hH1 (hS.mono s1) r1 h fun ws2 ph2 φ2 H2 σ2 hH2 s2 hS2 h => h φ2 H2 hH2 (s1.trans s2) σ2 hS2
theorem is_set {i : Nat} {x : Str} {pos' : Pos} (hN : X.N.Nodup) (hi : X.N[i]? = some x) (hx : Loc X.env.scope x) (he : IE X e m) (hs : swapsWith e (some (.Name x pos')) pos.line X.env = pure false := by rfl)
  (hf : X.fn x = true \/ X.env.scope.names.lookup x = some .local := by first | exact .inl rfl | exact .inr rfl | assumption) : IS X (.Assign [.Name x pos'] e pos) (sAsg m (gN i)) :=
 PS.imp (ps_set hN hi hx he hs hf) fun D σ H h => by
  obtain ⟨φ, ph, ws, hH, hS, h⟩ := h
  exact tM.bind hH hS h fun w ph1 φ1 H1 v hH1 s1 r1 h => h φ1 H1 hH1 s1 _ ((hS.mono s1).set r1 i)
theorem is_asg (he : IE X e m) (hg : IG X tg g) (hs : swapsWithSole [tg] e pos.line X.env = pure false := by rfl) (hw : swappedStores [tg] e X.env = pure none := by rfl)
  (h1 : (assignEach [tg] X.env).map (·.2) = [assign tg X.env] := by rfl) : IS X (.Assign [tg] e pos) (sAsg m g) := PS.imp (ps_asg he hg hs hw h1) fun _ _ _ h => asg_imp h
end
abbrev IM := PSt -> Mo (List W × (PH -> Bool))
def forG (chk : PH -> Bool) (g : GM) (b : SM) : List W -> SM
 | [], σ => fun ph => if chk ph = true then .ok (.nx σ) ph else .no
 | x :: xs, σ => fun ph => if chk ph = true then bnd (g x σ) (fun σ1 => bnd (b σ1) fun f => match f with
   | .nx σ' => forG chk g b xs σ'
   | .ct σ' => forG chk g b xs σ'
   | .bk σ' => pur (.nx σ')
   | .rt w => pur (.rt w)) ph else .no
def sFor (im : IM) (g : GM) (b : SM) : SM := fun σ => bnd (im σ) fun r => forG r.2 g b r.1 σ
def ItI (K : PySem.W.Frag) (J : It) (items : List W) (chk : PH -> Bool) (φ : Nat -> Addr) (n : Nat) (H : Hp) : Prop :=
 ∀ φ' ph' H', RelH K φ' ph' H' -> Step K φ n H φ' ph'.length H' -> chk ph' = true -> ∀ i : Nat,
  (∀ w, items[i]? = some w -> J.go i H' /\ ∀ x H'', J.yld i H' x H'' -> RelH K φ' ph' H'' /\ Step K φ' ph'.length H' φ' ph'.length H'' /\ RelW K φ' ph'.length H'' w x) /\ (items[i]? = none -> J.stop i H')
def tI (X : Cx) (im : IM) : TI := fun σ H R => ∃ φ ph ws, RelH X.K φ ph H /\ RelS X.K φ ph.length H ws σ /\ (im ws ph).Run (fun r ph' =>
 ∀ φ' H' J, RelH X.K φ' ph' H' -> Step X.K φ ph.length H φ' ph'.length H' -> ItI X.K J r.1 r.2 φ' ph'.length H' -> R J H') (XE X φ ph.length H)
abbrev II (X : Cx) (tg iter : Expr) (im : IM) : Prop := PI X tg iter (tI X im)
section
variable {X : Cx} {iter tg c : Expr} {im : IM} {g : GM} {b : SM} {t : TM} {body : List Stmt} {pos : Pos}
theorem for_imp {D : Ends} {σ : L2.St} {H : Hp} (h : tS X (sFor im g b) D σ H) : tFor (tI X im) (tG X g) (tS X b) D σ H := by
 obtain ⟨φ, ph, ws, hH, hS, h⟩ := h
 unfold sFor at h
 rw [run_bnd] at h
 refine ⟨φ, ph, ws, hH, hS, h.mono (fun r ph1 h φ1 H1 J hH1 s1 hJ => ?_) fun _ _ z => z⟩
 obtain ⟨items, chk⟩ := r
 refine ⟨fun i m σ2 H2 => ∃ φ2 ph2 ws2, m = (items.drop i).length /\ RelH X.K φ2 ph2 H2 /\ RelS X.K φ2 ph2.length H2 ws2 σ2 /\ Step X.K φ1 ph1.length H1 φ2 ph2.length H2 /\
   (forG chk g b (items.drop i) ws2 ph2).Run (fun f ph' => ∀ φ' H', RelH X.K φ' ph' H' -> Step X.K φ2 ph2.length H2 φ' ph'.length H' -> EndF X D φ' ph' H' f) (XE X φ2 ph2.length H2),
  ⟨_, φ1, ph1, ws, rfl, hH1, hS.mono s1, Step.refl, h.mono (fun f ph' k φ' H' r' s' => k φ' H' r' (s1.trans s')) fun _ _ z => z.step s1⟩, ?_⟩
 rintro i m σ2 H2 ⟨φ2, ph2, ws2, rfl, hH2, hS2, s2, h2⟩
 cases hd : items.drop i with
 | nil =>
  rw [hd] at h2
  unfold forG at h2
  split at h2
  ·rename_i hc
   have hn : items[i]? = none := by
    have : items.length <= i := by simpa using hd
    simpa using this
   exact .inl ⟨(hJ φ2 _ H2 hH2 s2 hc i).2 hn, h2 φ2 H2 hH2 Step.refl σ2 hS2⟩
  ·exact h2.elim
 | cons x xs =>
  rw [hd] at h2
  unfold forG at h2
  split at h2
  ·rename_i hc
   have hx : items[i]? = some x := by
    have := congrArg (fun l => l[0]?) hd
    simpa using this
   have hxs : items.drop (i + 1) = xs := by
    have := congrArg (fun l => l.drop 1) hd
    simpa [List.drop_drop, Nat.add_comm] using this
   obtain ⟨hgo, hy⟩ := (hJ φ2 _ H2 hH2 s2 hc i).1 x hx
   refine .inr ⟨hgo, fun σ' H' => ∃ φ' ph'' ws', RelH X.K φ' ph'' H' /\ RelS X.K φ' ph''.length H' ws' σ' /\ Step X.K φ1 ph1.length H1 φ' ph''.length H' /\
     (forG chk g b xs ws' ph'').Run (fun f p' => ∀ φ3 H3, RelH X.K φ3 p' H3 -> Step X.K φ' ph''.length H' φ3 p'.length H3 -> EndF X D φ3 p' H3 f) (XE X φ' ph''.length H'),
    fun σ' H' ⟨φ', ph'', ws', q1, q2, q3, q4⟩ => ⟨xs.length, by simp, φ', ph'', ws', by rw [hxs], q1, q2, q3, by rw [hxs]; exact q4⟩, fun v H3 y => ?_⟩
   obtain ⟨hH3, s3, rv⟩ := hy v H3 y
   have h2' : (bnd (g x ws2) (fun σ1 => bnd (b σ1) fun f => match f with
    | .nx σ' => forG chk g b xs σ'
    | .ct σ' => forG chk g b xs σ'
    | .bk σ' => pur (.nx σ')
    | .rt w => pur (.rt w)) ph2).Run (fun f ph' => ∀ φ' H', RelH X.K φ' ph' H' -> Step X.K φ2 ph2.length H2 φ' ph'.length H' -> EndF X D φ' ph' H' f) (XE X φ2 ph2.length H3) := Out.Run.mono h2 (fun _ _ z => z) fun _ _ z => z.step s3
   refine tG.bind hH3 (hS2.mono s3) rv h2' fun ws4 ph4 φ4 H4 σ4 hH4 s4 hS4 h4 => ?_
   rw [run_bnd] at h4
   refine ⟨φ4, ph4, ws4, hH4, hS4, h4.mono (fun f ph5 h5 φ5 H5 hH5 s5 => ?_) fun _ _ z => z⟩
   have sall := ((s2.trans s3).trans s4).trans s5
   have s25 := (s3.trans s4).trans s5
   cases f with
   | nx ws5 => exact fun σ5 hS5 => ⟨φ5, ph5, ws5, hH5, hS5, sall, h5.mono (fun f p' k φ' H' r' s' => k φ' H' r' (s25.trans s')) fun _ _ z => z.step s5⟩
   | ct ws5 => exact fun σ5 hS5 => ⟨φ5, ph5, ws5, hH5, hS5, sall, h5.mono (fun f p' k φ' H' r' s' => k φ' H' r' (s25.trans s')) fun _ _ z => z.step s5⟩
   | bk ws5 => exact fun σ5 hS5 => h5 φ5 H5 hH5 s25 σ5 hS5
   | rt w => exact fun v hv => h5 φ5 H5 hH5 s25 v hv
  ·exact h2.elim
theorem PI.imp {t t' : TI} (h : PI X tg iter t) (k : ∀ σ H R, t' σ H R -> t σ H R) : PI X tg iter t' := fun pins s σ H R I q => h pins s σ H R I (k σ H R q)
theorem is_for (hp : PassesOwn (model X.prog X.w) X.A X.env X.xe) (hc : X.calm = true) (hi : II X tg iter im) (hg : IG X tg g) (hb : ISs X body b) (hs : ∀ x, foldedSetIterable iter X.env x = pure x := by intro _; rfl) :
  IS X (.For tg iter body [] pos) (sFor im g b) := PS.imp (ps_for hp hc hi hg hb hs) fun _ _ _ h => for_imp h
def seqI (w : W) : Po (List W × (PH -> Bool)) := fun ph => match w with
 | .ref i => match ph[i]? with
  | some (.lst ws) => some ((ws, fun ph' => decide (ph'[i]? = some (.lst ws))), ph)
  | _ => none
 | .fl ws => some ((ws, fun _ => true), ph)
 | _ => none
def tupI (w : W) : Po (List W × (PH -> Bool)) := fun ph => match w with
 | .tup ws => some ((ws, fun _ => true), ph)
 | _ => none
def iSeq (m : EM) : IM := fun σ => bnd (m σ) fun w => lift (seqI w)
def iTupM (m : EM) : IM := fun σ => bnd (m σ) fun w => lift (tupI w)
theorem ii_list {l : Expr} {m : EM} (hl : IE X l m) : II X tg l (iSeq m) := by
 refine PI.imp (pi_list hl) fun σ H R h => ?_
 obtain ⟨φ, ph, ws, hH, hS, h⟩ := h
 refine tM.bind hH hS h fun w ph1 φ1 H1 v hH1 s1 r1 h => ?_
 obtain ⟨r, ph', e, k⟩ := run_lift h
 unfold seqI at e
 cases r1 with
 | ref hi =>
  rename_i i
  simp only at e
  split at e
  ·rename_i items hw
   cases e
   obtain ⟨vs, hv, r⟩ := hH1.hp _ _ hw
   refine ⟨_, rfl, ⟨vs, SqL.of hv⟩, k φ1 H1 _ hH1 s1 ?_⟩
   intro φ2 ph2 H2 hH2 s2 hc j
   have hc' : ph2[i]? = some (.lst items) := of_decide_eq_true hc
   obtain ⟨us, hu, ru⟩ := hH2.hp _ _ hc'
   rw [s2.eq i hi] at hu
   refine ⟨fun w hw2 => ?_, fun hn => ?_⟩
   ·obtain ⟨u, eu, ru'⟩ := ru.get hw2
    refine ⟨⟨us, u, SqL.of hu, eu⟩, fun x H'' hy => ?_⟩
    obtain ⟨rfl, hy⟩ := hy
    have := hy us (SqL.of hu)
    rw [eu] at this; cases this
    exact ⟨hH2, Step.refl, ru'⟩
   ·refine ⟨us, SqL.of hu, ?_⟩
    rw [<- ru.length]
    simpa using hn
  ·cases e
 | fl hq r =>
  cases e
  refine ⟨_, rfl, ⟨_, hq.sq⟩, k φ1 H1 _ hH1 s1 ?_⟩
  intro φ2 ph2 H2 hH2 s2 hc j
  have h2 := RelW.mono s2 (.fl hq r)
  cases h2 with
  | fl h2 r2 =>
   refine ⟨fun w hw2 => ?_, fun hn => ?_⟩
   ·obtain ⟨u, eu, ru'⟩ := r2.get hw2
    refine ⟨⟨_, u, h2.sq, eu⟩, fun x H'' hy => ?_⟩
    obtain ⟨rfl, hy⟩ := hy
    have := hy _ h2.sq
    rw [eu] at this; cases this
    exact ⟨hH2, Step.refl, ru'⟩
   ·refine ⟨_, h2.sq, ?_⟩
    rw [<- r2.length]
    simpa using hn
 | _ => cases e
theorem ii_tup {l : Expr} {m : EM} (hl : IE X l m) : II X tg l (iTupM m) := by
 refine PI.imp (pi_tup hl) fun σ H R h => ?_
 obtain ⟨φ, ph, ws, hH, hS, h⟩ := h
 refine tM.bind hH hS h fun w ph1 φ1 H1 v hH1 s1 r1 h => ?_
 obtain ⟨r, ph', e, k⟩ := run_lift h
 unfold tupI at e
 cases r1 with
 | tup hq r =>
  cases e
  refine ⟨_, rfl, ⟨_, SqT.of hq⟩, k φ1 H1 _ hH1 s1 ?_⟩
  intro φ2 ph2 H2 hH2 s2 hc j
  have h2 := SqT.of (K := X.K) (s2.tup _ _ hq)
  have r2 := r.mono s2
  refine ⟨fun w hw2 => ?_, fun hn => ?_⟩
  ·obtain ⟨u, eu, ru'⟩ := r2.get hw2
   refine ⟨⟨_, u, h2, eu⟩, fun x H'' hy => ?_⟩
   obtain ⟨rfl, hy⟩ := hy
   have := hy _ h2
   rw [eu] at this; cases this
   exact ⟨hH2, Step.refl, ru'⟩
  ·refine ⟨_, h2, ?_⟩
   rw [<- r2.length]
   simpa using hn
 | _ => cases e
def rngW (lo : Int) (n : Nat) : List W := (List.range n).map fun i : Nat => .int (lo + ((i : Nat) : Int))
def rng1 (xs : List W) : Po (List W × (PH -> Bool)) := fun ph => match xs with
 | [.int j] => if -(2 ^ 62) <= j /\ j < 2 ^ 62 then some ((rngW 0 j.toNat, fun _ => true), ph) else none
 | _ => none
def iR1 (m : AM) : IM := fun σ => bnd (m σ) fun xs => lift (rng1 xs)
theorem rng_it {K : PySem.W.Frag} {lo : Int} {n : Nat} {chk : PH -> Bool} {φ : Nat -> Addr} {k : Nat} {H : Hp} : ItI K (Itr lo n) (rngW lo n) chk φ k H := by
 intro φ2 ph2 H2 hH2 s2 hc j
 unfold rngW
 refine ⟨fun w hw2 => ?_, fun hn => ?_⟩
 ·rw [List.getElem?_map] at hw2
  have hj : j < n := by
   by_cases hj : j < n
   ·exact hj
   ·rw [List.getElem?_eq_none (by simpa using hj)] at hw2; cases hw2
  rw [List.getElem?_range hj] at hw2
  cases hw2
  refine ⟨hj, fun x H'' hy => ?_⟩
  obtain ⟨rfl, rfl⟩ := hy
  exact ⟨hH2, Step.refl, .int _⟩
 ·have : n <= j := by simpa using hn
  exact this
theorem ii_range1 {a : Expr} {m : AM} {p : Pos} (hg : Gl X "range") (hm : X.mg "range" = none) (ha : IA X [a] m) (hs : starEach [a] X.env = [(false, eval a X.env)] := by rfl) : II X tg (.Call (.Name "range" p) [a] [] pos) (iR1 m) := by
 refine PI.imp (pi_range1 hg hm ha hs) fun σ H R h => ?_
 obtain ⟨φ, ph, ws, hH, hS, h⟩ := h
 refine tA.bind hH hS h fun xs ph1 φ1 H1 vs hH1 s1 r1 h => ?_
 obtain ⟨r, ph', e, k⟩ := run_lift h
 unfold rng1 at e
 split at e
 ·split at e
  ·rename_i hc
   cases e
   cases r1 with
   | cons r r' => cases r; cases r'; exact ⟨_, rfl, hc.1, hc.2, k φ1 H1 _ hH1 s1 rng_it⟩
  ·cases e
 ·cases e
def whN (t : TM) (b : SM) : Nat -> SM
 | 0 => fun _ => nop
 | n + 1 => fun σ => bnd (t σ) fun c => if c = true then bnd (b σ) fun f => match f with
   | .nx σ' => whN t b n σ'
   | .ct σ' => whN t b n σ'
   | .bk σ' => pur (.nx σ')
   | .rt w => pur (.rt w)
  else pur (.nx σ)
def Out.isNo {α : Type} : Out α -> Bool
 | .no => true
 | _ => false
open Classical in
noncomputable def sWhile (t : TM) (b : SM) : SM := fun σ ph => if h : ∃ n, (whN t b n σ ph).isNo = false then whN t b h.choose σ ph else .no
theorem while_imp {D : Ends} {σ : L2.St} {H : Hp} (h : tS X (sWhile t b) D σ H) : tWhile (tT X t) (tS X b) D σ H := by
 obtain ⟨φ, ph, ws, hH, hS, h⟩ := h
 have ⟨n, h⟩ : ∃ n, (whN t b n ws ph).Run (fun f ph' => ∀ φ' H', RelH X.K φ' ph' H' -> Step X.K φ ph.length H φ' ph'.length H' -> EndF X D φ' ph' H' f) (XE X φ ph.length H) := by
  unfold sWhile at h
  split at h
  ·exact ⟨_, h⟩
  ·exact h.elim
 refine ⟨fun m σ2 H2 => ∃ φ2 ph2 ws2, RelH X.K φ2 ph2 H2 /\ RelS X.K φ2 ph2.length H2 ws2 σ2 /\
  (whN t b m ws2 ph2).Run (fun f ph' => ∀ φ' H', RelH X.K φ' ph' H' -> Step X.K φ2 ph2.length H2 φ' ph'.length H' -> EndF X D φ' ph' H' f) (XE X φ2 ph2.length H2), ⟨n, φ, ph, ws, hH, hS, h⟩, ?_⟩
 rintro m σ2 H2 ⟨φ2, ph2, ws2, hH2, hS2, h2⟩
 cases m with
 | zero => exact h2.elim
 | succ m =>
  refine tT.bind hH2 hS2 h2 fun c ph3 φ3 H3 hH3 s3 h3 => ?_
  cases c with
  | false => exact iteF (h3 φ3 H3 hH3 s3 σ2 (hS2.mono s3))
  | true =>
   have h3' : (bnd (b ws2) (fun f => match f with
    | .nx σ' => whN t b m σ'
    | .ct σ' => whN t b m σ'
    | .bk σ' => pur (.nx σ')
    | .rt w => pur (.rt w)) ph3).Run _ _ := h3
   rw [run_bnd] at h3'
   refine iteT ⟨fun σ' H' => ∃ φ' ph'' ws', RelH X.K φ' ph'' H' /\ RelS X.K φ' ph''.length H' ws' σ' /\
    (whN t b m ws' ph'').Run (fun f p' => ∀ φ4 H4, RelH X.K φ4 p' H4 -> Step X.K φ' ph''.length H' φ4 p'.length H4 -> EndF X D φ4 p' H4 f) (XE X φ' ph''.length H'), fun σ' H' q => ⟨m, Nat.lt_succ_self _, q⟩, ?_⟩
   refine ⟨φ3, ph3, ws2, hH3, hS2.mono s3, h3'.mono (fun f ph5 h5 φ5 H5 hH5 s5 => ?_) fun _ _ z => z⟩
   have s25 := s3.trans s5
   cases f with
   | nx ws5 => exact fun σ5 hS5 => ⟨φ5, ph5, ws5, hH5, hS5, h5.mono (fun f p' k φ' H' r' s' => k φ' H' r' (s25.trans s')) fun _ _ z => z.step s5⟩
   | ct ws5 => exact fun σ5 hS5 => ⟨φ5, ph5, ws5, hH5, hS5, h5.mono (fun f p' k φ' H' r' s' => k φ' H' r' (s25.trans s')) fun _ _ z => z.step s5⟩
   | bk ws5 => exact fun σ5 hS5 => h5 φ5 H5 hH5 s25 σ5 hS5
   | rt w => exact fun v hv => h5 φ5 H5 hH5 s25 v hv
theorem is_while (hp : PassesOwn (model X.prog X.w) X.A X.env X.xe) (hc : IT X c t) (hb : ISs X body b) : IS X (.While c body [] pos) (sWhile t b) :=
 PS.imp (ps_while hp hc hb) fun _ _ _ h => while_imp h
end
def aNil : AM := fun _ => pur []
def aCons (e : EM) (r : AM) : AM := fun σ => bnd (e σ) fun w => bnd (r σ) fun ws => pur (w :: ws)
def newT (ws : List W) : Po W := fun ph => if ws.length <= sizeLine then some (.tup ws, ph) else none
def newL (ws : List W) : Po W := fun ph => if ws.length <= sizeLine then some (.ref ph.length, ph ++ [.lst ws]) else none
def eTup (a : AM) : EM := fun σ => bnd (a σ) fun ws => lift (newT ws)
def eLst (a : AM) : EM := fun σ => bnd (a σ) fun ws => lift (newL ws)
section
variable {X : Cx} {e : Expr} {es : List Expr} {m : EM} {a : AM} {pos : Pos}
theorem ia_nil : IA X [] aNil := PA.imp pa_nil fun σ H Q h => by
 obtain ⟨φ, ph, ws, hH, hS, h⟩ := h
 exact h φ H [] hH Step.refl .nil
theorem ia_cons (he : IE X e m) (hr : IA X es a) (hs : starEach (e :: es) X.env = (false, eval e X.env) :: starEach es X.env := by rfl) : IA X (e :: es) (aCons m a) := PA.imp (pa_cons he hr hs) fun σ H Q h => by
 obtain ⟨φ, ph, ws, hH, hS, h⟩ := h
 refine tM.bind hH hS h fun w ph1 φ1 H1 v hH1 s1 r1 h => tA.bind hH1 (hS.mono s1) h fun ys ph2 φ2 H2 vs hH2 s2 r2 h => ?_
 exact h φ2 H2 _ hH2 (s1.trans s2) (.cons (r1.mono s2) r2)
theorem ie_tup {x1 : Nat} (h : IA X es a) : IE X (.Tuple es x1 pos) (eTup a) := PE.imp (pe_tup h) fun σ H Q h => by
 obtain ⟨φ, ph, ws, hH, hS, h⟩ := h
 refine tA.bind hH hS h fun xs ph1 φ1 H1 vs hH1 s1 r1 h => ?_
 obtain ⟨w, ph', e, k⟩ := run_lift h
 unfold newT at e
 split at e
 ·rename_i hz
  cases e
  refine ⟨by rw [<- r1.length]; exact hz, fun p hp => ?_⟩
  exact k φ1 _ _ (hH1.tup hp) (s1.trans (step_tup hp)) (.tup upd_same (r1.mono (step_tup hp)))
 ·cases e
theorem new_list {K : PySem.W.Frag} {φ : Nat -> Addr} {ph : PH} {H : Hp} {p : Addr} {ws : List W} {vs : List V} (hH : RelH K φ ph H) (r : RelWs K φ ph.length H ws vs) (hp : H p = none) :
  RelH K (ext φ ph.length p) (ph ++ [.lst ws]) (upd H p (.lst vs)) /\ Step K φ ph.length H (ext φ ph.length p) (ph ++ [PO.lst ws]).length (upd H p (.lst vs)) /\ RelW K (ext φ ph.length p) (ph ++ [PO.lst ws]).length (upd H p (.lst vs)) (.ref ph.length) (.ref p) := by
 have hl : (ph ++ [PO.lst ws]).length = ph.length + 1 := by simp
 rw [hl]
 have s := step_new (K := K) (φ := φ) (n := ph.length) (o := HO.lst vs) hp
 refine ⟨hH.new hp ⟨vs, upd_same, r.mono s⟩, s, ?_⟩
 have q : RelW K (ext φ ph.length p) (ph.length + 1) (upd H p (.lst vs)) (.ref ph.length) (.ref (ext φ ph.length p ph.length)) := .ref (Nat.lt_succ_self _)
 rw [ext_eq] at q
 exact q
theorem ie_lst (h : IA X es a) : IE X (.List es pos) (eLst a) := PE.imp (pe_lst h) fun σ H Q h => by
 obtain ⟨φ, ph, ws, hH, hS, h⟩ := h
 refine tA.bind hH hS h fun xs ph1 φ1 H1 vs hH1 s1 r1 h => ?_
 obtain ⟨w, ph', e, k⟩ := run_lift h
 unfold newL at e
 split at e
 ·rename_i hz
  cases e
  refine ⟨by rw [<- r1.length]; exact hz, fun p hp => ?_⟩
  obtain ⟨q1, q2, q3⟩ := new_list hH1 r1 hp
  exact k _ _ _ q1 (s1.trans q2) q3
 ·cases e
end
def eCall (f : List W -> Mo W) (a : AM) : EM := fun σ => bnd (a σ) f
def fEnd : Fl -> Mo W
 | .rt w => pur w
 | .nx _ => pur .non
 | _ => nop
def fM (body : SM) (n np : Nat) (args : List W) : Mo W := if args.length = np then bnd (body (args.map some ++ List.replicate (n - args.length) none)) fEnd else nop
theorem fM_len {body : SM} {n np : Nat} {xs : List W} {ph : PH} (h : xs.length ≠ np) : fM body n np xs ph = .no := by
 unfold fM
 rw [if_neg h]
 rfl
def CXW (P : Program) (w : World) : CXT := fun l H s E e s' => ∃ C H', Flew P w l H s C H' e s' /\ E (.ref C) none H'
def spM (K : PySem.W.Frag) (mg : Str -> Option Value) (np : Nat) (f : List W -> Mo W) : Sp := fun vs H Q E => vs.length = np /\ ∃ φ ph args, RelH K φ ph H /\ RelWs K φ ph.length H args vs /\ (f args ph).Run (fun w ph' =>
 ∀ φ' H' v, RelH K φ' ph' H' -> Step K φ ph.length H φ' ph'.length H' -> RelW K φ' ph'.length H' w v -> Q v H') (fun x ph' =>
 ∀ φ' H' C, RelH K φ' ph' H' -> Step K φ ph.length H φ' ph'.length H' -> mg x.cls = some (.ref C) -> x.fs = [] -> E (.ref C) none H')
section
variable {X : Cx} {k : Nat} {f : Addr} {fd : FuncData} {ps : List Str} {fm : List W -> Mo W} {x : Str} {p pos : Pos} {e : Expr} {es : List Expr} {a : AM}
theorem run_fnx {CX : CXT} {sp : Sp} {E : XK} {pins : List (Addr × Obj)} {σ : L2.St} {H : Hp} {s : Shared} {Q : VK} {us : List Value} {vs : List V} (F : FnOk X.prog X.w X.K X.mg X.base CX k f fd ps sp) (hr : Room k X.A) (hb : Binds X.K fd ps [])
  (I : Inv X pins σ H s) (r : Vals vs us) (h : sp vs H Q E) (hx : ∀ e s', CX X.stack H s E e s' -> X.xe e s') : wpAny (model X.prog X.w) X.A (call (.ref f) us) (EP X pins σ Q) X.xe s := by
 have hl : (us ++ []).length = ps.length := by rw [List.append_nil, <- r.length]; exact F.len _ _ _ _ h
 have hbb := hb s us I.kIn hl
 rw [List.append_nil] at hbb
 refine wpAny_call (codeAny_mono (F.run X.A X.stack s H ⟨us, []⟩ us vs Q E hr I.env0 hbb r h) fun r s' hq => ?_)
 cases r with
 | error e => exact hx e s' hq
 | ok fl =>
  cases fl with
  | ret u => exact I.after hq
  | _ => exact False.elim hq
theorem ie_call (F : FnOk X.prog X.w X.K X.mg X.base (CXW X.prog X.w) k f fd ps (spM X.K X.mg ps.length fm)) (hl : ∀ {xs : List W} {ph : PH}, xs.length ≠ ps.length -> fm xs ph = .no) (hr : Room k X.A) (hg : Gl X x) (hm : X.mg x = some (.ref f))
  (hk : PySem.W.keepIn X.K (.ref f) = true) (hb : Binds X.K fd ps []) (ha : IA X (e :: es) a) (hdb : (x == ("__debug__" : Str)) = false := by decide) (he : starEach (e :: es) X.env = (false, eval e X.env) :: starEach es X.env := by rfl) (hpl : (backTo pos (starEach es X.env)).any (·.1) = false := by rfl) :
  IE X (.Call (.Name x p) (e :: es) [] pos) (eCall fm a) := by
 intro pins s σ H Q I h
 obtain ⟨φ, ph, ws, hH, hS, h⟩ := h
 have hA : tA X a σ H (fun vs H1 => ∃ φ1 ph1 xs, RelH X.K φ1 ph1 H1 /\ RelWs X.K φ1 ph1.length H1 xs vs /\ (fm xs ph1).Run (fun w ph' => ∀ φ' H' v, RelH X.K φ' ph' H' -> Step X.K φ1 ph1.length H1 φ' ph'.length H' -> RelW X.K φ' ph'.length H' w v -> Q v H') (XE X φ1 ph1.length H1)) :=
  tA.bind hH hS h fun xs ph1 φ1 H1 vs hH1 s1 r1 h => ⟨φ1, ph1, xs, hH1, r1, h.mono (fun w ph' k φ' H' v r' s' q => k φ' H' v r' (s1.trans s') q) fun _ _ z => z⟩
 refine wpAny_Call_Name_kw (ld_glob I hg hm (PySem.W.callWith_K (h₀ := X.base) I.ok.mod.kin hk (thn (ha pos pins s σ H _ I hA) fun us s1 ⟨vs, H1, I1, r, q⟩ => ⟨I1.kIn, ?_⟩) he hpl) hdb)
 obtain ⟨φ1, ph1, xs, hH1, r1, h1⟩ := q
 have hlen : vs.length = ps.length := by
  rw [<- r1.length]
  by_cases z : xs.length = ps.length
  ·exact z
  ·rw [hl z] at h1; exact h1.elim
 refine run_fnx (E := fun c _ H' => ∃ x ph' φ', fm xs ph1 = .ex x ph' /\ RelH X.K φ' ph' H' /\ Step X.K φ1 ph1.length H1 φ' ph'.length H' /\ ∃ C, c = .ref C /\ X.mg x.cls = some (.ref C) /\ x.fs = []) F hr hb I1 r ⟨hlen, φ1, ph1, xs, hH1, r1, ?_⟩ fun e s' hx => ?_
 ·cases q : fm xs ph1 with
  | ok w ph' => rw [q] at h1; exact h1
  | ex x ph' => exact fun φ' H' C hr hs hm hf => ⟨x, ph', φ', rfl, hr, hs, C, rfl, hm, hf⟩
  | no => rw [q] at h1; exact h1
 ·obtain ⟨C, H', hfl, x, ph', φ', ef, hr', hs', C', ec, hm', hf'⟩ := hx
  cases ec
  rw [ef] at h1
  exact h1 φ' H' e s' hr' hs' ⟨C, hm', hf', .inr ⟨pins, σ, H1, s1, I1, hfl⟩⟩
end
section
variable {P : Program} {w : World} {K : PySem.W.Frag} {mg : Str -> Option Value} {base : Heap}
theorem hide_ok {H' : Hp} {h : Heap} {fr : List Addr} (hok : HOk P w H' h) (hf : ∀ b ∈ fr, H' b = none) : HOk P w H' (PySem.W.hideAll h fr) := fun a o e => by
 refine (hok a o e).stay (fun b u hb q => PySem.W.hideAll_get _ q fun hm => ?_) (fun _ q => q) fun _ _ q => q
 have := hf b hm
 rcases hb with z | z
 ·rw [z, e] at this; cases this
 ·rw [z] at this; cases this
theorem frs_cons {env : Env} {l : List Env} (hf : env.frame = some env.locals) : frs (env :: l) = env.locals :: frs l := by
 unfold frs
 rw [List.filterMap_cons, hf]
theorem leave_made {X : Cx} {C : Addr} {H' : Hp} {e : Value} {s' : Shared} {E : Value -> Shared -> Prop} (hst : X.stack = X.env :: X.outer) (hf : X.env.frame = some X.env.locals) (hex : X.ex = []) (hm : Made X C H' e s') :
  wpAny (model X.prog X.w) X.A (leaving X.env e) (fun _ s'' => Flew X.prog X.w X.outer X.H₀ X.s₀ C H' e s'') E s' := by
 obtain ⟨pins, σ, s, vs, h', a, rfl, rfl, I, hx⟩ := hm
 have sf := I.stkFree
 have hl := I.stack
 rw [hst] at sf hl
 have hin : ∀ env ∈ X.env :: X.outer, ∀ b, env.frame = some b -> b ∈ frs (X.env :: X.outer) := fun env he b hb => List.mem_filterMap.mpr ⟨env, he, hb⟩
 have noX : ∀ b : Addr, b ∉ X.ex := fun b z => by rw [hex] at z; exact nomatch z
 have out : ∀ b o, X.s₀.heap.get? b = some o -> b ∉ X.fs -> b ∉ frs (X.env :: X.outer) := fun b o e hb hm => by
  rw [frs_cons hf] at hm
  rcases List.mem_cons.mp hm with z | z
  ·exact absurd (Nat.lt_of_lt_of_le (Heap.lt_size e) I.ok.above) (by rw [z]; exact Nat.lt_irrefl _)
  ·exact hb z
 refine wpAny_leaves_madeW (base := PySem.W.hideAll s.heap (frs (X.env :: X.outer))) (h := s.heap) (by rw [I.ok.frames, hst]) hf (fun b o q => PySem.W.of_hideAll _ q) (PySem.W.funFrames_hide hl hin) hx fun h'' t f1 f2 f3 f4 => ?_
 refine ⟨a, .ref t, _, rfl, I.os, I.bare, f1, hide_ok I.hok sf, ⟨fun b o e n hb => PySem.W.hideAll_get _ (I.base.keep b o e n hb (noX b)) (out b o e hb), fun b o e n hb => ?_, fun b o e n => I.base.free b o e n (noX b), fun b o e hb => ?_, I.base.tups, I.base.frzs, I.base.tbls⟩⟩
 ·obtain ⟨sl, e1⟩ := I.base.slot b o e n hb (noX b)
  obtain ⟨_, o', ho, hd⟩ := I.ok.funs.mem hb
  rw [e] at ho
  cases ho
  obtain ⟨sl2, e2⟩ := f4 b _ (hx.keeps b _ e1) hd
  exact ⟨sl2, e2⟩
 ·obtain ⟨o', e1⟩ := I.base.there b o e (noX b)
  exact ⟨o', PySem.W.hideAll_get _ e1 (out b o e hb)⟩
theorem leave_flew {X : Cx} {C : Addr} {H' H0 : Hp} {e : Value} {s s' : Shared} {pins : List (Addr × Obj)} {σ : L2.St} {E : Value -> Shared -> Prop} (hst : X.stack = X.env :: X.outer) (hf : X.env.frame = some X.env.locals) (hex : X.ex = []) (I : Inv X pins σ H0 s)
  (hm : Flew X.prog X.w X.stack H0 s C H' e s') : wpAny (model X.prog X.w) X.A (leaving X.env e) (fun _ s'' => Flew X.prog X.w X.outer X.H₀ X.s₀ C H' e s'') E s' := by
 obtain ⟨a, a0, B, rfl, ho, hbare, hfl, hok, u⟩ := hm
 rw [hst] at hfl u
 have noX : ∀ b : Addr, b ∉ X.ex := fun b z => by rw [hex] at z; exact nomatch z
 have out : ∀ b o, X.s₀.heap.get? b = some o -> b ∉ X.fs -> b ∉ frs (X.env :: X.outer) := fun b o e hb hm => by
  rw [frs_cons hf] at hm
  rcases List.mem_cons.mp hm with z | z
  ·exact absurd (Nat.lt_of_lt_of_le (Heap.lt_size e) I.ok.above) (by rw [z]; exact Nat.lt_irrefl _)
  ·exact hb z
 refine wpAny_leaves_onW (by rw [I.ok.frames, hst]) hf hfl fun h'' f1 f4 => ?_
 refine ⟨a, a0, B, rfl, ho.trans I.os, hbare, f1, hok, ⟨fun b o e n hb => u.keep b o (I.base.keep b o e n hb (noX b)) (I.base.free b o e n (noX b)) (out b o e hb), fun b o e n hb => ?_, fun b o e n => ?_, fun b o e hb => ?_,
  fun b xs e => u.tups b xs (I.base.tups b xs e), fun b ob xs e => u.frzs b ob xs (I.base.frzs b ob xs e), fun b ps e => ?_⟩⟩
 ·obtain ⟨sl, e1⟩ := I.base.slot b o e n hb (noX b)
  obtain ⟨_, o', ho', hd⟩ := I.ok.funs.mem hb
  rw [e] at ho'
  cases ho'
  obtain ⟨sl2, e2⟩ := u.slot b _ e1 (I.base.free b o e n (noX b)) (by rw [frs_cons hf]; exact List.mem_cons_of_mem _ hb)
  obtain ⟨sl3, e3⟩ := f4 b _ e2 hd
  exact ⟨sl3, e3⟩
 ·obtain ⟨o', e1⟩ := I.base.there b o e (noX b)
  exact u.free b o' e1 (I.base.free b o e n (noX b))
 ·obtain ⟨o', e1⟩ := I.base.there b o e (noX b)
  exact u.there b o' e1 (out b o e hb)
 ·obtain ⟨m1, e1⟩ := I.base.tbls b ps e
  obtain ⟨m2, e2⟩ := u.tbls b _ e1
  exact ⟨m1 ++ m2, by rw [e2, Array.append_assoc]⟩
theorem fun_il {x qual : Str} {st : Stmt} {f : Addr} {fd : FuncData} {N ps : List Str} {k : Nat} {body : SM} (F : Fun K x qual st f fd) (S : FnScope N ps (defScope st))
  (hbody : ∀ (cdv : Value) (A : Around) (outer : List Env) (s : Shared) (H : Hp) (E : XK), Room k (A.deeper (envOfC qual (defScope st) s.heap.objs.size f cdv)) →
   ISs (cxOf (CXW P w) P w K mg base N qual (defScope st) f cdv A outer s H E) (defBody st) body) : FnOk P w K mg base (CXW P w) (k + 1) f fd ps (spM K mg ps.length (fM body N.length ps.length)) := by
 obtain ⟨oc, od, kV, doc, pm, an, cdv, ct, osl, rfl, lk, hcd⟩ := F.ex
 refine fn_of lk hcd S (fun vs H Q E h => h.1) fun A outer s H vs Q E hr h => ?_
 obtain ⟨hl, φ, ph, args, hH, ra, h⟩ := h
 refine ⟨_, hbody cdv A outer s H E hr, ?_⟩
 have hla : args.length = vs.length := ra.length
 unfold fM at h
 rw [if_pos (hla.trans hl), run_bnd, hla] at h
 refine ⟨φ, ph, _, hH, RelS.start (N.length - vs.length) ra, h.mono (fun fl ph' h φ1 H1 hH1 s1 => ?_) fun x ph' h φ' H' e s' r' st' th => ?_⟩
 ·cases fl with
  | rt w => exact fun v rv => h φ1 H1 v hH1 s1 rv
  | nx σ' => exact fun σ1 hS1 => h φ1 H1 .non hH1 s1 .non
  | bk σ' => exact h.elim
  | ct σ' => exact h.elim
 ·obtain ⟨C, hm, hfs, th⟩ := th
  have hE := h φ' H' C r' st' hm hfs
  have key : wpAny (model P w) (A.deeper (envOfC qual (defScope st) s.heap.objs.size f cdv)) (leaving (envOfC qual (defScope st) s.heap.objs.size f cdv) e) (fun _ s'' => Flew P w outer H s C H' e s'') (fun e' s'' => CXW P w outer H s E e' s'') s' := by
   rcases th with th | ⟨pins, σ, H0, s0, I0, th⟩
   ·exact leave_made (X := cxOf (CXW P w) P w K mg base N qual (defScope st) f cdv A outer s H E) rfl rfl rfl th
   ·exact leave_flew (X := cxOf (CXW P w) P w K mg base N qual (defScope st) f cdv A outer s H E) rfl rfl rfl I0 th
  exact wpAny_mono key (fun _ s'' q => ⟨C, H', q, hE⟩) fun _ _ q => q
end
theorem fl_ints {K : PySem.W.Frag} {φ : Nat -> Addr} {n : Nat} {H : Hp} : ∀ (ns : List Int), RelWs K φ n H (ns.map W.int) (ns.map V.int)
 | [] => .nil
 | n :: ns => .cons (.int n) (fl_ints ns)
theorem OpR.or {X : Cx} {f : Value -> Value -> Sem Value} {r r' : R2} (h : OpR X f r) (h' : OpR X f r') : OpR X f (fun x y H Q => r x y H Q \/ r' x y H Q) := by
 intro pins s σ H x y v u Q I rx ry q
 rcases q with q | q
 ·exact h pins s σ H x y v u Q I rx ry q
 ·exact h' pins s σ H x y v u Q I rx ry q
theorem OpI.inl {K : PySem.W.Frag} {r r' : R2} {f : W -> W -> Po W} (h : OpI K r f) : OpI K (fun x y H Q => r x y H Q \/ r' x y H Q) f := fun hH rx ry e k => .inl (h hH rx ry e k)
theorem OpI.inr {K : PySem.W.Frag} {r r' : R2} {f : W -> W -> Po W} (h : OpI K r' f) : OpI K (fun x y H Q => r x y H Q \/ r' x y H Q) f := fun hH rx ry e k => .inr (h hH rx ry e k)
def seqW (w : W) (ph : PH) : Option (List W) := match w with
 | .tup ws => some ws
 | .fl ws => some ws
 | .ref i => match ph[i]? with
  | some (.lst ws) => some ws
  | _ => none
 | _ => none
theorem seqW_rel {K : PySem.W.Frag} {φ : Nat -> Addr} {ph : PH} {H : Hp} {w : W} {v : V} {ws : List W} (hH : RelH K φ ph H) (r : RelW K φ ph.length H w v) (e : seqW w ph = some ws) :
  ∃ a vs, v = .ref a /\ (SqL K H a vs \/ SqT K H a vs) /\ RelWs K φ ph.length H ws vs := by
 unfold seqW at e
 cases r with
 | tup h r => cases e; exact ⟨_, _, rfl, .inr (SqT.of h), r⟩
 | fl h r => cases e; exact ⟨_, _, rfl, .inl h.sq, r⟩
 | ref hi =>
  simp only at e
  split at e
  ·rename_i ws' hw
   cases e
   obtain ⟨vs, hv, r⟩ := hH.hp _ _ hw
   exact ⟨_, vs, rfl, .inl (SqL.of hv), r⟩
  ·cases e
 | _ => cases e
theorem atI_rel {K : PySem.W.Frag} {φ : Nat -> Addr} {n : Nat} {H : Hp} {ws : List W} {vs : List V} {i : Int} {w : W} (r : RelWs K φ n H ws vs) (e : atI ws i = some w) : ∃ v, atI vs i = some v /\ RelW K φ n H w v := by
 unfold atI at e ⊢
 rw [r.length] at e
 cases q : ixN vs.length i with
 | none => rw [q] at e; cases e
 | some j =>
  rw [q] at e
  exact r.get e
def ixW : W -> W -> Po W := fun x y ph => match y with
 | .int i => match x with
  | .str z => if z.length <= sizeLine then (atI z.cps.toList i).map fun c => (.str ⟨#[c]⟩, ph) else none
  | x => (seqW x ph).bind fun ws => (atI ws i).map fun w => (w, ph)
 | _ => none
theorem ixW_i {K : PySem.W.Frag} : OpI K (rIx K) ixW := by
  intro φ ph H x y vx vy w ph' Q hH rx ry e k
  unfold ixW at e
  cases ry with
  | int i =>
    cases rx with
    | str z =>
      simp only at e
      split at e
      · rename_i hz
        cases q : atI z.cps.toList i with
        | none => rw [q] at e; cases e
        | some c =>
          rw [q] at e
          cases e
          exact .inr (.inr ⟨z, i, c, rfl, rfl, hz, q, k φ H _ hH Step.refl (.str _)⟩)
      · cases e
    | _ =>
      all_goals
        first
          | (cases e; done)
          | (rename_i h r
             simp only [seqW, Option.bind] at e
             cases q : atI _ i with
             | none => rw [q] at e; cases e
             | some c =>
               rw [q] at e
               cases e
               obtain ⟨v, ev, rv⟩ := atI_rel r q
               first
                 | exact .inr (.inl ⟨_, _, i, v, rfl, rfl, SqT.of h, ev, k φ H _ hH Step.refl rv⟩)
                 | exact .inl ⟨_, _, i, v, rfl, rfl, h.sq, ev, k φ H _ hH Step.refl rv⟩)
          | (rename_i hi
             simp only [seqW] at e
             split at e
             · rename_i ws' hw
               simp only [Option.bind] at e
               cases q : atI ws' i with
               | none => rw [q] at e; cases e
               | some c =>
                 rw [q] at e
                 cases e
                 obtain ⟨vs, hv, r⟩ := hH.hp _ _ hw
                 obtain ⟨v, ev, rv⟩ := atI_rel r q
                 exact .inl ⟨_, _, i, v, rfl, rfl, SqL.of hv, ev, k φ H _ hH Step.refl rv⟩
             · cases e)
  | _ => cases e
def CallI (K : PySem.W.Frag) (r : List V -> Hp -> VK -> Prop) (f : List W -> Po W) : Prop := ∀ {φ : Nat -> Addr} {ph : PH} {H : Hp} {xs : List W} {vs : List V} {w : W} {ph' : PH} {Q : VK}, RelH K φ ph H -> RelWs K φ ph.length H xs vs -> f xs ph = some (w, ph') →
 (∀ φ' H' v, RelH K φ' ph' H' -> Step K φ ph.length H φ' ph'.length H' -> RelW K φ' ph'.length H' w v -> Q v H') -> r vs H Q
def eCallB (f : List W -> Po W) (a : AM) : EM := fun σ => bnd (a σ) fun xs => lift (f xs)
section
variable {X : Cx} {x : Str} {p pos : Pos} {e : Expr} {es : List Expr} {t : AM} {id T : String} {r : List V -> Hp -> VK -> Prop} {f : List W -> Po W}
theorem call_imp (hi : CallI X.K r f) {σ : L2.St} {H : Hp} {Q : VK} (h : tM X (eCallB f t) σ H Q) : tCB r (tA X t) σ H Q := by
 obtain ⟨φ, ph, ws, hH, hS, h⟩ := h
 refine tA.bind hH hS h fun xs ph1 φ1 H1 vs hH1 s1 r1 h => ?_
 obtain ⟨w, ph', e, k⟩ := run_lift h
 exact hi hH1 r1 e fun φ2 H2 v hH2 s2 r2 => k φ2 H2 v hH2 (s1.trans s2) r2
theorem ie_callB (hc : CallR X (.builtin id) r) (hi : CallI X.K r f) (hg : Gl X x) (hm : X.mg x = none) (hv : bootBuiltins x = some (.builtin id)) (ha : IA X (e :: es) t) (hn : x ≠ "__name__" := by decide) (hdb : (x == ("__debug__" : Str)) = false := by decide)
  (he : starEach (e :: es) X.env = (false, eval e X.env) :: starEach es X.env := by rfl) (hpl : (backTo pos (starEach es X.env)).any (·.1) = false := by rfl) : IE X (.Call (.Name x p) (e :: es) [] pos) (eCallB f t) :=
 PE.imp (pe_callB hc hg hm hv ha hn hdb he hpl) fun _ _ _ h => call_imp hi h
theorem ie_callTy (hc : CallR X (.type T) r) (hi : CallI X.K r f) (hg : Gl X x) (hm : X.mg x = none) (hv : bootBuiltins x = some (.type T)) (ha : IA X (e :: es) t) (hn : x ≠ "__name__" := by decide) (hdb : (x == ("__debug__" : Str)) = false := by decide)
  (he : starEach (e :: es) X.env = (false, eval e X.env) :: starEach es X.env := by rfl) (hpl : (backTo pos (starEach es X.env)).any (·.1) = false := by rfl) : IE X (.Call (.Name x p) (e :: es) [] pos) (eCallB f t) :=
 PE.imp (pe_callTy hc hg hm hv ha hn hdb he hpl) fun _ _ _ h => call_imp hi h
end
theorem CallR.or {X : Cx} {f : Value} {r r' : List V -> Hp -> VK -> Prop} (h : CallR X f r) (h' : CallR X f r') : CallR X f (fun xs H Q => r xs H Q \/ r' xs H Q) := by
 intro pins s σ H xs us Q I rx q
 rcases q with q | q
 ·exact h pins s σ H xs us Q I rx q
 ·exact h' pins s σ H xs us Q I rx q
def lenW : List W -> Po W := fun xs ph => match xs with
 | [.str z] => if z.length <= sizeLine then some (.int z.length, ph) else none
 | [w] => (seqW w ph).map fun ws => (.int ws.length, ph)
 | _ => none
abbrev rLen (K : PySem.W.Frag) : List V -> Hp -> VK -> Prop := fun xs H Q => (∃ p ys, xs = [.ref p] /\ (SqL K H p ys \/ SqT K H p ys) /\ Q (.int ys.length) H) \/ (∃ z, xs = [.str z] /\ z.length <= sizeLine /\ Q (.int z.length) H)
theorem lenW_i {K : PySem.W.Frag} : CallI K (rLen K) lenW := by
 intro φ ph H xs vs w ph' Q hH r e k
 unfold lenW at e
 split at e
 ·split at e
  ·rename_i hz
   cases e
   cases r with
   | cons r r' => cases r; cases r'; exact .inr ⟨_, rfl, hz, k φ H _ hH Step.refl (.int _)⟩
  ·cases e
 ·rename_i w0 hne
  cases r with
  | cons r r' =>
   cases r'
   cases q : seqW w0 ph with
   | none => rw [q] at e; cases e
   | some ws =>
    rw [q] at e
    cases e
    obtain ⟨a, ys, rfl, hs, rs⟩ := seqW_rel hH r q
    exact .inl ⟨a, ys, rfl, hs, by rw [<- rs.length]; exact k φ H _ hH Step.refl (.int _)⟩
 ·cases e
theorem call_lenW {X : Cx} : CallR X (.builtin "len") (rLen X.K) := CallR.or call_len_seq call_len_str
def MtI (K : PySem.W.Frag) (T : String) (r : V -> List V -> Hp -> VK -> Prop) (f : W -> List W -> Po W) : Prop := ∀ {φ : Nat -> Addr} {ph : PH} {H : Hp} {x : W} {xs : List W} {vx : V} {vs : List V} {w : W} {ph' : PH} {Q : VK},
 RelH K φ ph H -> RelW K φ ph.length H x vx -> RelWs K φ ph.length H xs vs -> f x xs ph = some (w, ph') →
 (∀ φ' H' v, RelH K φ' ph' H' -> Step K φ ph.length H φ' ph'.length H' -> RelW K φ' ph'.length H' w v -> Q v H') -> r vx vs H Q
def TyI (K : PySem.W.Frag) (T : String) (ty : W -> PH -> Bool) : Prop := ∀ {φ : Nat -> Addr} {ph : PH} {H : Hp} {x : W} {vx : V}, RelH K φ ph H -> RelW K φ ph.length H x vx -> ty x ph = true -> tyV K T vx H
def chkT (b : PH -> Bool) : Po Unit := fun ph => if b ph = true then some ((), ph) else none
def eMeth (ty : W -> PH -> Bool) (f : W -> List W -> Po W) (o : EM) (a : AM) : EM := fun σ => bnd (o σ) fun x => bnd (lift (chkT (ty x))) fun _ => bnd (a σ) fun xs => lift (f x xs)
def isL (w : W) (ph : PH) : Bool := match w with
 | .ref i => match ph[i]? with
  | some (.lst _) => true
  | _ => false
 | .fl _ => true
 | _ => false
theorem isL_i {K : PySem.W.Frag} : TyI K "list" isL := by
 intro φ ph H x vx hH rx e
 unfold isL at e
 cases rx with
 | ref hi =>
  simp only at e
  split at e
  ·rename_i ws' hw
   obtain ⟨vs, hv, r⟩ := hH.hp _ _ hw
   exact .inl ⟨rfl, vs, SqL.of hv⟩
  ·cases e
 | fl h r => exact .inl ⟨rfl, _, h.sq⟩
 | _ => cases e
section
variable {X : Cx} {o e : Expr} {es : List Expr} {mo : EM} {t : AM} {name : Str} {apos cpos : Pos} {T id : String} {r : V -> List V -> Hp -> VK -> Prop} {ty : W -> PH -> Bool} {f : W -> List W -> Po W}
theorem meth_imp (ht : TyI X.K T ty) (hi : MtI X.K T r f) {σ : L2.St} {H : Hp} {Q : VK} (h : tM X (eMeth ty f mo t) σ H Q) : tBM X.K T r (tM X mo) (tA X t) σ H Q := by
 obtain ⟨φ, ph, ws, hH, hS, h⟩ := h
 refine tM.bind hH hS h fun x ph1 φ1 H1 v hH1 s1 r1 h => ?_
 rw [run_bnd] at h
 obtain ⟨_, ph2, e2, h⟩ := run_lift h
 unfold chkT at e2
 split at e2
 ·rename_i hy
  cases e2
  refine ⟨ht hH1 r1 hy, tA.bind hH1 (hS.mono s1) h fun xs ph2 φ2 H2 vs hH2 s2 r2 h => ?_⟩
  obtain ⟨w, ph', e, k⟩ := run_lift h
  exact hi hH2 (r1.mono s2) r2 e fun φ3 H3 v hH3 s3 r3 => k φ3 H3 v hH3 ((s1.trans s2).trans s3) r3
 ·cases e2
theorem ie_bm (pa : PlainAttrs T) (slot : Slot T name id) (hty : typeOf (.builtin id) = pure (.type "method_descriptor")) (hm : MtR X id r) (ht : TyI X.K T ty) (hi : MtI X.K T r f) (ho : IE X o mo) (ha : IA X (e :: es) t)
  (hbase : attributeBase o name X.env (eval o X.env) = eval o X.env := by rfl)
  (hfew : ((backTo cpos (starEach (e :: es) X.env)).all (fun x => !x.1) && (backToKw cpos (keywordEach [] X.env)).all (fun x => x.1.isSome)
   && decide ((e :: es).length + ([] : List Keyword).length + (if ([] : List Keyword).isEmpty then 0 else 1) < 30)) = true := by rfl)
  (hline : (apos.endLine == cpos.line) = true := by rfl) (hs : starEach (e :: es) X.env = (false, eval e X.env) :: starEach es X.env := by rfl) (hplain : (backTo cpos (starEach es X.env)).any (·.1) = false := by rfl) :
  IE X (.Call (.Attribute o name apos) (e :: es) [] cpos) (eMeth ty f mo t) :=
 PE.imp (pe_bm pa slot hty hm ho ha hbase hfew hline hs hplain) fun _ _ _ h => meth_imp ht hi h
theorem ie_bm0 (pa : PlainAttrs T) (slot : Slot T name id) (hty : typeOf (.builtin id) = pure (.type "method_descriptor")) (hm : MtR X id r) (ht : TyI X.K T ty) (hi : MtI X.K T r f) (ho : IE X o mo)
  (hbase : attributeBase o name X.env (eval o X.env) = eval o X.env := by rfl) (hline : (apos.endLine == cpos.line) = true := by rfl) : IE X (.Call (.Attribute o name apos) [] [] cpos) (eMeth ty f mo aNil) := by
 refine PE.imp (pe_bm0 pa slot hty hm ho hbase hline) fun σ H Q h => ?_
 obtain ⟨φ, ph, ws, hH, hS, h⟩ := h
 refine tM.bind hH hS h fun x ph1 φ1 H1 v hH1 s1 r1 h => ?_
 rw [run_bnd] at h
 obtain ⟨_, ph2, e2, h⟩ := run_lift h
 unfold chkT at e2
 split at e2
 ·rename_i hy
  cases e2
  refine ⟨ht hH1 r1 hy, ?_⟩
  obtain ⟨w, ph', e, k⟩ := run_lift h
  exact hi hH1 r1 .nil e fun φ3 H3 v hH3 s3 r3 => k φ3 H3 v hH3 (s1.trans s3) r3
 ·cases e2
end
theorem put_list {K : PySem.W.Frag} {φ : Nat -> Addr} {ph : PH} {H : Hp} {i : Nat} {ws ws0 : List W} {vs : List V} (hH : RelH K φ ph H) (hi : ph[i]? = some (.lst ws0)) (r : RelWs K φ ph.length H ws vs) :
  RelH K φ (ph.set i (.lst ws)) (upd H (φ i) (.lst vs)) /\ Step K φ ph.length H φ (ph.set i (.lst ws)).length (upd H (φ i) (.lst vs)) := by
 obtain ⟨y, ey, my⟩ := hH.mu hi rfl
 have s := step_set (K := K) (φ := φ) (n := ph.length) (y := HO.lst vs) ey my
 rw [List.length_set]
 exact ⟨hH.put hi rfl ⟨vs, upd_same, r.mono s⟩, s⟩
def appendW : W -> List W -> Po W := fun x xs ph => match x, xs with
 | .ref i, [y] => match ph[i]? with
  | some (.lst ws) => if ws.length < sizeLine then some (.non, ph.set i (.lst (ws ++ [y]))) else none
  | _ => none
 | _, _ => none
theorem appendW_i {K : PySem.W.Frag} : MtI K "list" rAppend appendW := by
 intro φ ph H x xs vx vs w ph' Q hH rx rs e k
 unfold appendW at e
 split at e
 ·rename_i i y
  split at e
  ·rename_i ws hw
   split at e
   ·rename_i hz
    cases e
    cases rx with
    | ref hi =>
     cases rs with
     | cons ry rr =>
      cases rr
      obtain ⟨us, hv, r⟩ := hH.hp _ _ hw
      obtain ⟨q1, q2⟩ := put_list hH hw (r.append (.cons ry .nil))
      exact ⟨_, us, _, rfl, rfl, hv, by rw [<- r.length]; exact hz, k φ _ _ q1 q2 .non⟩
   ·cases e
  ·cases e
 ·cases e
def clearW : W -> List W -> Po W := fun x xs ph => match x, xs with
 | .ref i, [] => match ph[i]? with
  | some (.lst _) => some (.non, ph.set i (.lst []))
  | _ => none
 | _, _ => none
def popW : W -> List W -> Po W := fun x xs ph => match x, xs with
 | .ref i, [] => match ph[i]? with
  | some (.lst ws) => match ws[ws.length - 1]? with
   | some y => some (y, ph.set i (.lst ws.dropLast))
   | none => none
  | _ => none
 | _, _ => none
theorem RelWs.dropLast {K : PySem.W.Frag} {φ : Nat -> Addr} {n : Nat} {H : Hp} : ∀ {ws : List W} {vs : List V}, RelWs K φ n H ws vs -> RelWs K φ n H ws.dropLast vs.dropLast
 | _, _, .nil => .nil
 | _, _, .cons h .nil => .nil
 | _, _, .cons h (.cons h' r) => .cons h (RelWs.dropLast (.cons h' r))
theorem popW_i {K : PySem.W.Frag} : MtI K "list" rPop popW := by
 intro φ ph H x xs vx vs w ph' Q hH rx rs e k
 unfold popW at e
 split at e
 ·rename_i i
  split at e
  ·rename_i ws hw
   split at e
   ·rename_i y hy
    cases e
    cases rx with
    | ref hi =>
     cases rs
     obtain ⟨us, hv, r⟩ := hH.hp _ _ hw
     obtain ⟨u, hu, ru⟩ := r.get hy
     rw [r.length] at hu
     obtain ⟨q1, q2⟩ := put_list hH hw r.dropLast
     exact ⟨_, us, u, rfl, rfl, hv, hu, k φ _ _ q1 q2 (ru.mono (by rw [List.length_set] at q2; simpa using q2))⟩
   ·cases e
  ·cases e
 ·cases e
def negW : W -> Po W := fun x => match x with
 | .int i => ret (.int (-i))
 | _ => nono
def subW : W -> W -> Po W := iop fun i j => i - j
def modW : W -> W -> Po W := iopC (fun _ j => decide (j ≠ 0)) fun i j => i.fmod j
theorem modW_i {K : PySem.W.Frag} : OpI K (rI (fun _ j => j ≠ 0) fun i j => .int (i.fmod j)) modW := iopC_i fun i j h => by simpa using h
def CDivB (i j : Int) : Prop := j ≠ 0 /\ j.natAbs < 2 ^ 64
theorem op_fdivB {X : Cx} : OpR X (binaryOp .FloorDiv) (rI CDivB fun i j => .int (i.fdiv j)) := opI fun i j _ _ _ _ _ hc q => floordiv_int hc.1 q (.inl (PyProof.noPylong_of_log2 (by
 have h0 : j.natAbs ≠ 0 := by have := hc.1; omega
 have := (Nat.log2_lt h0).mpr hc.2
 omega)))
def divW : W -> W -> Po W := iopC (fun _ j => decide (j ≠ 0) && decide (j.natAbs < 2 ^ 64)) fun i j => i.fdiv j
theorem divW_i {K : PySem.W.Frag} : OpI K (rI CDivB fun i j => .int (i.fdiv j)) divW := iopC_i fun i j h => by
 rw [Bool.and_eq_true] at h
 exact ⟨of_decide_eq_true h.1, of_decide_eq_true h.2⟩
def ltW : W -> W -> Po W := icmp fun i j => decide (i < j)
def leW : W -> W -> Po W := icmp fun i j => decide (i <= j)
def gtW : W -> W -> Po W := icmp fun i j => decide (j < i)
def geW : W -> W -> Po W := icmp fun i j => decide (j <= i)
def mulC (i j : Int) : Bool := (decide (-(2 ^ 64) < i) && decide (i < 2 ^ 64)) || (decide (-(2 ^ 64) < j) && decide (j < 2 ^ 64))
def mulW : W -> W -> Po W := fun x y => match x, y with
 | .int i, .int j => if mulC i j = true then ret (.int (i * j)) else nono
 | _, _ => nono
theorem mulW_i {K : PySem.W.Frag} : OpI K (rI CMul fun i j => .int (i * j)) mulW := by
 intro φ ph H x y vx vy w ph' Q hH rx ry e k
 unfold mulW at e
 split at e
 ·split at e
  ·rename_i hc
   cases e; cases rx; cases ry
   refine ⟨_, _, rfl, rfl, ?_, k φ H _ hH Step.refl (.int _)⟩
   unfold mulC at hc
   simp only [Bool.or_eq_true, Bool.and_eq_true, decide_eq_true_eq] at hc
   exact hc
  ·cases e
 ·cases e
def addW : W -> W -> Po W := fun x y ph => match x, y with
 | .int i, .int j => some (.int (i + j), ph)
 | .str i, .str j => if i.length + j.length <= sizeLine then some (.str (i ++ j), ph) else none
 | .ref a, .ref b => match ph[a]?, ph[b]? with
  | some (.lst xs), some (.lst ys) => if xs.length + ys.length <= sizeLine then some (.ref ph.length, ph ++ [.lst (xs ++ ys)]) else none
  | _, _ => none
 | .tup xs, .tup ys => if xs ≠ [] /\ xs.length + ys.length <= sizeLine then some (.tup (xs ++ ys), ph) else none
 | _, _ => none
abbrev rAddW (K : PySem.W.Frag) : R2 := fun x y H Q => ((rI0 fun i j => .int (i + j)) x y H Q \/ ∃ i j, x = .str i /\ y = .str j /\ i.length + j.length <= sizeLine /\ Q (.str (i ++ j)) H) \/ (rCat x y H Q \/ rCatT K x y H Q)
theorem op_addW {X : Cx} : OpR X (binaryOp .Add) (rAddW X.K) := OpR.or (OpR.or op_add op_add_str) (OpR.or op_cat op_catT)
theorem addW_i {K : PySem.W.Frag} : OpI K (rAddW K) addW := by
 intro φ ph H x y vx vy w ph' Q hH rx ry e k
 unfold addW at e
 split at e
 ·cases e; cases rx; cases ry
  exact .inl (.inl ⟨_, _, rfl, rfl, k φ H _ hH Step.refl (.int _)⟩)
 ·split at e
  ·rename_i hz
   cases e; cases rx; cases ry
   exact .inl (.inr ⟨_, _, rfl, rfl, hz, k φ H _ hH Step.refl (.str _)⟩)
  ·cases e
 ·split at e
  ·rename_i xs ys hx hy
   split at e
   ·rename_i hz
    cases e
    cases rx; cases ry
    obtain ⟨us, hu, ru⟩ := hH.hp _ _ hx
    obtain ⟨vs, hv, rv⟩ := hH.hp _ _ hy
    refine .inr (.inl ⟨_, _, us, vs, rfl, rfl, hu, hv, by rw [<- ru.length, <- rv.length]; exact hz, fun p hp => ?_⟩)
    obtain ⟨q1, q2, q3⟩ := new_list hH (ru.append rv) hp
    exact k _ _ _ q1 q2 q3
   ·cases e
  ·cases e
 ·split at e
  ·rename_i xs ys hz
   cases e
   cases rx with
   | tup hx rx =>
    cases ry with
    | tup hy ry =>
     rename_i a us b vs
     refine .inr (.inr ⟨a, b, us, vs, rfl, rfl, SqT.of hx, SqT.of hy, ?_, by rw [<- rx.length, <- ry.length]; exact hz.2, fun he => ?_, fun hn p hp => ?_⟩)
     ·rintro rfl
      cases rx
      exact hz.1 rfl
     ·subst he
      cases ry
      refine k φ H _ hH Step.refl ?_
      rw [List.append_nil]
      exact .tup hx rx
     ·exact k φ _ _ (hH.tup hp) (step_tup hp) (.tup upd_same ((rx.append ry).mono (step_tup hp)))
  ·cases e
 ·cases e
def isNW : W -> W -> Po W := fun x y => match y with
 | .non => ret (.bl (decide (x = .non)))
 | _ => nono
def notNW : W -> W -> Po W := fun x y => match y with
 | .non => ret (.bl (!decide (x = .non)))
 | _ => nono
theorem non_iff {K : PySem.W.Frag} {φ : Nat -> Addr} {n : Nat} {H : Hp} {x : W} {v : V} (r : RelW K φ n H x v) : decide (x = .non) = decide (v = .non) := by
 cases r <;> simp
theorem isNW_i {K : PySem.W.Frag} : OpI K (fun x y H Q => y = .non /\ Q (.bl (decide (x = .non))) H) isNW := by
 intro φ ph H x y vx vy w ph' Q hH rx ry e k
 unfold isNW at e
 split at e
 ·cases e; cases ry
  exact ⟨rfl, by rw [<- non_iff rx]; exact k φ H _ hH Step.refl (.bl _)⟩
 ·cases e
theorem notNW_i {K : PySem.W.Frag} : OpI K (fun x y H Q => y = .non /\ Q (.bl (!decide (x = .non))) H) notNW := by
 intro φ ph H x y vx vy w ph' Q hH rx ry e k
 unfold notNW at e
 split at e
 ·cases e; cases ry
  exact ⟨rfl, by rw [<- non_iff rx]; exact k φ H _ hH Step.refl (.bl _)⟩
 ·cases e
def intW : List W -> Po W := fun xs => match xs with
 | [.int i] => ret (.int i)
 | [.bl b] => ret (.int (if b then 1 else 0))
 | _ => nono
def absW : List W -> Po W := fun xs => match xs with
 | [.int i] => ret (.int (if i < 0 then -i else i))
 | _ => nono
def kindW (w : W) (ph : PH) : Option String := match w with
 | .non => some "NoneType"
 | .bl _ => some "bool"
 | .int _ => some "int"
 | .str _ => some "str"
 | .tup _ => some "tuple"
 | .fl _ => some "list"
 | .ref i => match ph[i]? with
  | some (.lst _) => some "list"
  | some (.dct _) => some "dict"
  | _ => none
 | .exc .. => none
 | .fn .. => none
def subK (t c : String) : Bool := t == c || (t == "bool" && c == "int")
def isP (c : String) (w : W) : Po W := fun ph => match kindW w ph with
 | some t => some (.bl (subK t c), ph)
 | none => none
def eIs (c : String) (m : EM) : EM := fun σ => bnd (m σ) fun w => lift (isP c w)
inductive KindV (K : PySem.W.Frag) (H : Hp) : V -> String -> Prop where
 | non : KindV K H .non "NoneType"
 | bl (x : Bool) : KindV K H (.bl x) "bool"
 | int (i : Int) : KindV K H (.int i) "int"
 | str (x : Str) : KindV K H (.str x) "str"
 | lst {a : Addr} {xs : List V} (e : SqL K H a xs) : KindV K H (.ref a) "list"
 | tup {a : Addr} {xs : List V} (e : SqT K H a xs) : KindV K H (.ref a) "tuple"
 | dk {a : Addr} {kvs : List (Key × V)} (e : H a = some (.dK kvs)) : KindV K H (.ref a) "dict"
 | dt {a : Addr} {kvs : List (List Key × V)} (e : H a = some (.dT kvs)) : KindV K H (.ref a) "dict"
theorem kindW_v {K : PySem.W.Frag} {φ : Nat -> Addr} {ph : PH} {H : Hp} {w : W} {v : V} {t : String} (hH : RelH K φ ph H) (r : RelW K φ ph.length H w v) (e : kindW w ph = some t) : KindV K H v t := by
 unfold kindW at e
 cases r with
 | non => cases e; exact .non
 | bl b => cases e; exact .bl b
 | int b => cases e; exact .int b
 | str b => cases e; exact .str b
 | tup h r => cases e; exact .tup (SqT.of h)
 | fl h r => cases e; exact .lst h.sq
 | ref hi =>
  simp only at e
  split at e
  ·rename_i ws hw
   cases e
   obtain ⟨vs, hv, _⟩ := hH.hp _ _ hw
   exact .lst (SqL.of hv)
  ·rename_i ws hw
   cases e
   rcases hH.hp _ _ hw with ⟨kvs, q, _⟩ | ⟨kvs, q, _⟩
   ·exact .dk q
   ·exact .dt q
  ·cases e
 | exc => cases e
 | fn => cases e
def Kits (K : PySem.W.Frag) (c : String) : Prop := ∀ t ∈ ["NoneType", "bool", "int", "str", "list", "tuple", "dict"], PySem.W.kitOne K (.type t) (.type c) = some (subK t c)
def rIs (K : PySem.W.Frag) (c : String) : List V -> Hp -> VK -> Prop := fun xs H Q => ∃ x t, xs = [x, .ty c] /\ KindV K H x t /\ Q (.bl (subK t c)) H
theorem call_is {X : Cx} {c : String} (hk : Kits X.K c) : CallR X (.builtin "isinstance") (rIs X.K c) := by
 intro pins s σ H xs us Q I r h
 obtain ⟨x, t, rfl, kv, q⟩ := h
 obtain ⟨u, u2, rfl, rx, rc⟩ := Vals.two r
 obtain rfl : u2 = Value.type c := rc
 have fin : ∀ tk, EP X pins σ Q (.bool (subK t c)) { s with toks := tk } := fun tk => ⟨.bl _, H, I.tok tk, rfl, q⟩
 cases kv with
 | non => cases (show u = Value.none from rx); exact PySem.W.kia_one PySem.W.kitx_none I.kIn True.intro (hk _ (by decide)) (fun z => nomatch z) fin
 | bl y => cases (show u = Value.bool y from rx); exact PySem.W.kia_one PySem.W.kitx_bool I.kIn True.intro (hk _ (by decide)) (fun z => nomatch z) fin
 | int i => obtain ⟨t, rfl⟩ := (show ∃ t, u = Value.int i t from rx); exact PySem.W.kia_one PySem.W.kitx_int I.kIn True.intro (hk _ (by decide)) (fun z => nomatch z) fin
 | str y => obtain ⟨t, rfl⟩ := (show ∃ t, u = Value.str y t from rx); exact PySem.W.kia_one PySem.W.kitx_str I.kIn True.intro (hk _ (by decide)) (fun z => nomatch z) fin
 | @lst a ys e =>
  cases (show u = Value.ref a from rx)
  obtain ⟨its, _, ⟨o, n, h1, h2, _⟩, _⟩ := I.list e
  exact PySem.W.kia_one PySem.W.kitx_list I.kIn ⟨_, h1, h2⟩ (hk _ (by decide)) (fun z => nomatch z) fin
 | @tup a ys e =>
  cases (show u = Value.ref a from rx)
  obtain ⟨its, _, ⟨o, h1, h2, _⟩, _⟩ := I.tuple e
  exact PySem.W.kia_one PySem.W.kitx_tuple I.kIn ⟨_, h1, h2⟩ (hk _ (by decide)) (fun z => nomatch z) fin
 | @dk a kvs e =>
  cases (show u = Value.ref a from rx)
  obtain ⟨_, _, vs, _, ob, _, _, h1, h2, _⟩ := dk_of I.hok e
  exact PySem.W.kia_one PySem.W.kitx_dict I.kIn ⟨_, h1, h2.1⟩ (hk _ (by decide)) (fun z => nomatch z) fin
 | @dt a kvs e =>
  cases (show u = Value.ref a from rx)
  obtain ⟨_, _, xs, _, ob, _, _, h1, h2, _⟩ := dt_of I.hok e
  exact PySem.W.kia_one PySem.W.kitx_dict I.kIn ⟨_, h1, h2.1⟩ (hk _ (by decide)) (fun z => nomatch z) fin
section
variable {X : Cx} {e : Expr} {m : EM} {p p2 pos : Pos}
theorem ie_is {c : Str} {cn : String} (hk : Kits X.K cn) (hv : bootBuiltins c = some (.type cn)) (hg : Gl X "isinstance") (hm : X.mg "isinstance" = none) (hgc : Gl X c) (hmc : X.mg c = none) (he : IE X e m)
  (hn : c ≠ "__name__" := by decide) (hd : (c == ("__debug__" : Str)) = false := by decide)
  (hs : starEach [e, .Name c p2] X.env = [(false, eval e X.env), (false, eval (.Name c p2) X.env)] := by rfl) (hs2 : starEach [.Name c p2] X.env = [(false, eval (.Name c p2) X.env)] := by rfl)
  (hpl : (backTo pos (starEach [.Name c p2] X.env)).any (·.1) = false := by rfl) :
  IE X (.Call (.Name "isinstance" p) [e, .Name c p2] [] pos) (eIs cn m) := by
 refine PE.imp (pe_callB (call_is hk) hg hm PyProof.Rows.boot_isinstance (pa_cons he (pa_cons (pe_bltn (v := .ty cn) hgc hmc hv rfl hn hd) pa_nil (by rw [hs2]; rfl)) (by rw [hs, hs2])) (he := by rw [hs, hs2]) (hpl := hpl)) fun σ H Q h => ?_
 obtain ⟨φ, ph, ws, hH, hS, h⟩ := h
 refine tM.bind hH hS h fun x ph1 φ1 H1 vx hH1 s1 rx h => ?_
 obtain ⟨w, ph', e, k⟩ := run_lift h
 unfold isP at e
 split at e
 ·rename_i t ht
  cases e
  exact ⟨vx, t, rfl, kindW_v hH1 rx ht, k φ1 H1 _ hH1 s1 (.bl _)⟩
 ·cases e
end
theorem kits_int {K : PySem.W.Frag} : Kits K "int" := by
 intro t ht
 simp only [List.mem_cons, List.mem_nil_iff, or_false] at ht
 rcases ht with rfl | rfl | rfl | rfl | rfl | rfl | rfl <;> rfl
theorem kits_bool {K : PySem.W.Frag} : Kits K "bool" := by
 intro t ht
 simp only [List.mem_cons, List.mem_nil_iff, or_false] at ht
 rcases ht with rfl | rfl | rfl | rfl | rfl | rfl | rfl <;> rfl
theorem kits_list {K : PySem.W.Frag} : Kits K "list" := by
 intro t ht
 simp only [List.mem_cons, List.mem_nil_iff, or_false] at ht
 rcases ht with rfl | rfl | rfl | rfl | rfl | rfl | rfl <;> rfl
def mapO {α β : Type} (f : α -> Option β) : List α -> Option (List β)
 | [] => some []
 | a :: as => match f a, mapO f as with
  | some b, some bs => some (b :: bs)
  | _, _ => none
def dat (ph : PH) : Nat -> W -> Option PyData
 | _, .non => some .none
 | _, .bl b => some (.bool b)
 | _, .int i => some (.int i)
 | _, .str x => if PyData.strOk x = true then some (.str x) else none
 | n + 1, .tup ws => (mapO (dat ph n) ws).map .tuple
 | n + 1, .fl ws => (mapO (dat ph n) ws).map .list
 | n + 1, .ref i => match ph[i]? with
  | some (.lst ws) => (mapO (dat ph n) ws).map .list
  | _ => none
 | _, _ => none
section
variable {X : Cx} {pins : List (Addr × Obj)} {σ : L2.St} {H : Hp} {s : Shared} {φ : Nat -> Addr} {ph : PH}
def RdD (s : Shared) (n : Nat) (u : Value) (d : PyData) : Prop := (∃ as, Reads s.heap u d as) /\ d.canLay0 = true /\ d.depth <= n
theorem dats_reads {n : Nat} (ih : ∀ {w : W} {v : V} {u : Value} {d : PyData}, RelW X.K φ ph.length H w v -> RelV v u -> dat ph n w = some d -> RdD s n u d) :
  ∀ {ws : List W} {vs : List V} {us : List Value} {ds : List PyData}, RelWs X.K φ ph.length H ws vs -> Vals vs us -> mapO (dat ph n) ws = some ds →
   (∃ as, ReadsAll s.heap us ds as) /\ PyData.canLayAll0 ds = true /\ PyData.depthAll ds <= n
 | _, _, _, _, .nil, .nil, e => by cases e; exact ⟨⟨_, .nil⟩, rfl, Nat.zero_le _⟩
 | w :: ws, _, _, ds, .cons h r, .cons hv rv, e => by
  unfold mapO at e
  split at e
  ·rename_i b bs e1 e2
   cases e
   obtain ⟨⟨as, r1⟩, c1, d1⟩ := ih h hv e1
   obtain ⟨⟨bs', r2⟩, c2, d2⟩ := dats_reads ih r rv e2
   refine ⟨⟨_, .cons r1 r2⟩, ?_, ?_⟩
   ·simp only [PyData.canLayAll0, c1, c2, Bool.and_self]
   ·simp only [PyData.depthAll]; omega
  ·cases e
theorem dat_reads (I : Inv X pins σ H s) (hH : RelH X.K φ ph H) : ∀ (n : Nat) {w : W} {v : V} {u : Value} {d : PyData}, RelW X.K φ ph.length H w v -> RelV v u -> dat ph n w = some d -> RdD s n u d := by
 have seqs : ∀ (n : Nat) (ih : ∀ {w : W} {v : V} {u : Value} {d : PyData}, RelW X.K φ ph.length H w v -> RelV v u -> dat ph n w = some d -> RdD s n u d) {ws : List W} {vs : List V} {d : PyData} {a : Addr},
   RelWs X.K φ ph.length H ws vs -> ((SqL X.K H a vs /\ (mapO (dat ph n) ws).map PyData.list = some d) \/ (SqT X.K H a vs /\ (mapO (dat ph n) ws).map PyData.tuple = some d)) -> RdD s (n + 1) (.ref a) d := by
  intro n ih ws vs d a r h
  rcases h with ⟨hq, e⟩ | ⟨hq, e⟩
  ·obtain ⟨its, rv, ⟨o, k, h1, h2, h3, h4⟩, _⟩ := I.list hq
   obtain ⟨ds, e1, e2⟩ := Option.map_eq_some_iff.mp e
   subst e2
   obtain ⟨⟨as, r1⟩, c1, d1⟩ := dats_reads ih r rv e1
   refine ⟨⟨_, .list h1 h2 h4 (by simpa using r1)⟩, by simpa only [PyData.canLay0] using c1, ?_⟩
   simp only [PyData.depth]; omega
  ·obtain ⟨its, rv, ⟨o, h1, h2, k, h4⟩, _⟩ := I.tuple hq
   obtain ⟨ds, e1, e2⟩ := Option.map_eq_some_iff.mp e
   subst e2
   obtain ⟨⟨as, r1⟩, c1, d1⟩ := dats_reads ih r rv e1
   refine ⟨⟨_, .tuple h1 h2 h4 (by simpa using r1)⟩, by simpa only [PyData.canLay0] using c1, ?_⟩
   simp only [PyData.depth]; omega
 intro n
 induction n with
 | zero =>
  intro w v u d r rv e
  cases r with
  | non => cases rv; cases e; exact ⟨⟨_, .none⟩, rfl, Nat.le_refl _⟩
  | bl b => cases rv; cases e; exact ⟨⟨_, .bool b⟩, rfl, Nat.le_refl _⟩
  | int i => obtain ⟨t, rfl⟩ := rv; cases e; exact ⟨⟨_, .int i t⟩, rfl, Nat.le_refl _⟩
  | str x =>
   obtain ⟨t, rfl⟩ := rv
   unfold dat at e
   split at e
   ·rename_i hx; cases e; exact ⟨⟨_, .str x t⟩, by simpa only [PyData.canLay0] using hx, Nat.le_refl _⟩
   ·cases e
  | _ => cases e
 | succ n ih =>
  intro w v u d r rv e
  cases r with
  | non => cases rv; cases e; exact ⟨⟨_, .none⟩, rfl, Nat.zero_le _⟩
  | bl b => cases rv; cases e; exact ⟨⟨_, .bool b⟩, rfl, Nat.zero_le _⟩
  | int i => obtain ⟨t, rfl⟩ := rv; cases e; exact ⟨⟨_, .int i t⟩, rfl, Nat.zero_le _⟩
  | str x =>
   obtain ⟨t, rfl⟩ := rv
   unfold dat at e
   split at e
   ·rename_i hx; cases e; exact ⟨⟨_, .str x t⟩, by simpa only [PyData.canLay0] using hx, Nat.zero_le _⟩
   ·cases e
  | tup h r => cases rv; exact seqs n ih r (.inr ⟨SqT.of h, e⟩)
  | exc => unfold dat at e; cases e
  | fn => unfold dat at e; cases e
  | fl h r => cases rv; exact seqs n ih r (.inl ⟨h.sq, e⟩)
  | ref hi =>
   cases rv
   unfold dat at e
   split at e
   ·rename_i ws hw
    obtain ⟨vs, hv, r⟩ := hH.hp _ _ hw
    exact seqs n ih r (.inl ⟨SqL.of hv, e⟩)
   ·cases e
end
def eqD (ph : PH) (x y : W) : Option Bool := match dat ph 40 x, dat ph 40 y with
 | some a, some b => some (PyData.eqv a b)
 | _, _ => none
def eqW : W -> W -> Po W := fun x y ph => (eqD ph x y).map fun b => (.bl b, ph)
def neW : W -> W -> Po W := fun x y ph => (eqD ph x y).map fun b => (.bl (!b), ph)
def rD (K : PySem.W.Frag) (f : Bool -> Bool) : R2 := fun x y H Q => ∃ φ ph wx wy b, RelH K φ ph H /\ RelW K φ ph.length H wx x /\ RelW K φ ph.length H wy y /\ eqD ph wx wy = some b /\ Q (.bl (f b)) H
theorem eqD_some {ph : PH} {x y : W} {b : Bool} (h : eqD ph x y = some b) : ∃ dx dy, dat ph 40 x = some dx /\ dat ph 40 y = some dy /\ b = PyData.eqv dx dy := by
 unfold eqD at h
 split at h
 ·rename_i dx dy h1 h2
  cases h
  exact ⟨dx, dy, h1, h2, rfl⟩
 ·cases h
theorem op_eqW {X : Cx} (hu : X.A.units + 64 < cLine) : OpR X (compareOp .Eq) (rD X.K fun b => b) := by
 intro pins s σ H x y v u Q I rx ry h
 obtain ⟨φ, ph, wx, wy, b, hH, r1, r2, e, q⟩ := h
 obtain ⟨dx, dy, e1, e2, rfl⟩ := eqD_some e
 obtain ⟨⟨as, k1⟩, c1, l1⟩ := dat_reads I hH 40 r1 rx e1
 obtain ⟨⟨bs, k2⟩, c2, l2⟩ := dat_reads I hH 40 r2 ry e2
 exact SeqAt.compareEq_reads k1 k2 c1 c2 (by omega) ⟨.bl _, H, I, rfl, q⟩
theorem op_neW {X : Cx} (hu : X.A.units + 64 < cLine) : OpR X (compareOp .NotEq) (rD X.K fun b => !b) := by
 intro pins s σ H x y v u Q I rx ry h
 obtain ⟨φ, ph, wx, wy, b, hH, r1, r2, e, q⟩ := h
 obtain ⟨dx, dy, e1, e2, rfl⟩ := eqD_some e
 obtain ⟨⟨as, k1⟩, c1, l1⟩ := dat_reads I hH 40 r1 rx e1
 obtain ⟨⟨bs, k2⟩, c2, l2⟩ := dat_reads I hH 40 r2 ry e2
 exact SeqAt.compareNe_reads k1 k2 c1 c2 (by omega) ⟨.bl _, H, I, rfl, q⟩
theorem eqW_i {K : PySem.W.Frag} : OpI K (rD K fun b => b) eqW := by
 intro φ ph H x y vx vy w ph' Q hH rx ry e k
 obtain ⟨b, e1, e2⟩ := Option.map_eq_some_iff.mp e
 cases e2
 exact ⟨φ, ph, x, y, b, hH, rx, ry, e1, k φ H _ hH Step.refl (.bl _)⟩
theorem neW_i {K : PySem.W.Frag} : OpI K (rD K fun b => !b) neW := by
 intro φ ph H x y vx vy w ph' Q hH rx ry e k
 obtain ⟨b, e1, e2⟩ := Option.map_eq_some_iff.mp e
 cases e2
 exact ⟨φ, ph, x, y, b, hH, rx, ry, e1, k φ H _ hH Step.refl (.bl _)⟩
def inD (ph : PH) (x y : W) : Option Bool := match seqW y ph, dat ph 40 x with
 | some ws, some dx => (mapO (dat ph 40) ws).map fun ds => ds.any fun d => PyData.eqv d dx
 | _, _ => none
def inW : W -> W -> Po W := fun x y ph => (inD ph x y).map fun b => (.bl b, ph)
def ninW : W -> W -> Po W := fun x y ph => (inD ph x y).map fun b => (.bl (!b), ph)
def rInD (K : PySem.W.Frag) (f : Bool -> Bool) : R2 := fun x y H Q => ∃ φ ph wx wy b, RelH K φ ph H /\ RelW K φ ph.length H wx x /\ RelW K φ ph.length H wy y /\ inD ph wx wy = some b /\ Q (.bl (f b)) H
open Classical in
noncomputable def ansOf (s : Shared) (dx : PyData) (u : Value) : Bool := if h : ∃ d, RdD s 40 u d then PyData.eqv h.choose dx else false
theorem ansOf_eq {s : Shared} {dx d : PyData} {u : Value} (h : RdD s 40 u d) : ansOf s dx u = PyData.eqv d dx := by
 unfold ansOf
 have hx : ∃ d, RdD s 40 u d := ⟨d, h⟩
 rw [dif_pos hx]
 obtain ⟨⟨as, r⟩, c, _⟩ := h
 obtain ⟨⟨as', r'⟩, c', _⟩ := hx.choose_spec
 rw [SeqAt.Reads.unique _ _ _ _ _ c' r' r]
section
variable {X : Cx} {pins : List (Addr × Obj)} {σ : L2.St} {H : Hp} {s : Shared} {φ : Nat -> Addr} {ph : PH}
theorem ans_all (I : Inv X pins σ H s) (hH : RelH X.K φ ph H) {dx : PyData} : ∀ {ws : List W} {vs : List V} {us : List Value} {ds : List PyData}, RelWs X.K φ ph.length H ws vs -> Vals vs us -> mapO (dat ph 40) ws = some ds →
  (us.any (ansOf s dx) = ds.any fun d => PyData.eqv d dx) /\ ∀ u ∈ us, ∃ d, RdD s 40 u d
 | _, _, _, _, .nil, .nil, e => by cases e; exact ⟨rfl, fun _ h => nomatch h⟩
 | w :: ws, _, _, ds, .cons h r, .cons hv rv, e => by
  unfold mapO at e
  split at e
  ·rename_i b bs e1 e2
   cases e
   have q := dat_reads I hH 40 h hv e1
   obtain ⟨r1, r2⟩ := ans_all I hH (dx := dx) r rv e2
   refine ⟨by rw [List.any_cons, List.any_cons, r1, ansOf_eq q], fun u hu => ?_⟩
   rcases List.mem_cons.mp hu with rfl | hu
   ·exact ⟨_, q⟩
   ·exact r2 u hu
  ·cases e
theorem in_core (I : Inv X pins σ H s) (hH : RelH X.K φ ph H) {wx wy : W} {x y : V} {v u : Value} {b : Bool} (hu : X.A.units + 64 < cLine) (r1 : RelW X.K φ ph.length H wx x) (r2 : RelW X.K φ ph.length H wy y) (rx : RelV x v) (ry : RelV y u) (e : inD ph wx wy = some b) :
  ∃ (a : Addr) (its : List Value) (f : Value -> Bool), u = .ref a /\ (s.heap.IsList a its.toArray \/ s.heap.IsTuple a its.toArray) /\ (∀ z, z ∈ its.toArray -> SeqAt.EqAt X.A.in1 s z v (f z)) /\ its.toArray.any f = b := by
 unfold inD at e
 split at e
 ·rename_i ws dx hs hd
  obtain ⟨ds, e1, e2⟩ := Option.map_eq_some_iff.mp e
  obtain ⟨a, vs, rfl, hq, rs⟩ := seqW_rel hH r2 hs
  cases ry
  obtain ⟨⟨as, k1⟩, c1, l1⟩ := dat_reads I hH 40 r1 rx hd
  have fin : ∀ {its : List Value}, Vals vs its -> (∀ z, z ∈ its.toArray -> SeqAt.EqAt X.A.in1 s z v (ansOf s dx z)) /\ its.toArray.any (ansOf s dx) = b := fun {its} rv => by
   obtain ⟨q1, q2⟩ := ans_all I hH (dx := dx) rs rv e1
   refine ⟨fun z hz => ?_, by rw [show its.toArray.any (ansOf s dx) = its.any (ansOf s dx) by simp, q1, e2]⟩
   obtain ⟨d, hd⟩ := q2 z (by simpa using hz)
   rw [ansOf_eq hd]
   obtain ⟨⟨bs, k2⟩, c2, l2⟩ := hd
   intro prog w E Q hQ
   exact SeqAt.eqBoolOverData prog w _ E s z v d dx bs as Q k2 k1 c2 c1 (by show X.A.units + 1 + _ < _; omega) hQ
  rcases hq with hq | hq
  ·obtain ⟨its, rv, pl, _⟩ := I.list hq
   obtain ⟨f1, f2⟩ := fin rv
   exact ⟨a, its, _, rfl, .inl pl.isList, f1, f2⟩
  ·obtain ⟨its, rv, pl, _⟩ := I.tuple hq
   obtain ⟨f1, f2⟩ := fin rv
   exact ⟨a, its, _, rfl, .inr pl, f1, f2⟩
 ·cases e
end
theorem op_inW {X : Cx} (hu : X.A.units + 64 < cLine) : OpR X (compareOp .In) (rInD X.K fun b => b) := by
 intro pins s σ H x y v u Q I rx ry h
 obtain ⟨φ, ph, wx, wy, b, hH, r1, r2, e, q⟩ := h
 obtain ⟨a, its, f, rfl, hq, hf, hb⟩ := in_core I hH hu r1 r2 rx ry e
 subst hb
 rcases hq with hq | hq
 ·exact SeqAt.in_listAt f hq hf ⟨.bl _, H, I, rfl, q⟩
 ·exact SeqAt.in_tupleAt f hq hf ⟨.bl _, H, I, rfl, q⟩
theorem op_ninW {X : Cx} (hu : X.A.units + 64 < cLine) : OpR X (compareOp .NotIn) (rInD X.K fun b => !b) := by
 intro pins s σ H x y v u Q I rx ry h
 obtain ⟨φ, ph, wx, wy, b, hH, r1, r2, e, q⟩ := h
 obtain ⟨a, its, f, rfl, hq, hf, hb⟩ := in_core I hH hu r1 r2 rx ry e
 subst hb
 rcases hq with hq | hq
 ·exact SeqAt.notIn_listAt f hq hf ⟨.bl _, H, I, rfl, q⟩
 ·exact SeqAt.notIn_tupleAt f hq hf ⟨.bl _, H, I, rfl, q⟩
theorem inW_i {K : PySem.W.Frag} : OpI K (rInD K fun b => b) inW := by
 intro φ ph H x y vx vy w ph' Q hH rx ry e k
 obtain ⟨b, e1, e2⟩ := Option.map_eq_some_iff.mp e
 cases e2
 exact ⟨φ, ph, x, y, b, hH, rx, ry, e1, k φ H _ hH Step.refl (.bl _)⟩
theorem ninW_i {K : PySem.W.Frag} : OpI K (rInD K fun b => !b) ninW := by
 intro φ ph H x y vx vy w ph' Q hH rx ry e k
 obtain ⟨b, e1, e2⟩ := Option.map_eq_some_iff.mp e
 cases e2
 exact ⟨φ, ph, x, y, b, hH, rx, ry, e1, k φ H _ hH Step.refl (.bl _)⟩
def closBody (env : Env) (x : Str × NameKind) (s : List (Str × Addr)) : Sem (ForInStep (List (Str × Addr))) :=
 if (x.2 == NameKind.free) = true then do
  let a <- cellOf env x.1
  pure (ForInStep.yield ((x.1, a) :: s))
 else pure (ForInStep.yield s)
theorem clos_aux (env : Env) : ∀ (names : List (Str × NameKind)) (acc : List (Str × Addr)), (∀ y ∈ names, y.2 = .free -> ∃ c, env.cells.lookup y.1 = some c) →
    ∃ cl, (forIn names acc (closBody env) : Sem (List (Str × Addr))) = pure cl /\ (∀ x c, cl.lookup x = some c -> acc.lookup x = some c \/ (env.cells.lookup x = some c /\ (x, NameKind.free) ∈ names)) /\
      (∀ x, ((∃ c, acc.lookup x = some c) \/ (x, NameKind.free) ∈ names) -> ∃ c, cl.lookup x = some c)
  | [], acc, _ => ⟨acc, rfl, fun x c h => .inl h, fun x h => h.elim id fun z => nomatch z⟩
  | (n, k) :: r, acc, h => by
    by_cases hk : k = .free
    · subst hk
      obtain ⟨c, hc⟩ := h (n, .free) List.mem_cons_self rfl
      obtain ⟨cl, e, h1, h2⟩ := clos_aux env r ((n, c) :: acc) fun y hy => h y (List.mem_cons_of_mem _ hy)
      refine ⟨cl, ?_, fun x c' hx => ?_, fun x hx => h2 x ?_⟩
      · rw [List.forIn_cons]
        have eb : closBody env (n, .free) acc = pure (ForInStep.yield ((n, c) :: acc)) := by
          unfold closBody
          rw [if_pos (by rfl)]
          unfold cellOf
          rw [hc]
          rfl
        rw [eb]
        exact e
      · rcases h1 x c' hx with z | z
        · rw [List.lookup_cons] at z
          cases q : x == n with
          | true =>
            rw [q] at z
            cases z
            have : x = n := eq_of_beq q
            subst this
            exact .inr ⟨hc, List.mem_cons_self⟩
          | false => rw [q] at z; exact .inl z
        · exact .inr ⟨z.1, List.mem_cons_of_mem _ z.2⟩
      · rcases hx with ⟨c', hx⟩ | hx
        · rw [List.lookup_cons]
          cases q : x == n with
          | true => exact .inl ⟨c, rfl⟩
          | false => exact .inl ⟨c', hx⟩
        · rcases List.mem_cons.mp hx with z | z
          · cases z
            exact .inl ⟨c, by rw [List.lookup_cons]; simp⟩
          · exact .inr z
    · obtain ⟨cl, e, h1, h2⟩ := clos_aux env r acc fun y hy => h y (List.mem_cons_of_mem _ hy)
      refine ⟨cl, ?_, fun x c' hx => ?_, fun x hx => h2 x ?_⟩
      · rw [List.forIn_cons]
        have eb : closBody env (n, k) acc = pure (ForInStep.yield acc) := by
          unfold closBody
          rw [if_neg (by simpa using hk)]
        rw [eb]
        exact e
      · rcases h1 x c' hx with z | z
        · exact .inl z
        · exact .inr ⟨z.1, List.mem_cons_of_mem _ z.2⟩
      · rcases hx with hx | hx
        · exact .inl hx
        · rcases List.mem_cons.mp hx with z | z
          · cases z; exact absurd rfl hk
          · exact .inr z
theorem clos_ok {scope : Scope} {env : Env} (h : ∀ y ∈ scope.names, y.2 = .free -> ∃ c, env.cells.lookup y.1 = some c) :
  ∃ cl, closureFor scope env = pure cl /\ (∀ x c, cl.lookup x = some c -> env.cells.lookup x = some c /\ (x, NameKind.free) ∈ scope.names) /\ (∀ x, (x, NameKind.free) ∈ scope.names -> ∃ c, cl.lookup x = some c) := by
 obtain ⟨cl, e, h1, h2⟩ := clos_aux env scope.names [] h
 refine ⟨cl, ?_, fun x c hx => ?_, fun x hx => h2 x (.inr hx)⟩
 ·unfold closureFor
  show (forIn scope.names [] (closBody env) >>= fun s => pure s) = pure cl
  rw [e]
  rfl
 ·rcases h1 x c hx with z | z
  ·cases z
  ·exact z
def blk (X : Cx) (N : List Str) (scope : Scope) (cl : List (Str × Addr)) (C : Addr) (s₀ : Shared) (H₀ : Hp) (ex : List Addr) : Cx :=
 { X with N := N, s₀ := s₀, H₀ := H₀, env := compEnvC scope cl C X.env, outer := X.stack, stack := X.stack, ex := ex, fn := fun _ => false, pn := [], xe := fun _ _ => False }
def capV (cap : List (Option Nat)) (σ : L2.St) : L2.St := cap.map fun o => o.bind fun i => (σ[i]?).join
def tComp (wi : TI) (cap : List (Option Nat)) (g : TG) (tc : TT) (te : TE) : TE := fun σ H Q => wi σ H fun J H1 => ∀ D, H1 D = none -> ∃ W : Nat -> Nat -> L2.St -> Hp -> Prop, (∃ m, W 0 m (capV cap σ) (upd H1 D (.lst []))) /\
 ∀ i m σ2 H2, W i m σ2 H2 -> (J.stop i H2 /\ Q (.ref D) H2) \/ (J.go i H2 /\ ∀ x H3, J.yld i H2 x H3 -> g x σ2 H3 fun σ4 H4 => tc σ4 H4 fun b H5 =>
  if b = true then te σ4 H5 fun v H6 => ∃ xs, H6 D = some (.lst xs) /\ xs.length < sizeLine /\ ∃ m', m' < m /\ W (i + 1) m' σ4 (upd H6 D (.lst (xs ++ [v]))) else ∃ m', m' < m /\ W (i + 1) m' σ4 H5)
def PF (X : Cx) (ifs : List Expr) (t : TT) : Prop :=
 ∀ (pins : List (Addr × Obj)) (s : Shared) (σ : L2.St) (H : Hp) (Q : Bool -> Hp -> Prop), Inv X pins σ H s -> t σ H Q →
  wpAny (model X.prog X.w) X.A (forIn ifs true fun c r => if r = true then do let ok <- isTrue c X.env (eval c X.env); pure (ForInStep.yield ok) else pure (ForInStep.yield r)) (TP X pins σ Q) X.xe s
theorem pf_nil {X : Cx} : PF X [] (fun _ H Q => Q true H) := fun pins s σ H Q I h => wpAny_tests_nil ⟨H, I, h⟩
theorem lookup_relabel_free {env : Env} {x : Str} : ∀ {names : List (Str × NameKind)}, names.lookup x = some .free →
    (names.map fun (n, k) => if (k == NameKind.free && env.scope.kind == .function && env.kindOf n == some .cell) then (n, NameKind.cell) else (n, k)).lookup x = some .cell \/
    (names.map fun (n, k) => if (k == NameKind.free && env.scope.kind == .function && env.kindOf n == some .cell) then (n, NameKind.cell) else (n, k)).lookup x = some .free
  | [], h => by cases h
  | (n, k) :: r, h => by
    rw [List.map_cons]
    cases q : x == n with
    | true =>
      rw [List.lookup_cons, q] at h
      cases h
      by_cases hc : (NameKind.free == NameKind.free && env.scope.kind == .function && env.kindOf n == some .cell) = true
      · left
        show List.lookup x ((if (NameKind.free == NameKind.free && env.scope.kind == .function && env.kindOf n == some .cell) = true then (n, NameKind.cell) else (n, NameKind.free)) :: _) = _
        rw [if_pos hc, List.lookup_cons, q]
      · right
        show List.lookup x ((if (NameKind.free == NameKind.free && env.scope.kind == .function && env.kindOf n == some .cell) = true then (n, NameKind.cell) else (n, NameKind.free)) :: _) = _
        rw [if_neg hc, List.lookup_cons, q]
    | false =>
      rw [List.lookup_cons, q] at h
      have ih := lookup_relabel_free (env := env) h
      show List.lookup x ((if (k == NameKind.free && env.scope.kind == .function && env.kindOf n == some .cell) = true then (n, NameKind.cell) else (n, k)) :: _) = _ \/ List.lookup x ((if (k == NameKind.free && env.scope.kind == .function && env.kindOf n == some .cell) = true then (n, NameKind.cell) else (n, k)) :: _) = _
      by_cases hc : (k == NameKind.free && env.scope.kind == .function && env.kindOf n == some .cell) = true
      · rw [if_pos hc, List.lookup_cons, q]; exact ih
      · rw [if_neg hc, List.lookup_cons, q]; exact ih
theorem relabel_back {env : Env} {x : Str} {k' : NameKind} (hk' : k' = .cell \/ k' = .free) : ∀ {names : List (Str × NameKind)}, (∀ y ∈ names, y.2 ≠ .cell) →
    (names.map fun (n, k) => if (k == NameKind.free && env.scope.kind == .function && env.kindOf n == some .cell) then (n, NameKind.cell) else (n, k)).lookup x = some k' -> names.lookup x = some .free
  | [], _, h => by cases h
  | (n, k) :: r, hc, h => by
    have h' : List.lookup x ((if (k == NameKind.free && env.scope.kind == .function && env.kindOf n == some .cell) = true then (n, NameKind.cell) else (n, k)) :: r.map _) = some k' := h
    rw [List.lookup_cons]
    cases q : x == n with
    | true =>
      by_cases hb : (k == NameKind.free && env.scope.kind == .function && env.kindOf n == some .cell) = true
      · simp only [Bool.and_eq_true] at hb
        have : k = .free := by simpa using hb.1.1
        rw [this]
      · rw [if_neg hb, List.lookup_cons, q] at h'
        cases h'
        rcases hk' with z | z
        · exact absurd z (hc (n, k') List.mem_cons_self)
        · rw [z]
    | false =>
      refine relabel_back (env := env) hk' (names := r) (fun y hy => hc y (List.mem_cons_of_mem _ hy)) ?_
      by_cases hb : (k == NameKind.free && env.scope.kind == .function && env.kindOf n == some .cell) = true
      · rw [if_pos hb, List.lookup_cons, q] at h'; exact h'
      · rw [if_neg hb, List.lookup_cons, q] at h'; exact h'
theorem mem_lookup {x : Str} {k : NameKind} : ∀ {names : List (Str × NameKind)}, names.lookup x = some k -> (x, k) ∈ names
 | [], h => by cases h
 | (n, j) :: r, h => by
  rw [List.lookup_cons] at h
  cases q : x == n with
  | true => rw [q] at h; cases h; rw [eq_of_beq q]; exact List.mem_cons_self
  | false => rw [q] at h; exact List.mem_cons_of_mem _ (mem_lookup h)
structure Cap (X : Cx) (N : List Str) (cap : List (Option Nat)) (scope : Scope) : Prop where
 len : cap.length = N.length
 at_ : ∀ (i j : Nat) (x : Str), N[i]? = some x -> cap[i]? = some (some j) -> X.N[j]? = some x /\ scope.names.lookup x = some .free /\ (X.env.kindOf x = some .cell \/ X.env.kindOf x = some .free)
 free : ∀ y ∈ scope.names, y.2 = .free -> X.env.kindOf y.1 = some .cell \/ X.env.kindOf y.1 = some .free
 cell : ∀ y ∈ scope.names, y.2 ≠ .cell
 kind : scope.kind = .function
 loc : ∀ y ∈ scope.names, y.2 = .local -> scope.names.lookup y.1 = some .local
section
variable {X : Cx} {pins : List (Addr × Obj)} {σ : L2.St} {H : Hp} {s : Shared} {N : List Str} {cap : List (Option Nat)} {scope : Scope} {cl : List (Str × Addr)} {fp : List Addr}
theorem blk_inv (I : Inv X pins σ H s) (c : Cap X N cap scope) (hcl : ∀ x c, cl.lookup x = some c -> X.env.cells.lookup x = some c /\ (x, NameKind.free) ∈ scope.names) (hcl2 : ∀ x, (x, NameKind.free) ∈ scope.names -> ∃ c, cl.lookup x = some c)
    (hf : ∀ b ∈ fp, b < s.heap.objs.size /\ b ≠ X.env.locals /\ b ∉ X.fs /\ (b ∈ X.ex \/ X.s₀.heap.objs.size <= b) /\ (∀ x c, X.env.cells.lookup x = some c -> c ≠ b)) {h₁ : Heap} {m : Str -> Option Value} {tk : Nat}
    (hns : h₁.Ns s.heap.objs.size m) (hk : ∀ b o, s.heap.get? b = some o -> h₁.get? b = some o) : Inv (blk X N scope cl s.heap.objs.size s H fp) [] (capV cap σ) H { s with heap := h₁, toks := tk } := by
  have memF : ∀ {x : Str}, ((blk X N scope cl s.heap.objs.size s H fp).env.kindOf x = some .cell \/ (blk X N scope cl s.heap.objs.size s H fp).env.kindOf x = some .free) -> scope.names.lookup x = some .free := fun {x} hx => by
    rcases hx with hx | hx
    · exact relabel_back (env := X.env) (.inl rfl) c.cell hx
    · exact relabel_back (env := X.env) (.inr rfl) c.cell hx
  have ok : (blk X N scope cl s.heap.objs.size s H fp).Ok :=
    { mod := I.ok.mod
      kind := c.kind
      glob := I.ok.glob
      blt := I.ok.blt
      above := Nat.le_refl _
      inj := fun x y d h1 h2 => I.ok.inj x y d (hcl x d h1).1 (hcl y d h2).1
      has := fun x hx => hcl2 x (mem_lookup (memF hx))
      cab := fun x d hz => nomatch hz
      hd := I.ok.hd
      frames := I.ok.frames
      stk := .inl rfl
      exf := fun b hb => ⟨Nat.ne_of_lt (hf b hb).1, fun x d hd => (hf b hb).2.2.2.2 x d (hcl x d hd).1⟩
      bs := I.bs
      bsz := Nat.le_trans I.ok.bsz I.sz
      noex := fun b o e hb => by
        rcases (hf b hb).2.2.2.1 with z | z
        · exact I.ok.noex b o e z
        · exact absurd (Nat.lt_of_lt_of_le (Heap.lt_size (I.ok.bs b o e).1) z) (Nat.lt_irrefl _)
      exfs := fun b hb hz => by
        rcases List.mem_cons.mp (I.stkSub b hz) with e | e
        · exact (hf b hb).2.1 e
        · exact (hf b hb).2.2.1 e
      funs := I.stack
      frf := I.stkFree }
  refine ⟨ok, rfl, I.bare, Un.kept hk, ⟨m, hns, fun i x v e1 e2 _ => ?_⟩, fun x d e => ?_, I.hok.fresh (Nat.le_refl _), fun x d e => ⟨(fun z => nomatch z), (I.freeC x d (hcl x d e).1).2⟩, (fun p hp => nomatch hp), I.hok.kept hk, ?_⟩
  · unfold capV at e2
    rw [List.getElem?_map] at e2
    cases q : cap[i]? with
    | none => rw [q] at e2; cases e2
    | some o =>
      rw [q] at e2
      cases o with
      | none => cases e2
      | some j =>
        have e3 : (σ[j]?).join = some v := Option.some.inj e2
        have e4 : σ[j]? = some (some v) := by
          cases z : σ[j]? with
          | none => rw [z] at e3; cases e3
          | some w => rw [z] at e3; exact congrArg some e3
        obtain ⟨h1, h2, h3⟩ := c.at_ i j x e1 q
        obtain ⟨m0, _, hl⟩ := I.loc
        obtain ⟨u, ru, lk⟩ := hl j x v h1 e4 (.inr h3)
        refine ⟨u, ru, ?_⟩
        rcases lk with ⟨z, _⟩ | ⟨_, d, hd, hcell⟩
        · rcases h3 with z' | z' <;> (rw [z] at z'; cases z')
        · obtain ⟨d', hd'⟩ := hcl2 x (mem_lookup h2)
          have e5 := (hcl x d' hd').1
          rw [hd] at e5
          cases e5
          obtain ⟨ob, ho, hdta⟩ := hcell
          exact .inr ⟨lookup_relabel_free (env := X.env) h2, d, hd', ob, hk _ _ ho, hdta⟩
  · obtain ⟨v, ob, ho, hdta⟩ := I.cell x d (hcl x d e).1
    exact ⟨v, ob, hk _ _ ho, hdta⟩
  · show (capV cap σ).length = N.length
    unfold capV
    rw [List.length_map]
    exact c.len
theorem Un.but {fs ex : List Addr} {H H' : Hp} {h h1 h2 : Heap} {C : Addr} (u : Un fs ex H H' h h1) (sb : ∀ b, b ≠ C -> h2.get? b = h1.get? b) (hC : h.get? C = none) : Un fs ex H H' h h2 := by
 have ne : ∀ b o, h.get? b = some o -> b ≠ C := fun b o e z => by rw [z, hC] at e; cases e
 exact ⟨fun b o e n h1 h2 => (sb b (ne b o e)).trans (u.keep b o e n h1 h2), fun b o e n h1 h2 => by
  obtain ⟨sl, q⟩ := u.slot b o e n h1 h2
  exact ⟨sl, (sb b (ne b o e)).trans q⟩, u.free, fun b o e h1 => by
  obtain ⟨o', q⟩ := u.there b o e h1
  exact ⟨o', (sb b (ne b o e)).trans q⟩, u.tups, u.frzs, u.tbls⟩
theorem blk_out {σ' : L2.St} {H' : Hp} {s' : Shared} {h' : Heap} (I : Inv X pins σ H s) (J : Inv (blk X N scope cl s.heap.objs.size s H fp) [] σ' H' s') (sb : Heap.SameBut s.heap.objs.size s'.heap h')
  (hf : ∀ b ∈ fp, FpOk X pins H b) : Inv X pins σ H' { s' with heap := h' } := by
 have hC : H' s.heap.objs.size = none := J.free
 refine I.call' (ch := fp) J.os (Un.but J.base sb.2 (Heap.get?_none_of_le (Nat.le_refl _))) (fun a o e => ?_) J.bare fun b hb => ⟨(hf b hb).2.2.2.1, (hf b hb).2.1, (hf b hb).2.2.2.2.1, (hf b hb).2.2.2.2.2⟩
 refine (J.hok a o e).stay (fun b u hb q => (sb.2 b ?_).trans q) (fun _ q => q) fun _ _ q => q
 rintro rfl
 rcases hb with z | z
 ·rw [<- z, hC] at e; cases e
 ·rw [hC] at z; cases z
end
section
variable {prog : Program} {w : World} {A : Around} {R : Result -> Shared -> Prop} {s : Shared}
theorem comp_loop {elt target iter : Expr} {ifs : List Expr} {scope : Scope} {pos : Pos} {it acc : Value} {env : Env} (J : Nat -> Shared -> Prop)
  (turn : ∀ k s, J k s -> wpAny (model prog w) A (pyNext it) (fun r s1 => match r with
   | none => R (.ok .next) s1
   | some v => wpAny (model prog w) A (letOwnedTupleGo target it v) (fun _ s2 => wpAny (model prog w) A (assign target env v) (fun _ s3 =>
     wpAny (model prog w) A (forIn ifs true fun c r => if r = true then do let ok <- isTrue c env (eval c env); pure (ForInStep.yield ok) else pure (ForInStep.yield r)) (fun ok s4 =>
      if ok = true then wpAny (model prog w) A (eval elt env) (fun x s5 => wpAny (model prog w) A (call (.builtin "list.append") [acc, x]) (fun _ s6 => ∃ j, j < k /\ J j s6) (fun _ _ => False) s5) (fun _ _ => False) s4
      else ∃ j, j < k /\ J j s4) (fun _ _ => False) s3) (fun _ _ => False) s2) (fun _ _ => False) s1) (fun _ _ => False) s)
  (k : Nat) (h : J k s) : codeAny (model prog w) A (.compLoop (.ListComp elt [⟨target, iter, ifs, 0⟩] scope pos) 0 it acc env) R s := by
 have no : ∀ {E : Value -> Shared -> Prop} (e : Value) (s : Shared), False -> E e s := fun _ _ z => z.elim
 refine codeAny_loop (c := .compLoop (.ListComp elt [⟨target, iter, ifs, 0⟩] scope pos) 0 it acc env) rfl J (fun k s hJ => ?_) k h
 show wpAny (model prog w) A ((compTurn (.ListComp elt [⟨target, iter, ifs, 0⟩] scope pos) 0 it acc env).onRaise fun x => do noteFrame x env; theTreesLotGoes x) _ _ s
 refine wpAny_noted ?_
 rw [compTurn_list]
 refine wpAny_bind (wpAny_standAt (wpAny_bind (wpAny_mono (turn k s hJ) (fun r s1 h1 => ?_) no)))
 cases r with
 | none => exact wpAny_pure h1
 | some v =>
  refine wpAny_bind (wpAny_mono h1 (fun _ s2 h2 => wpAny_bind (wpAny_mono h2 (fun _ s3 h3 => wpAny_bind (wpAny_mono h3 (fun ok s4 h4 => ?_) no)) no)) no)
  cases ok with
  | false => exact wpAny_pure ⟨rfl, h4⟩
  | true => exact wpAny_bind (wpAny_bind (wpAny_mono h4 (fun x s5 h5 => wpAny_bind (wpAny_mono h5 (fun _ s6 h6 => wpAny_pure (wpAny_pure ⟨rfl, h6⟩)) no)) no))
end
section
variable {X : Cx} {tg iter elt : Expr} {ifs : List Expr} {scope : Scope} {pos : Pos} {N : List Str} {cap : List (Option Nat)} {wi : TI} {g : TG} {tc : TT} {te : TE}
theorem comp_core {use : Option (Value -> Sem Unit)} {Q' : Value -> Shared -> Prop} {pins : List (Addr × Obj)} {s : Shared} {σ : L2.St} {H : Hp} {Q : VK} {p0 : Pos} (hc : X.calm = true) (c : Cap X N cap scope) (hi : PI X tg iter wi) (hg : ∀ cl C s₀ H₀ ex, PG (blk X N scope cl C s₀ H₀ ex) tg g) (ht : ∀ cl C s₀ H₀ ex, PF (blk X N scope cl C s₀ H₀ ex) ifs tc)
  (he : ∀ cl C s₀ H₀ ex, PE (blk X N scope cl C s₀ H₀ ex) elt te) (hs : ∀ x, foldedSetIterable iter X.env x = pure x) (I : Inv X pins σ H s) (h : tComp wi cap g tc te σ H Q)
  (fin : ∀ (s3 s6 : Shared) (H3 H6 : Hp) (fp : List Addr) (σ6 : L2.St) (cl : List (Str × Addr)) (D : Addr), Inv X pins σ H3 s3 -> (∀ b ∈ fp, FpOk X pins H3 b) -> Inv (blk X N scope cl s3.heap.objs.size s3 H3 fp) [] σ6 H6 s6 -> Q (.ref D) H6 →
   compPost (model X.prog X.w) X.A X.xe use Q' (.ref D) s3.heap.objs.size (.ok .next) s6) :
  wpAny (model X.prog X.w) X.A (comprehension (.ListComp elt [⟨tg, iter, ifs, 0⟩] scope pos) scope X.env p0 (newList []) false (eval iter X.env) use) Q' X.xe s := by
 obtain ⟨cl, hclos, hcl, hcl2⟩ := clos_ok (scope := scope) (env := X.env) fun y hy hf => I.ok.has y.1 (c.free y hy hf)
 refine wpAny_comprehension_free (use := use) rfl hs hclos c.kind c.loc (wpAny_mono (hi pins s σ H _ I h) (fun v s1 h1 => wpAny_mono h1 (fun itv s2 h2 => ?_) fun _ _ z => z) fun _ _ z => z)
 obtain ⟨it, fp, tn, J, H2, rfl, I2, T, st2, f2, h2⟩ := h2
 refine wpAny_newObj_type (wpAny_newFunctionEnv c.cell (by intro y hy; simp at hy) (fun h₁ hns hsb => ?_) c.kind)
 have hD : H2 s2.heap.objs.size = none := I2.fresh
 obtain ⟨W, ⟨m0, w0⟩, turn⟩ := h2 s2.heap.objs.size hD
 have I3 := I2.lnew (its := []) (ys := []) (t' := s2.toks) .nil (Nat.zero_le _)
 have fp3 : ∀ b ∈ fp, FpOk X pins (upd H2 s2.heap.objs.size (.lst [])) b := fun b hb => by
  obtain ⟨a1, a2⟩ := f2 b hb
  refine ⟨?_, a2⟩
  obtain ⟨o, ho, _⟩ := T.obj 0 _ st2 b hb
  rw [upd_ne (Nat.ne_of_lt (Heap.lt_size ho))]
  exact a1
 have lt3 : ∀ b ∈ fp, b < s2.heap.objs.size := fun b hb => by
  obtain ⟨o, ho, _⟩ := T.obj 0 _ st2 b hb
  exact Heap.lt_size ho
 revert hns hsb
 generalize hs3 : ({ s2 with heap := s2.heap.push { cls := .type "list", data := .seq ([] : List Value).toArray }, toks := s2.toks } : Shared) = s3 at I3
 intro hns hsb
 have e3h : s3.heap = s2.heap.push { cls := .type "list", data := .seq ([] : List Value).toArray } := by rw [<- hs3]
 have e3 : s3.heap.objs.size = s2.heap.objs.size + 1 := by rw [e3h, Heap.size_push]
 have k23 : ∀ b o, s2.heap.get? b = some o -> s3.heap.get? b = some o := fun b o e => by rw [e3h]; exact Heap.get?_push_of_some _ e
 have k34 : ∀ b o, s3.heap.get? b = some o -> h₁.get? b = some o := fun b o e => hsb.extBut b o (Nat.ne_of_lt (Heap.lt_size e)) (Heap.get?_push_of_some _ e)
 have hnsC : h₁.Ns s3.heap.objs.size (fun x => ([] : List (Str × Value)).reverse.lookup x) := hns
 have I4 := blk_inv (fp := fp) (tk := s3.toks + ([] : List (Str × Value)).length) I3 c hcl hcl2 (fun b hb => ⟨by rw [e3]; exact Nat.lt_succ_of_lt (lt3 b hb), (fp3 b hb).2.1, (fp3 b hb).2.2.1, (fp3 b hb).2.2.2.1, (fp3 b hb).2.2.2.2.1⟩) hnsC k34
 have loop : ∀ s4 : Shared, s4 = { s3 with heap := h₁, toks := s3.toks + ([] : List (Str × Value)).length } →
   codeAny (model X.prog X.w) X.A (.compLoop (.ListComp elt [⟨tg, iter, ifs, 0⟩] scope pos) 0 (.ref it) (.ref s2.heap.objs.size) (compEnvC scope cl s3.heap.objs.size X.env))
    (compPost (model X.prog X.w) X.A X.xe use Q' (.ref s2.heap.objs.size) s3.heap.objs.size) s4 := by
  rintro s4 rfl
  refine comp_loop (fun m s => ∃ i σ2 H2', Inv (blk X N scope cl s3.heap.objs.size s3 (upd H2 s2.heap.objs.size (.lst [])) fp) [] σ2 H2' s /\ tn i s.heap /\ (∀ b ∈ fp, H2' b = none) /\ W i m σ2 H2') ?_ m0
   ⟨0, capV cap σ, _, I4, T.keep _ _ _ st2 fun b hb o e => k34 b o (k23 b o e), fun b hb => (fp3 b hb).1, w0⟩
  rintro k s5 ⟨i, σ5, H5, I5, st5, fr5, w5⟩
  have fok : ∀ {H' : Hp} {ps : List (Addr × Obj)}, (∀ b ∈ fp, H' b = none) -> (∀ p ∈ ps, ∀ b ∈ fp, p.1 ≠ b) -> ∀ b ∈ fp, FpOk (blk X N scope cl s3.heap.objs.size s3 (upd H2 s2.heap.objs.size (.lst [])) fp) ps H' b := fun {H' ps} hn hp b hb =>
   ⟨hn b hb, (fun z => by have q := lt3 b hb; have z' : b = s3.heap.objs.size := z; rw [z', e3] at q; exact absurd q (Nat.not_lt.mpr (Nat.le_succ _))), I5.ok.exfs b hb, .inl hb, fun x d hd => (fp3 b hb).2.2.2.2.1 x d (hcl x d hd).1, fun p hp' => hp p (by simpa [blk] using hp') b hb⟩
  rcases turn i k σ5 H5 w5 with ⟨stop, qn⟩ | ⟨go, step⟩
  ·refine wpAny_mono (T.done (blk X N scope cl s3.heap.objs.size s3 (upd H2 s2.heap.objs.size (.lst [])) fp) rfl rfl rfl hc i [] s5 σ5 H5 _ I5 (fok fr5 (fun _ z => nomatch z)) st5 stop) (fun r s6 hr => ?_) fun _ _ z => z
   obtain ⟨rfl, I6⟩ := hr
   exact fin s3 s6 _ H5 fp σ5 cl _ I3 fp3 I6 qn
  ·refine wpAny_mono (T.item (blk X N scope cl s3.heap.objs.size s3 (upd H2 s2.heap.objs.size (.lst [])) fp) rfl rfl rfl hc i [] s5 σ5 H5 _ I5 (fok fr5 (fun _ z => nomatch z)) st5 go) (fun r s6 hr => ?_) fun _ _ z => z
   obtain ⟨u, rfl, h6⟩ := hr
   refine wpAny_mono h6 (fun _ s7 ⟨x, H7, I7, rx, y7, st7, fr7⟩ => ?_) fun _ _ z => z
   have I7' := I7.pinned (fok fr7 (fun _ z => nomatch z)) (T.obj _ _ st7)
   have back : ∀ {σ8 : L2.St} {H8 : Hp} {s8 : Shared}, Inv (blk X N scope cl s3.heap.objs.size s3 (upd H2 s2.heap.objs.size (.lst [])) fp) ([] ++ pinsAt fp s7.heap) σ8 H8 s8 →
     Inv (blk X N scope cl s3.heap.objs.size s3 (upd H2 s2.heap.objs.size (.lst [])) fp) [] σ8 H8 s8 /\ tn (i + 1) s8.heap /\ ∀ b ∈ fp, H8 b = none := fun {σ8 H8 s8} I8 => by
    refine ⟨I8.unpinned, T.keep _ _ _ st7 fun b hb o e => (I8.pin (b, o) (List.mem_append_right _ (List.mem_append_right _ (mem_pinsAt hb e)))).1, fun b hb => ?_⟩
    obtain ⟨o, e, d⟩ := T.obj _ _ st7 b hb
    exact (I8.pin (b, o) (List.mem_append_right _ (List.mem_append_right _ (mem_pinsAt hb e)))).2.1
   refine thn (hg cl _ _ _ fp _ s7 σ5 H7 x u _ I7' rx (step x H7 y7)) fun _ s8 ⟨σ8, H8, I8, q8⟩ => ?_
   refine thn (ht cl _ _ _ fp _ s8 σ8 H8 _ I8 q8) fun ok s9 ⟨H9, I9, q9⟩ => ?_
   cases ok with
   | false =>
    obtain ⟨m', hm, w9⟩ := q9
    obtain ⟨a1, a2, a3⟩ := back I9
    exact ⟨m', hm, i + 1, σ8, H9, a1, a2, a3, w9⟩
   | true =>
    refine thn (he cl _ _ _ fp _ s9 σ8 H9 _ I9 q9) fun y s10 ⟨v10, H10, I10, r10, xs, hx, hz, m', hm, w10⟩ => ?_
    refine thn (mt_append (X := blk X N scope cl s3.heap.objs.size s3 (upd H2 s2.heap.objs.size (.lst [])) fp) _ s10 σ8 H10 (.ref s2.heap.objs.size) [v10] (.ref s2.heap.objs.size) [y] (fun _ H' => W (i + 1) m' σ8 H') I10 rfl (.cons r10 .nil) ⟨_, xs, _, rfl, rfl, hx, hz, w10⟩) fun _ s11 ⟨_, H11, I11, _, w11⟩ => ?_
    obtain ⟨a1, a2, a3⟩ := back I11
    exact ⟨m', hm, i + 1, σ8, H11, a1, a2, a3, w11⟩
 exact codeAny_compStart_list (loop _ rfl) (T.self _ 0 _ _ _ (T.keep _ _ _ st2 fun b hb o e => k34 b o (k23 b o e)) (loop _ rfl))
theorem pe_comp (hc : X.calm = true) (c : Cap X N cap scope) (hi : PI X tg iter wi) (hg : ∀ cl C s₀ H₀ ex, PG (blk X N scope cl C s₀ H₀ ex) tg g) (ht : ∀ cl C s₀ H₀ ex, PF (blk X N scope cl C s₀ H₀ ex) ifs tc)
  (he : ∀ cl C s₀ H₀ ex, PE (blk X N scope cl C s₀ H₀ ex) elt te) (hs : ∀ x, foldedSetIterable iter X.env x = pure x := by intro _; rfl) : PE X (.ListComp elt [⟨tg, iter, ifs, 0⟩] scope pos) (tComp wi cap g tc te) := by
 intro pins s σ H Q I h
 rw [eval_ListComp]
 refine comp_core hc c hi hg ht he hs I h fun s3 s6 H3 H6 fp σ6 cl D I3 fp3 I6 q => ?_
 obtain ⟨m6, hn6, _⟩ := I6.loc
 exact ⟨m6, hn6, fun h' sb => ⟨.ref D, H6, blk_out I3 I6 sb fp3, rfl, q⟩⟩
theorem ps_comp {i : Nat} {x : Str} {pos' pos2 : Pos} (hN : X.N.Nodup) (hi' : X.N[i]? = some x) (hx : X.env.scope.names.lookup x = some .local) (hsw : swapsWith (.ListComp elt [⟨tg, iter, ifs, 0⟩] scope pos) (some (.Name x pos')) pos2.line X.env = pure true)
  (hc : X.calm = true) (c : Cap X N cap scope) (hi : PI X tg iter wi) (hg : ∀ cl C s₀ H₀ ex, PG (blk X N scope cl C s₀ H₀ ex) tg g) (ht : ∀ cl C s₀ H₀ ex, PF (blk X N scope cl C s₀ H₀ ex) ifs tc)
  (he : ∀ cl C s₀ H₀ ex, PE (blk X N scope cl C s₀ H₀ ex) elt te) (hs : ∀ x, foldedSetIterable iter X.env x = pure x := by intro _; rfl) :
  PS X (.Assign [.Name x pos'] (.ListComp elt [⟨tg, iter, ifs, 0⟩] scope pos) pos2) (tAsg (tComp wi cap g tc te) (gName i)) := by
 intro pins s σ H D I h
 rw [exec_Assign_Name_used x pos' _ pos2 hsw]
 refine wpAny_bind (wpAny_standAt (wpAny_bind ?_))
 show wpAny (model X.prog X.w) X.A (comprehension (.ListComp elt [⟨tg, iter, ifs, 0⟩] scope pos) scope X.env _ (newList []) false (eval iter X.env) (some (assign (.Name x pos') X.env)) >>= fun _ => pure ()) _ _ s
 refine wpAny_bind (comp_core hc c hi hg ht he hs I h fun s3 s6 H3 H6 fp σ6 cl Dl I3 fp3 I6 q => ?_)
 obtain ⟨m6, hn6, _⟩ := I6.loc
 have hn6' : s6.heap.Ns s3.heap.objs.size m6 := hn6
 have I7 : Inv X pins σ H6 s6 := blk_out (h' := s6.heap) I3 I6 ⟨rfl, fun _ _ => rfl⟩ fp3
 refine wpAny_assign_Name (store_ok2 I7 hN hi' (.inl hx) (v := .ref Dl) rfl (fun s8 I8 h8 => ?_) (.inr hx))
 obtain ⟨a, sb8, ha⟩ := h8
 have fresh : H6 s3.heap.objs.size = none := I6.free
 have neL : s3.heap.objs.size ≠ X.env.locals := Nat.ne_of_gt I3.lt
 have neC : ∀ y d, X.env.cells.lookup y = some d -> d ≠ s3.heap.objs.size := fun y d e => by
  obtain ⟨v, o, ho, _⟩ := I3.cell y d e
  exact Nat.ne_of_lt (Heap.lt_size ho)
 have neP : ∀ p ∈ X.pn ++ pins, p.1 ≠ s3.heap.objs.size := fun p hp => Nat.ne_of_lt (Heap.lt_size (I3.pin p hp).1)
 have neA : s3.heap.objs.size ≠ a := by
  rcases ha with z | z
  ·rw [z]; exact neL
  ·exact Ne.symm (neC x a z)
 refine ⟨m6, hn6'.sameBut sb8 neA, fun h' sb => wpAny_pure (wpAny_pure ⟨_, H6, ?_, q⟩)⟩
 exact I8.turned (t' := s8.toks) (fun b o hb e => (sb.2 b hb).trans e) fresh neL (.inr I3.sz) neC neP
end
def capP (cap : List (Option Nat)) (σ : PSt) : PSt := cap.map fun o => o.bind fun i => (σ[i]?).join
def noEx {α : Type} (m : Mo α) : Mo α := fun ph => match m ph with
 | .ok a ph' => .ok a ph'
 | _ => .no
theorem run_noEx {α : Type} {m : Mo α} {ph : PH} {N : α -> PH -> Prop} {E E' : XC -> PH -> Prop} (h : (noEx m ph).Run N E) : (m ph).Run N E' := by
 unfold noEx at h
 cases e : m ph with
 | ok a ph' => rw [e] at h; exact h
 | ex x ph' => rw [e] at h; exact h.elim
 | no => rw [e] at h; exact h
def compG (chk : PH -> Bool) (g : GM) (c : TM) (e : EM) (L : Nat) : List W -> PSt -> Mo Unit
 | [], _ => fun ph => if chk ph = true then .ok () ph else .no
 | x :: xs, σ => fun ph => if chk ph = true then bnd (noEx (g x σ)) (fun σ1 => bnd (noEx (c σ1)) fun t => if t = true then bnd (noEx (e σ1)) fun w => bnd (lift (appendW (.ref L) [w])) fun _ => compG chk g c e L xs σ1 else compG chk g c e L xs σ1) ph else .no
def eComp (im : IM) (cap : List (Option Nat)) (g : GM) (c : TM) (e : EM) : EM := fun σ => bnd (im σ) fun r ph => bnd (compG r.2 g c e ph.length r.1 (capP cap σ)) (fun _ => pur (.ref ph.length)) (ph ++ [.lst []])
section
variable {K : PySem.W.Frag} {φ : Nat -> Addr} {n : Nat} {H : Hp}
theorem RelS.cap {ws : PSt} {σ : L2.St} (h : RelS K φ n H ws σ) : ∀ (cap : List (Option Nat)), RelS K φ n H (capP cap ws) (capV cap σ)
 | [] => .nil
 | o :: r => by
  have ih := RelS.cap h r
  unfold capP capV at ih ⊢
  rw [List.map_cons, List.map_cons]
  cases o with
  | none => exact .nn ih
  | some i =>
   cases q : ws[i]? with
   | none => simp only [Option.bind_some, q, Option.join_none]; exact .nn ih
   | some o =>
    cases o with
    | none => simp only [Option.bind_some, q, Option.join_some]; exact .nn ih
    | some w =>
     obtain ⟨v, ev, rv⟩ := h.get q
     simp only [Option.bind_some, q, ev, Option.join_some]
     exact .sm rv ih
theorem append_some {L : Nat} {w u : W} {ph ph' : PH} (h : appendW (.ref L) [w] ph = some (u, ph')) : ∃ ws, ph[L]? = some (.lst ws) /\ ws.length < sizeLine /\ ph' = ph.set L (.lst (ws ++ [w])) := by
 unfold appendW at h
 simp only at h
 split at h
 ·rename_i ws hw
  split at h
  ·rename_i hz
   cases h
   exact ⟨ws, hw, hz, rfl⟩
  ·cases h
 ·cases h
end
def tM0 (K : PySem.W.Frag) (m : EM) : TE := fun σ H Q => ∃ φ ph ws, RelH K φ ph H /\ RelS K φ ph.length H ws σ /\ (m ws ph).Run (fun w ph' =>
 ∀ φ' H' v, RelH K φ' ph' H' -> Step K φ ph.length H φ' ph'.length H' -> RelW K φ' ph'.length H' w v -> Q v H') (fun _ _ => False)
def tT0 (K : PySem.W.Frag) (m : TM) : TT := fun σ H Q => ∃ φ ph ws, RelH K φ ph H /\ RelS K φ ph.length H ws σ /\ (m ws ph).Run (fun b ph' =>
 ∀ φ' H', RelH K φ' ph' H' -> Step K φ ph.length H φ' ph'.length H' -> Q b H') (fun _ _ => False)
def tG0 (K : PySem.W.Frag) (g : GM) : TG := fun v σ H Q => ∃ φ ph ws w, RelH K φ ph H /\ RelS K φ ph.length H ws σ /\ RelW K φ ph.length H w v /\ (g w ws ph).Run (fun ws' ph' =>
 ∀ φ' H' σ', RelH K φ' ph' H' -> Step K φ ph.length H φ' ph'.length H' -> RelS K φ' ph'.length H' ws' σ' -> Q σ' H') (fun _ _ => False)
section
variable {X : Cx} {e : Expr}
theorem e0 {m : EM} (h : IE X e m) : PE X e (tM0 X.K m) := PE.imp h fun _ _ _ ⟨φ, ph, ws, a, b, c⟩ => ⟨φ, ph, ws, a, b, c.mono (fun _ _ z => z) fun _ _ z => z.elim⟩
theorem t0 {m : TM} (h : IT X e m) : PT X e (tT0 X.K m) := PT.imp h fun _ _ _ ⟨φ, ph, ws, a, b, c⟩ => ⟨φ, ph, ws, a, b, c.mono (fun _ _ z => z) fun _ _ z => z.elim⟩
theorem g0 {g : GM} (h : IG X e g) : PG X e (tG0 X.K g) := PG.imp h fun _ _ _ _ ⟨φ, ph, ws, w, a, b, r, c⟩ => ⟨φ, ph, ws, w, a, b, r, c.mono (fun _ _ z => z) fun _ _ z => z.elim⟩
end
section
variable {X : Cx} {tg iter elt : Expr} {ifs : List Expr} {scope : Scope} {pos : Pos} {N : List Str} {cap : List (Option Nat)} {im : IM} {g : GM} {c : TM} {e : EM}
theorem comp_tail {σ : L2.St} {Q : VK} {φ1 : Nat -> Addr} {ph1 : PH} {H1 : Hp} {ws : PSt} {J : It} {items : List W} {chk : PH -> Bool} {D : Addr} (hH1 : RelH X.K φ1 ph1 H1) (hS : RelS X.K φ1 ph1.length H1 ws σ) (hJ : ItI X.K J items chk φ1 ph1.length H1) (hD : H1 D = none)
  (h : (compG chk g c e ph1.length items (capP cap ws) (ph1 ++ [.lst []])).Run (fun _ ph' => ∀ φ' H' v, RelH X.K φ' ph' H' -> Step X.K φ1 ph1.length H1 φ' ph'.length H' -> RelW X.K φ' ph'.length H' (.ref ph1.length) v -> Q v H') (fun _ _ => True)) :
  ∃ W : Nat -> Nat -> L2.St -> Hp -> Prop, (∃ m, W 0 m (capV cap σ) (upd H1 D (.lst []))) /\
   ∀ i m σ2 H2, W i m σ2 H2 -> (J.stop i H2 /\ Q (.ref D) H2) \/ (J.go i H2 /\ ∀ x H3, J.yld i H2 x H3 -> tG0 X.K g x σ2 H3 fun σ4 H4 => tT0 X.K c σ4 H4 fun b H5 =>
    if b = true then tM0 X.K e σ4 H5 fun v H6 => ∃ xs, H6 D = some (.lst xs) /\ xs.length < sizeLine /\ ∃ m', m' < m /\ W (i + 1) m' σ4 (upd H6 D (.lst (xs ++ [v]))) else ∃ m', m' < m /\ W (i + 1) m' σ4 H5) := by
 have nl := new_list (ws := []) (vs := []) hH1 .nil hD
 have hl : (ph1 ++ [PO.lst []]).length = ph1.length + 1 := by simp
 rw [hl] at nl
 obtain ⟨hH2, s2, _⟩ := nl
 refine ⟨fun i m σ2 H2 => ∃ φ2 ph2 ws2, m = (items.drop i).length /\ RelH X.K φ2 ph2 H2 /\ RelS X.K φ2 ph2.length H2 ws2 σ2 /\ Step X.K (ext φ1 ph1.length D) (ph1.length + 1) (upd H1 D (.lst [])) φ2 ph2.length H2 /\
   (compG chk g c e ph1.length (items.drop i) ws2 ph2).Run (fun _ ph' => ∀ φ' H' v, RelH X.K φ' ph' H' -> Step X.K φ2 ph2.length H2 φ' ph'.length H' -> RelW X.K φ' ph'.length H' (.ref ph1.length) v -> Q v H') (fun _ _ => True),
  ⟨_, ext φ1 ph1.length D, ph1 ++ [PO.lst []], capP cap ws, rfl, hH2, ?_, by rw [hl]; exact Step.refl, ?_⟩, ?_⟩
 ·rw [hl]
  exact (RelS.cap (hS.mono s2) cap)
 ·exact Out.Run.mono h (fun _ ph' k φ' H' v r' st' rv => k φ' H' v r' (s2.trans (by rw [hl] at st'; exact st')) rv) fun _ _ _ => trivial
 rintro i m σ2 H2 ⟨φ2, ph2, ws2, rfl, hr2, hS2, st2, h4⟩
 have hphi : φ2 ph1.length = D := by rw [st2.eq _ (Nat.lt_succ_self _), ext_eq]
 cases hd : items.drop i with
 | nil =>
  rw [hd] at h4
  unfold compG at h4
  split at h4
  ·rename_i hc
   have hn : items[i]? = none := by
    have : items.length <= i := by simpa using hd
    simpa using this
   refine .inl ⟨(hJ φ2 _ H2 hr2 (s2.trans st2) hc i).2 hn, h4 φ2 H2 _ hr2 Step.refl ?_⟩
   rw [<- hphi]
   exact .ref (Nat.lt_of_lt_of_le (Nat.lt_succ_self _) st2.le)
  ·exact h4.elim
 | cons x xs =>
  rw [hd] at h4
  unfold compG at h4
  split at h4
  ·rename_i hc
   have hx : items[i]? = some x := by
    have := congrArg (fun l => l[0]?) hd
    simpa using this
   have hxs : items.drop (i + 1) = xs := by
    have := congrArg (fun l => l.drop 1) hd
    simpa [List.drop_drop, Nat.add_comm] using this
   obtain ⟨hgo, hy⟩ := (hJ φ2 _ H2 hr2 (s2.trans st2) hc i).1 x hx
   refine .inr ⟨hgo, fun v H3 y => ?_⟩
   obtain ⟨hH3, s3, rv⟩ := hy v H3 y
   rw [run_bnd] at h4
   refine ⟨φ2, ph2, ws2, x, hH3, hS2.mono s3, rv, (run_noEx h4).mono (fun ws5 ph5 h5 φ5 H5 σ5 hH5 s5 hS5 => ?_) fun _ _ z => z⟩
   rw [run_bnd] at h5
   refine ⟨φ5, ph5, ws5, hH5, hS5, (run_noEx h5).mono (fun t ph6 h6 φ6 H6 hH6 s6 => ?_) fun _ _ z => z⟩
   have s26 := (s3.trans s5).trans s6
   have sall := st2.trans s26
   cases t with
   | false =>
    refine iteF ⟨xs.length, by simp, φ6, ph6, ws5, by rw [hxs], hH6, hS5.mono s6, sall, ?_⟩
    rw [hxs]
    exact Out.Run.mono h6 (fun _ ph' k φ' H' v r' st' q => k φ' H' v r' (s26.trans st') q) fun _ _ z => z
   | true =>
    have h6' : (bnd (noEx (e ws5)) (fun w => bnd (lift (appendW (.ref ph1.length) [w])) fun _ => compG chk g c e ph1.length xs ws5) ph6).Run _ _ := h6
    rw [run_bnd] at h6'
    refine iteT ⟨φ6, ph6, ws5, hH6, hS5.mono s6, (run_noEx h6').mono (fun w7 ph7 h7 φ7 H7 v7 hH7 s7 r7 => ?_) fun _ _ z => z⟩
    rw [run_bnd] at h7
    obtain ⟨u8, ph8, e8, h8⟩ := run_lift h7
    obtain ⟨wsL, hL, hz, rfl⟩ := append_some e8
    have s27 := s26.trans s7
    have sall2 := sall.trans s7
    have hphi7 : φ7 ph1.length = D := by rw [sall2.eq _ (Nat.lt_succ_self _), ext_eq]
    obtain ⟨vs, hv, rvs⟩ := hH7.hp _ _ hL
    have hlt : ph1.length < ph7.length := (List.getElem?_eq_some_iff.mp hL).1
    obtain ⟨q1, q2⟩ := put_list hH7 hL (rvs.append (.cons r7 .nil))
    rw [hphi7] at hv q1 q2
    refine ⟨vs, hv, by rw [<- rvs.length]; exact hz, xs.length, by simp, φ7, _, ws5, by rw [hxs], q1, ((hS5.mono s6).mono s7).mono q2, sall2.trans q2, ?_⟩
    rw [hxs]
    exact Out.Run.mono h8 (fun _ ph' k φ' H' v r' st' q => k φ' H' v r' ((s27.trans q2).trans st') q) fun _ _ z => z
  ·exact h4.elim
theorem comp_imp {σ : L2.St} {H : Hp} {Q : VK} (h : tM X (eComp im cap g c e) σ H Q) : tComp (tI X im) cap (tG0 X.K g) (tT0 X.K c) (tM0 X.K e) σ H Q := by
 obtain ⟨φ, ph, ws, hH, hS, h⟩ := h
 unfold eComp at h
 rw [run_bnd] at h
 refine ⟨φ, ph, ws, hH, hS, h.mono (fun r ph1 h φ1 H1 J hH1 s1 hJ D hD => ?_) fun _ _ z => z⟩
 rw [run_bnd] at h
 exact comp_tail hH1 (hS.mono s1) hJ hD (Out.Run.mono h (fun _ ph' k φ' H' v r' st' rv => k φ' H' v r' (s1.trans st') rv) fun _ _ _ => trivial)
theorem PF.imp {t t' : TT} (h : PF X ifs t) (k : ∀ σ H Q, t' σ H Q -> t σ H Q) : PF X ifs t' := fun pins s σ H Q I q => h pins s σ H Q I (k σ H Q q)
def cTrue : TM := fun _ => pur true
theorem if_nil : PF X [] (tT0 X.K cTrue) := PF.imp pf_nil fun σ H Q h => by
 obtain ⟨φ, ph, ws, hH, hS, h⟩ := h
 exact h φ H hH Step.refl
theorem ie_comp (hc : X.calm = true) (cp : Cap X N cap scope) (hi : II X tg iter im) (hg : ∀ cl C s₀ H₀ ex, IG (blk X N scope cl C s₀ H₀ ex) tg g) (ht : ∀ cl C s₀ H₀ ex, PF (blk X N scope cl C s₀ H₀ ex) ifs (tT0 X.K c))
  (he : ∀ cl C s₀ H₀ ex, IE (blk X N scope cl C s₀ H₀ ex) elt e) (hs : ∀ x, foldedSetIterable iter X.env x = pure x := by intro _; rfl) : IE X (.ListComp elt [⟨tg, iter, ifs, 0⟩] scope pos) (eComp im cap g c e) :=
 PE.imp (pe_comp hc cp hi (fun cl C s₀ H₀ ex => g0 (hg cl C s₀ H₀ ex)) ht (fun cl C s₀ H₀ ex => e0 (he cl C s₀ H₀ ex)) hs) fun _ _ _ h => comp_imp h
theorem is_comp {i : Nat} {x : Str} {pos' pos2 : Pos} (hN : X.N.Nodup) (hi' : X.N[i]? = some x) (hx : X.env.scope.names.lookup x = some .local)
  (hc : X.calm = true) (cp : Cap X N cap scope) (hi : II X tg iter im) (hg : ∀ cl C s₀ H₀ ex, IG (blk X N scope cl C s₀ H₀ ex) tg g) (ht : ∀ cl C s₀ H₀ ex, PF (blk X N scope cl C s₀ H₀ ex) ifs (tT0 X.K c))
  (he : ∀ cl C s₀ H₀ ex, IE (blk X N scope cl C s₀ H₀ ex) elt e) (hsw : swapsWith (.ListComp elt [⟨tg, iter, ifs, 0⟩] scope pos) (some (.Name x pos')) pos2.line X.env = pure true := by rfl) (hs : ∀ x, foldedSetIterable iter X.env x = pure x := by intro _; rfl) :
  IS X (.Assign [.Name x pos'] (.ListComp elt [⟨tg, iter, ifs, 0⟩] scope pos) pos2) (sAsg (eComp im cap g c e) (gN i)) :=
 PS.imp (ps_comp hN hi' hx hsw hc cp hi (fun cl C s₀ H₀ ex => g0 (hg cl C s₀ H₀ ex)) ht (fun cl C s₀ H₀ ex => e0 (he cl C s₀ H₀ ex)) hs) fun D σ H h => by
  obtain ⟨φ, ph, ws, hH, hS, h⟩ := h
  unfold sAsg at h
  rw [run_bnd] at h
  exact comp_imp ⟨φ, ph, ws, hH, hS, h.mono (fun w ph1 h φ1 H1 v hH1 s1 r1 => h φ1 H1 hH1 s1 _ ((hS.mono s1).set r1 i)) fun _ _ z => z⟩
end
def gAll : List GM -> List W -> PSt -> Mo PSt
 | [], [], σ => pur σ
 | g :: gs, w :: ws, σ => bnd (g w σ) fun σ' => gAll gs ws σ'
 | _, _, _ => nop
def gT (gs : List GM) : GM := fun w σ => match w with
 | .tup ws => gAll gs ws σ
 | _ => nop
def tGs (X : Cx) (gs : List GM) : TGs := fun vs σ H Q => ∃ φ ph ws xs, RelH X.K φ ph H /\ RelS X.K φ ph.length H ws σ /\ RelWs X.K φ ph.length H xs vs /\ (gAll gs xs ws ph).Run (fun ws' ph' =>
 ∀ φ' H' σ', RelH X.K φ' ph' H' -> Step X.K φ ph.length H φ' ph'.length H' -> RelS X.K φ' ph'.length H' ws' σ' -> Q σ' H') (XE X φ ph.length H)
def gLen (n : Nat) (gs : List GM) : GM := fun w σ => match w with
 | .tup ws => if ws.length = n then gAll gs ws σ else nop
 | _ => nop
section
variable {X : Cx} {tg : Expr} {es : List Expr} {g : GM} {gs : List GM} {pos : Pos}
theorem PGs.imp {t t' : TGs} (h : PGs X es t) (k : ∀ v σ H Q, t' v σ H Q -> t v σ H Q) : PGs X es t' := fun pins s σ H v u Q I r q => h pins s σ H v u Q I r (k v σ H Q q)
theorem igs_nil : PGs X [] (tGs X []) := PGs.imp pgs_nil fun vs σ H Q h => by
 obtain ⟨φ, ph, ws, xs, hH, hS, r, h⟩ := h
 cases r with
 | nil => exact ⟨rfl, h φ H σ hH Step.refl hS⟩
 | cons _ _ => exact h.elim
theorem igs_cons {e : Expr} (h1 : IG X e g) (h2 : PGs X es (tGs X gs)) (hs : (assignEach (e :: es) X.env).map (·.2) = assign e X.env :: (assignEach es X.env).map (·.2) := by rfl) : PGs X (e :: es) (tGs X (g :: gs)) :=
 PGs.imp (pgs_cons h1 h2 hs) fun vs σ H Q h => by
  obtain ⟨φ, ph, ws, xs, hH, hS, r, h⟩ := h
  cases r with
  | nil => exact h.elim
  | cons rw' rr =>
   refine ⟨_, _, rfl, tG.bind hH hS rw' h fun ws1 ph1 φ1 H1 σ1 hH1 s1 hS1 h1 => ?_⟩
   exact ⟨φ1, ph1, ws1, _, hH1, hS1, rr.mono s1, h1.mono (fun ws' ph' k φ' H' σ' r' s' q => k φ' H' σ' r' (s1.trans s') q) fun _ _ z => z⟩
theorem ig_tup {k n : Nat} (hc : X.calm = true) (h : PGs X es (tGs X gs)) (hn : (assignEach es X.env).length = n := by rfl) (hst : (assignEach es X.env).findIdx? (·.1) = none := by rfl) : IG X (.Tuple es k pos) (gLen n gs) :=
 PG.imp (pg_tup hc h hn hst) fun v σ H Q h => by
  obtain ⟨φ, ph, ws, w, hH, hS, r, h⟩ := h
  unfold gLen at h
  cases r with
  | tup hq r =>
   simp only at h
   split at h
   ·rename_i hl
    exact ⟨_, _, rfl, SqT.of hq, by rw [<- r.length]; exact hl, φ, ph, ws, _, hH, hS, r, h⟩
   ·exact h.elim
  | _ => exact h.elim
def setW (o i v : W) : Po Unit := fun ph => match o, i with
 | .ref r, .int k => match ph[r]? with
  | some (.lst ws) => match ixN ws.length k with
   | some j => some ((), ph.set r (.lst (ws.set j v)))
   | none => none
  | _ => none
 | _, _ => none
end
def cutW (ws : List W) (lo hi : Option Int) : List W := (ws.drop (HT.sIx ws.length 0 lo)).take (HT.sIx ws.length ws.length hi - HT.sIx ws.length 0 lo)
theorem cut_rel {K : PySem.W.Frag} {φ : Nat -> Addr} {n : Nat} {H : Hp} {ws : List W} {vs : List V} (r : RelWs K φ n H ws vs) (lo hi : Option Int) : RelWs K φ n H (cutW ws lo hi) (cutV vs lo hi) := by
 unfold cutW cutV
 rw [r.length]
 exact (r.drop _).take _
def slW (w : W) (lo hi : Option Int) : Po W := fun ph => match w with
 | .tup ws => if HT.sIx ws.length 0 lo = 0 /\ HT.sIx ws.length ws.length hi = ws.length then none else some (.tup (cutW ws lo hi), ph)
 | .fl ws => some (.ref ph.length, ph ++ [.lst (cutW ws lo hi)])
 | .ref i => match ph[i]? with
  | some (.lst ws) => some (.ref ph.length, ph ++ [.lst (cutW ws lo hi)])
  | _ => none
 | _ => none
abbrev OM := PSt -> Mo (Option Int)
def oNone : OM := fun _ => pur none
def oSome (m : EM) : OM := fun σ => bnd (m σ) fun w => lift (match w with
 | .int i => ret (some i)
 | _ => nono)
def eSl (m : EM) (lo hi : OM) : EM := fun σ => bnd (m σ) fun w => bnd (lo σ) fun l => bnd (hi σ) fun h => lift (slW w l h)
def tO (X : Cx) (m : OM) : TO := fun σ H Q => ∃ φ ph ws, RelH X.K φ ph H /\ RelS X.K φ ph.length H ws σ /\ (m ws ph).Run (fun o ph' =>
 ∀ φ' H', RelH X.K φ' ph' H' -> Step X.K φ ph.length H φ' ph'.length H' -> Q o H') (XE X φ ph.length H)
abbrev IO' (X : Cx) (e : Option Expr) (m : OM) : Prop := L2.PO X e (tO X m)
section
variable {X : Cx} {e : Expr} {lo hi : Option Expr} {m : EM} {ml mh : OM} {pos p2 : Pos}
theorem io_none : IO' X none oNone := fun pins s σ H Q I ⟨φ, ph, ws, hH, hS, h⟩ => po_none pins s σ H Q I (h φ H hH Step.refl)
theorem io_some (he : IE X e m) : IO' X (some e) (oSome m) := fun pins s σ H Q I ⟨φ, ph, ws, hH, hS, h⟩ => po_some he pins s σ H Q I (tM.bind hH hS h fun w ph1 φ1 H1 v hH1 s1 r1 h => by
 obtain ⟨o, ph', e, k⟩ := run_lift h
 split at e
 ·cases e; cases r1; exact ⟨_, rfl, k φ1 H1 hH1 s1⟩
 ·cases e)
theorem tO.bind {β : Type} {m : OM} {σ : L2.St} {H : Hp} {Q : Option Int -> Hp -> Prop} {φ : Nat -> Addr} {ph : PH} {ws : PSt} {f : Option Int -> Mo β} {N : β -> PH -> Prop} (hH : RelH X.K φ ph H) (hS : RelS X.K φ ph.length H ws σ) (h : (bnd (m ws) f ph).Run N (XE X φ ph.length H))
  (k : ∀ b ph1 φ1 H1, RelH X.K φ1 ph1 H1 -> Step X.K φ ph.length H φ1 ph1.length H1 -> (f b ph1).Run N (XE X φ1 ph1.length H1) -> Q b H1) : tO X m σ H Q := by
 rw [run_bnd] at h
 exact ⟨φ, ph, ws, hH, hS, h.mono (fun b ph1 h1 φ1 H1 hH1 s1 => k b ph1 φ1 H1 hH1 s1 (h1.mono (fun _ _ z => z) fun _ _ z => z.step s1)) fun _ _ z => z⟩
theorem ie_sl (he : IE X e m) (hl : IO' X lo ml) (hh : IO' X hi mh) : IE X (.Subscript e (.Slice lo hi none p2) pos) (eSl m ml mh) :=
 PE.imp (pe_slice (SlR.or sl_tup sl_list) he hl hh) fun σ H Q h => by
  obtain ⟨φ, ph, ws, hH, hS, h⟩ := h
  refine tM.bind hH hS h fun w ph1 φ1 H1 v hH1 s1 r1 h => tO.bind hH1 (hS.mono s1) h fun l ph2 φ2 H2 hH2 s2 h => tO.bind hH2 ((hS.mono s1).mono s2) h fun u ph3 φ3 H3 hH3 s3 h => ?_
  obtain ⟨w', ph', e, k⟩ := run_lift h
  have r3 := (r1.mono s2).mono s3
  have s13 := (s1.trans s2).trans s3
  unfold slW at e
  cases r3 with
  | tup hq r =>
   simp only at e
   split at e
   ·cases e
   ·rename_i hw
    cases e
    refine .inl ⟨_, _, rfl, SqT.of hq, by rw [<- r.length]; exact hw, fun p hp => ?_⟩
    exact k φ3 _ _ (hH3.tup hp) (s13.trans (step_tup hp)) (.tup upd_same ((cut_rel r l u).mono (step_tup hp)))
  | fl hq r =>
   cases e
   refine .inr ⟨_, _, rfl, hq.sq, fun p hp => ?_⟩
   obtain ⟨q1, q2, q3⟩ := new_list hH3 (cut_rel r l u) hp
   exact k _ _ _ q1 (s13.trans q2) q3
  | ref hi' =>
   simp only at e
   split at e
   ·rename_i ws' hw
    cases e
    obtain ⟨vs, hv, r⟩ := hH3.hp _ _ hw
    refine .inr ⟨_, _, rfl, SqL.of hv, fun p hp => ?_⟩
    obtain ⟨q1, q2, q3⟩ := new_list hH3 (cut_rel r l u) hp
    exact k _ _ _ q1 (s13.trans q2) q3
   ·cases e
  | _ => cases e
end
def listW : List W -> Po W := fun xs ph => match xs with
 | [w] => match seqW w ph with
  | some ws => some (.ref ph.length, ph ++ [.lst ws])
  | none => none
 | _ => none
theorem listW_i {K : PySem.W.Frag} : CallI K (fun xs H Q => ∃ p ys, xs = [.ref p] /\ (SqL K H p ys \/ SqT K H p ys) /\ ∀ l, H l = none -> Q (.ref l) (upd H l (.lst ys))) listW := by
 intro φ ph H xs vs w ph' Q hH r e k
 unfold listW at e
 split at e
 ·split at e
  ·rename_i w0 ws hw
   cases e
   cases r with
   | cons r r' =>
    cases r'
    obtain ⟨a, ys, rfl, hs, rs⟩ := seqW_rel hH r hw
    refine ⟨a, ys, rfl, hs, fun l hl => ?_⟩
    obtain ⟨q1, q2, q3⟩ := new_list hH rs hl
    exact k _ _ _ q1 q2 q3
  ·cases e
 ·cases e
def max2W : List W -> Po W := fun xs => match xs with
 | [.int i, .int j] => ret (.int (if j > i then j else i))
 | _ => nono
def min2W : List W -> Po W := fun xs => match xs with
 | [.int i, .int j] => ret (.int (if j < i then j else i))
 | _ => nono
def eChain (f f' : W -> W -> Po W) (a b c : EM) : EM := fun σ => bnd (a σ) fun x => bnd (b σ) fun y => bnd (lift (f x y)) fun z => match z with
 | .bl k => if k = true then bnd (c σ) fun u => lift (f' y u) else pur (.bl false)
 | _ => nop
structure BdL (X : Cx) (N : List Str) (sc : Scope) : Prop where
 hN : X.N = N
 vis : ∀ x, Vis sc x -> Vis X.env.scope x
 loc : ∀ x, Loc sc x -> Loc X.env.scope x
 gl : ∀ x, sc.names.lookup x = some .globalImplicit -> Gl X x
 fn : ∀ x, Loc sc x -> X.fn x = true \/ X.env.scope.names.lookup x = some .local
 nd : N.Nodup
structure BdT (X : Cx) (N : List Str) (sc : Scope) (k : Nat) : Prop extends BdL X N sc where
 calm : X.calm = true
 room : Room k X.A
structure Bd (X : Cx) (N : List Str) (sc : Scope) (k : Nat) : Prop extends BdT X N sc k where
 pass : PassesOwn (model X.prog X.w) X.A X.env X.xe
section
variable {X : Cx} {N : List Str} {sc : Scope} {k : Nat} {pos : Pos}
theorem BdL.var (B : BdL X N sc) (i : Nat) {x : Str} (hN : N[i]? = some x) (hv : Vis sc x) (hd : (x == ("__debug__" : Str)) = false) (hcd : (x == ("__classdict__" : Str)) = false) : IE X (.Name x pos) (eVar i) :=
 ie_var i (hN := by rw [B.hN]; exact hN) (hv := B.vis x hv) (hd := hd) (hcd := hcd)
theorem BdL.name (B : BdL X N sc) (i : Nat) {x : Str} (hN : N[i]? = some x) (hl : Loc sc x) : IG X (.Name x pos) (gN i) :=
 ig_name (by rw [B.hN]; exact B.nd) (by rw [B.hN]; exact hN) (B.loc x hl) (B.fn x hl)
theorem BdL.set (B : BdL X N sc) (i : Nat) {x : Str} {e : Expr} {m : EM} {pos' : Pos} (hN : N[i]? = some x) (hl : Loc sc x) (he : IE X e m) (hs : swapsWith e (some (.Name x pos')) pos.line X.env = pure false := by rfl) : IS X (.Assign [.Name x pos'] e pos) (sAsg m (gN i)) :=
 is_set (by rw [B.hN]; exact B.nd) (by rw [B.hN]; exact hN) (B.loc x hl) he hs (B.fn x hl)
theorem Bd.for_ (B : Bd X N sc k) {iter tg : Expr} {im : IM} {g : GM} {b : SM} {body : List Stmt} (hi : II X tg iter im) (hg : IG X tg g) (hb : ISs X body b) (hs : ∀ x, foldedSetIterable iter X.env x = pure x := by intro _; rfl) : IS X (.For tg iter body [] pos) (sFor im g b) :=
 is_for B.pass B.calm hi hg hb hs
theorem Bd.while_ (B : Bd X N sc k) {c : Expr} {t : TM} {b : SM} {body : List Stmt} (hc : IT X c t) (hb : ISs X body b) : IS X (.While c body [] pos) (sWhile t b) := is_while B.pass hc hb
theorem lookup_relabel_glob {env : Env} {x : Str} : ∀ {names : List (Str × NameKind)}, names.lookup x = some .globalImplicit →
    (names.map fun (n, k) => if (k == NameKind.free && env.scope.kind == .function && env.kindOf n == some .cell) then (n, NameKind.cell) else (n, k)).lookup x = some .globalImplicit
  | [], h => by cases h
  | (n, k) :: r, h => by
    show List.lookup x ((if (k == NameKind.free && env.scope.kind == .function && env.kindOf n == some .cell) = true then (n, NameKind.cell) else (n, k)) :: _) = _
    rw [List.lookup_cons] at h
    cases q : x == n with
    | true =>
      rw [q] at h
      cases h
      have hno : ¬ ((NameKind.globalImplicit == NameKind.free && env.scope.kind == .function && env.kindOf n == some .cell) = true) := by
        rw [show (NameKind.globalImplicit == NameKind.free) = false from rfl, Bool.false_and, Bool.false_and]
        exact Bool.false_ne_true
      rw [if_neg hno, List.lookup_cons, q]
    | false =>
      rw [q] at h
      have ih := lookup_relabel_glob (env := env) h
      split
      · rw [List.lookup_cons, q]; exact ih
      · rw [List.lookup_cons, q]; exact ih
theorem Bd.blk (B : Bd X N sc k) {N' : List Str} {scope : Scope} {cl : List (Str × Addr)} {C : Addr} {s₀ : Shared} {H₀ : Hp} {ex : List Addr} (hc : ∀ y ∈ scope.names, y.2 ≠ .cell) (nd : N'.Nodup) : Bd (blk X N' scope cl C s₀ H₀ ex) N' scope k where
 hN := rfl
 vis := fun x h => by
  rcases h with h | h | h
  ·exact .inl (lookup_relabel_local (env := X.env) h)
  ·exact absurd rfl (hc _ (mem_lookup h))
  ·exact .inr (lookup_relabel_free (env := X.env) h)
 loc := fun x h => by
  rcases h with h | h
  ·exact .inl (lookup_relabel_local (env := X.env) h)
  ·exact absurd rfl (hc _ (mem_lookup h))
 gl := fun x h => lookup_relabel_glob (env := X.env) h
 calm := B.calm
 room := B.room
 fn := fun x h => by
  rcases h with h | h
  ·exact .inr (lookup_relabel_local (env := X.env) h)
  ·exact absurd rfl (hc _ (mem_lookup h))
 pass := PassesOwn.never
 nd := nd
def capOk (sc scope : Scope) (N N' : List Str) (cap : List (Option Nat)) : Bool :=
 cap.length == N'.length && (List.range N'.length).all (fun i => match cap[i]? with
  | some (some j) => (match N'[i]? with
   | some x => N[j]? == some x && scope.names.lookup x == some .free && (sc.names.lookup x == some .cell || sc.names.lookup x == some .free)
   | none => false)
  | _ => true) && scope.names.all (fun y => y.2 != .cell && (y.2 != .free || sc.names.lookup y.1 == some .cell || sc.names.lookup y.1 == some .free) && (y.2 != .local || scope.names.lookup y.1 == some .local)) && scope.kind == .function
theorem Bd.cap (hN : X.N = N) (hsc : X.env.scope = sc) {N' : List Str} {scope : Scope} {cap : List (Option Nat)} (h : capOk sc scope N N' cap = true) : Cap X N' cap scope := by
 unfold capOk at h
 simp only [Bool.and_eq_true, List.all_eq_true, beq_iff_eq, bne_iff_ne, Bool.or_eq_true, ne_eq] at h
 obtain ⟨⟨⟨h1, h2⟩, h3⟩, h4⟩ := h
 have hk : ∀ x, X.env.kindOf x = sc.names.lookup x := fun x => by unfold Env.kindOf; rw [hsc]
 refine ⟨h1, fun i j x e1 e2 => ?_, fun y hy hf => ?_, fun y hy => (h3 y hy).1.1, h4, fun y hy hl => ?_⟩
 ·have hi : i < N'.length := (List.getElem?_eq_some_iff.mp e1).1
  have := h2 i (List.mem_range.mpr hi)
  rw [e2, e1] at this
  simp only [Bool.and_eq_true, beq_iff_eq, Bool.or_eq_true] at this
  obtain ⟨⟨a1, a2⟩, a3⟩ := this
  rw [hN, hk]
  exact ⟨a1, a2, a3⟩
 ·rw [hk]
  rcases (h3 y hy).1.2 with (z | z) | z
  ·exact absurd hf z
  ·exact .inl z
  ·exact .inr z
 ·rcases (h3 y hy).2 with z | z
  ·exact absurd hl z
  ·exact z
end
def isStar : Expr -> Bool
 | .Starred .. => true
 | _ => false
theorem star_cons {e : Expr} {es : List Expr} {env : Env} (h : isStar e = false) : starEach (e :: es) env = (false, eval e env) :: starEach es env := by
 cases e <;> first | rfl | cases h
def noStars (es : List Expr) : Bool := es.all fun e => !isStar e
theorem any_none {env : Env} {pos : Pos} : ∀ {es : List Expr}, noStars es = true -> (backTo pos (starEach es env)).any (·.1) = false
 | [], _ => rfl
 | e :: es, h => by
  unfold noStars at h
  rw [List.all_cons, Bool.and_eq_true] at h
  have h1 : isStar e = false := by simpa using h.1
  rw [star_cons h1]
  show (false || (backTo pos (starEach es env)).any (·.1)) = false
  rw [any_none (es := es) h.2]
  rfl
theorem all_none {env : Env} {pos : Pos} : ∀ {es : List Expr}, noStars es = true -> (backTo pos (starEach es env)).all (fun x => !x.1) = true
 | [], _ => rfl
 | e :: es, h => by
  unfold noStars at h
  rw [List.all_cons, Bool.and_eq_true] at h
  have h1 : isStar e = false := by simpa using h.1
  rw [star_cons h1]
  show (!false && (backTo pos (starEach es env)).all (fun x => !x.1)) = true
  rw [all_none (es := es) h.2]
  rfl
section
variable {X : Cx} {e : Expr} {es : List Expr} {m : EM} {a : AM} {pos : Pos}
theorem ia_c (h : isStar e = false) (he : IE X e m) (hr : IA X es a) : IA X (e :: es) (aCons m a) := ia_cons he hr (star_cons h)
end
section
variable {X : Cx} {k : Nat} {f : Addr} {fd : FuncData} {ps : List Str} {fm : List W -> Mo W} {x : Str} {p pos : Pos} {e : Expr} {es : List Expr} {a : AM}
theorem ie_cal (hn : noStars (e :: es) = true) (hdb : (x == ("__debug__" : Str)) = false) (F : FnOk X.prog X.w X.K X.mg X.base (CXW X.prog X.w) k f fd ps (spM X.K X.mg ps.length fm)) (hl : ∀ {xs : List W} {ph : PH}, xs.length ≠ ps.length -> fm xs ph = .no) (hr : Room k X.A) (hg : Gl X x) (hm : X.mg x = some (.ref f))
  (hk : PySem.W.keepIn X.K (.ref f) = true) (hb : Binds X.K fd ps []) (ha : IA X (e :: es) a) : IE X (.Call (.Name x p) (e :: es) [] pos) (eCall fm a) := by
 unfold noStars at hn
 rw [List.all_cons, Bool.and_eq_true] at hn
 exact ie_call F hl hr hg hm hk hb ha hdb (star_cons (by simpa using hn.1)) (any_none hn.2)
variable {t : AM} {id T : String} {r : List V -> Hp -> VK -> Prop} {fp : List W -> Po W}
theorem ie_blt (hns : noStars (e :: es) = true) (hn : x ≠ "__name__") (hdb : (x == ("__debug__" : Str)) = false) (hc : CallR X (.builtin id) r) (hi : CallI X.K r fp) (hg : Gl X x) (hm : X.mg x = none) (hv : bootBuiltins x = some (.builtin id)) (ha : IA X (e :: es) t) : IE X (.Call (.Name x p) (e :: es) [] pos) (eCallB fp t) := by
 unfold noStars at hns
 rw [List.all_cons, Bool.and_eq_true] at hns
 exact ie_callB hc hi hg hm hv ha hn hdb (star_cons (by simpa using hns.1)) (any_none hns.2)
theorem ie_typ (hns : noStars (e :: es) = true) (hn : x ≠ "__name__") (hdb : (x == ("__debug__" : Str)) = false) (hc : CallR X (.type T) r) (hi : CallI X.K r fp) (hg : Gl X x) (hm : X.mg x = none) (hv : bootBuiltins x = some (.type T)) (ha : IA X (e :: es) t) : IE X (.Call (.Name x p) (e :: es) [] pos) (eCallB fp t) := by
 unfold noStars at hns
 rw [List.all_cons, Bool.and_eq_true] at hns
 exact ie_callTy hc hi hg hm hv ha hn hdb (star_cons (by simpa using hns.1)) (any_none hns.2)
end
section
variable {X : Cx} {o e : Expr} {es : List Expr} {mo : EM} {t : AM} {name : Str} {apos cpos : Pos} {T id : String} {r : V -> List V -> Hp -> VK -> Prop} {ty : W -> PH -> Bool} {f : W -> List W -> Po W}
theorem ie_mth (hns : noStars (e :: es) = true) (hlen : decide ((e :: es).length < 30) = true) (pa : PlainAttrs T) (slot : Slot T name id) (hty : typeOf (.builtin id) = pure (.type "method_descriptor")) (hm : MtR X id r) (ht : TyI X.K T ty) (hi : MtI X.K T r f) (ho : IE X o mo) (ha : IA X (e :: es) t)
  (hbase : attributeBase o name X.env (eval o X.env) = eval o X.env := by rfl) (hline : (apos.endLine == cpos.line) = true := by rfl) : IE X (.Call (.Attribute o name apos) (e :: es) [] cpos) (eMeth ty f mo t) := by
 have hall := all_none (env := X.env) (pos := cpos) hns
 unfold noStars at hns
 rw [List.all_cons, Bool.and_eq_true] at hns
 refine ie_bm pa slot hty hm ht hi ho ha hbase ?_ hline (star_cons (by simpa using hns.1)) (any_none hns.2)
 rw [hall, show (backToKw cpos (keywordEach [] X.env)).all (fun x => x.1.isSome) = true from rfl]
 simpa using hlen
end
structure JE (X : Cx) (e : Expr) (m : EM) : Prop where
 h : IE X e m
structure JT (X : Cx) (e : Expr) (m : TM) : Prop where
 h : IT X e m
structure JW (X : Cx) (e : Expr) (m : TM) : Prop where
 h : PW X e (tT X m)
structure JA (X : Cx) (es : List Expr) (m : AM) : Prop where
 h : IA X es m
structure JS (X : Cx) (st : Stmt) (m : SM) : Prop where
 h : IS X st m
structure JB (X : Cx) (st : List Stmt) (m : SM) : Prop where
 h : ISs X st m
structure JG (X : Cx) (e : Expr) (g : GM) : Prop where
 h : IG X e g
structure JGs (X : Cx) (es : List Expr) (gs : List GM) : Prop where
 h : PGs X es (tGs X gs)
structure JI (X : Cx) (tg iter : Expr) (im : IM) : Prop where
 h : II X tg iter im
structure JO (X : Cx) (e : Option Expr) (m : OM) : Prop where
 h : IO' X e m
structure JF (X : Cx) (ifs : List Expr) (c : TM) : Prop where
 h : PF X ifs (tT0 X.K c)
section
variable {X : Cx} {N : List Str} {sc : Scope} {k : Nat} {a b c e o : Expr} {es rest : List Expr} {ma mb mc m mo : EM} {ta tb t : TM} {am : AM} {sa sb : SM} {st : Stmt} {as bs body : List Stmt} {p p2 pos pos' : Pos} {g : GM} {gs : List GM} {im : IM} {tg iter : Expr}
theorem BdL.jvar (B : BdL X N sc) (i : Nat) {x : Str} (hN : N[i]? = some x) (hv : Vis sc x) (hd : (x == ("__debug__" : Str)) = false) (hcd : (x == ("__classdict__" : Str)) = false) : JE X (.Name x pos) (eVar i) := ⟨B.var i hN hv hd hcd⟩
theorem je_int {i : Int} {j : Nat} : JE X (.Constant (.int i) j pos) (eC (.int i)) := ⟨ie_int⟩
theorem je_bl {x : Bool} {j : Nat} : JE X (.Constant (.bool x) j pos) (eC (.bl x)) := ⟨ie_bl⟩
theorem je_non {j : Nat} : JE X (.Constant .none j pos) (eC .non) := ⟨ie_non⟩
theorem je_not (ha : JE X a ma) : JE X (.UnaryOp .Not a pos) (eNot ma) := ⟨ie_not ha.h⟩
theorem je_add (ha : JE X a ma) (hb : JE X b mb) : JE X (.BinOp a .Add b pos) (eOp addW ma mb) := ⟨ie_op op_addW addW_i ha.h hb.h⟩
theorem je_mod (ha : JE X a ma) (hb : JE X b mb) : JE X (.BinOp a .Mod b pos) (eOp modW ma mb) := ⟨ie_op op_modN modW_i ha.h hb.h⟩
theorem je_div (ha : JE X a ma) (hb : JE X b mb) : JE X (.BinOp a .FloorDiv b pos) (eOp divW ma mb) := ⟨ie_op op_fdivB divW_i ha.h hb.h⟩
structure Cp (X : Cx) (op : CmpOp) (b : Expr) (f : W -> W -> Po W) : Prop where
 ex : ∃ r, OpR X (compareOp op) r /\ OpI X.K r f
 bm : behindInMarks op b = false
theorem cp_lt : Cp X .Lt b ltW := ⟨⟨_, op_lt, icmp_i⟩, nomark _⟩
theorem cp_gt : Cp X .Gt b gtW := ⟨⟨_, op_gt, icmp_i⟩, nomark _⟩
theorem BdT.eq (B : BdT X N sc k) : Cp X .Eq b eqW := ⟨⟨_, op_eqW B.room.units, eqW_i⟩, nomark _⟩
theorem BdT.ne (B : BdT X N sc k) : Cp X .NotEq b neW := ⟨⟨_, op_neW B.room.units, neW_i⟩, nomark _⟩
theorem cp_is : Cp X .Is b isNW := ⟨⟨_, op_isN, isNW_i⟩, nomark _⟩
theorem cp_isn : Cp X .IsNot b notNW := ⟨⟨_, op_notN, notNW_i⟩, nomark _⟩
theorem je_cmp {op : CmpOp} {f : W -> W -> Po W} (hc : Cp X op b f) (ha : JE X a ma) (hb : JE X b mb) : JE X (.Compare a [op] [b] pos) (eOp f ma mb) := let ⟨_, h1, h2⟩ := hc.ex; ⟨ie_cmp h1 h2 ha.h hb.h hc.bm⟩
theorem jt_cmp {op : CmpOp} {f : W -> W -> Po W} (hc : Cp X op b f) (ha : JE X a ma) (hb : JE X b mb) : JT X (.Compare a [op] [b] pos) (eT (eOp f ma mb)) := let ⟨_, h1, h2⟩ := hc.ex; ⟨it_cmp h1 h2 ha.h hb.h hc.bm⟩
theorem je_one {op : BoolOp} (ha : JE X a ma) : JE X (.BoolOp op [a] pos) ma := ⟨ie_one ha.h⟩
theorem je_and (ha : JE X a ma) (hb : JE X (.BoolOp .And (b :: rest) pos) mb) : JE X (.BoolOp .And (a :: b :: rest) pos) (eAnd ma mb) := ⟨ie_and ha.h hb.h⟩
theorem jw_one {op : BoolOp} (ha : JT X a ta) : JW X (.BoolOp op [a] pos) ta := ⟨iw_one ha.h⟩
theorem jw_and (ha : JT X a ta) (hb : JW X (.BoolOp .And (b :: rest) pos) tb) : JW X (.BoolOp .And (a :: b :: rest) pos) (tAndM ta tb) := ⟨iw_and ha.h hb.h⟩
theorem jw_or (ha : JT X a ta) (hb : JW X (.BoolOp .Or (b :: rest) pos) tb) : JW X (.BoolOp .Or (a :: b :: rest) pos) (tOrM ta tb) := ⟨iw_or ha.h hb.h⟩
theorem jt_w (h : JW X a ta) : JT X a ta := ⟨h.h.pt⟩
theorem jt_not (ha : JT X a ta) : JT X (.UnaryOp .Not a pos) (tNotM ta) := ⟨it_not ha.h⟩
def plainT : Expr -> Bool
 | .Name .. => true | .Call .. => true | .Subscript .. => true | .Constant .. => true | .BinOp .. => true
 | _ => false
theorem jt_tru (hp : plainT a = true) (ha : JE X a ma) : JT X a (eTru ma) := ⟨by
 cases a <;> first | cases hp; done | exact it_tru ha.h⟩
theorem je_if (hc : JT X c ta) (ha : JE X a ma) (hb : JE X b mb) : JE X (.IfExp c a b pos) (eIf ta ma mb) := ⟨ie_if hc.h ha.h hb.h⟩
theorem ja_nil : JA X [] aNil := ⟨ia_nil⟩
theorem ja_c (h : isStar e = false) (he : JE X e m) (hr : JA X es am) : JA X (e :: es) (aCons m am) := ⟨ia_c h he.h hr.h⟩
theorem je_tup {x1 : Nat} (h : JA X es am) : JE X (.Tuple es x1 pos) (eTup am) := ⟨ie_tup h.h⟩
theorem je_lst (h : JA X es am) : JE X (.List es pos) (eLst am) := ⟨ie_lst h.h⟩
theorem jo_none : JO X none oNone := ⟨io_none⟩
theorem jo_some (he : JE X e m) : JO X (some e) (oSome m) := ⟨io_some he.h⟩
theorem je_sl {lo hi : Option Expr} {ml mh : OM} (he : JE X e m) (hl : JO X lo ml) (hh : JO X hi mh) : JE X (.Subscript e (.Slice lo hi none p2) pos) (eSl m ml mh) := ⟨ie_sl he.h hl.h hh.h⟩
theorem jb_nil : JB X [] sNext := ⟨iss_nil⟩
theorem jb_cons {rs : List Stmt} (h1 : JS X st sa) (h2 : JB X rs sb) : JB X (st :: rs) (sSeq sa sb) := ⟨iss_cons h1.h h2.h⟩
theorem jb_one (h1 : JS X st sa) : JB X [st] sa := ⟨iss_one h1.h⟩
theorem js_ret (he : JE X e m) : JS X (.Return (some e) pos) (sRet m) := ⟨is_ret he.h⟩
def noComp : Expr -> Bool
 | .ListComp .. => false | .SetComp .. => false | .DictComp .. => false
 | _ => true
theorem swaps_no {x : Option Expr} {n : Nat} {env : Env} (h : noComp e = true) : swapsWith e x n env = pure false := by
 cases e <;> first | rfl | cases h
theorem js_expr (hn : noComp e = true) (he : JE X e m) : JS X (.Expr e pos) (sExpr m) := ⟨is_expr he.h (swaps_no hn)⟩
theorem js_if (hc : JT X c t) (ha : JB X as sa) (hb : JB X bs sb) : JS X (.If c as bs pos) (sIf t sa sb) := ⟨is_if hc.h ha.h hb.h⟩
theorem BdL.jset (B : BdL X N sc) (i : Nat) {x : Str} (hN : N[i]? = some x) (hl : Loc sc x) (hn : noComp e = true) (he : JE X e m) : JS X (.Assign [.Name x pos'] e pos) (sAsg m (gN i)) := ⟨B.set i hN hl he.h (swaps_no hn)⟩
theorem js_asg (he : JE X e m) (hg : JG X tg g) (hs : swapsWithSole [tg] e pos.line X.env = pure false := by rfl) (hw : swappedStores [tg] e X.env = pure none := by rfl)
  (h1 : (assignEach [tg] X.env).map (·.2) = [assign tg X.env] := by rfl) : JS X (.Assign [tg] e pos) (sAsg m g) := ⟨is_asg he.h hg.h hs hw h1⟩
theorem BdL.jname (B : BdL X N sc) (i : Nat) {x : Str} (hN : N[i]? = some x) (hl : Loc sc x) : JG X (.Name x pos) (gN i) := ⟨B.name i hN hl⟩
theorem jgs_nil : JGs X [] [] := ⟨igs_nil⟩
theorem jgs_cons (h1 : JG X e g) (h2 : JGs X es gs) (hs : (assignEach (e :: es) X.env).map (·.2) = assign e X.env :: (assignEach es X.env).map (·.2) := by rfl) : JGs X (e :: es) (g :: gs) := ⟨igs_cons h1.h h2.h hs⟩
theorem jg_tup {j n : Nat} (hc : X.calm = true) (h : JGs X es gs) (hn : (assignEach es X.env).length = n := by rfl) (hst : (assignEach es X.env).findIdx? (·.1) = none := by rfl) : JG X (.Tuple es j pos) (gLen n gs) := ⟨ig_tup hc h.h hn hst⟩
theorem Bd.jfor (B : Bd X N sc k) (hi : JI X tg iter im) (hg : JG X tg g) (hb : JB X body sb) (hs : ∀ x, foldedSetIterable iter X.env x = pure x := by intro _; rfl) : JS X (.For tg iter body [] pos) (sFor im g sb) := ⟨B.for_ hi.h hg.h hb.h hs⟩
theorem Bd.jwhile (B : Bd X N sc k) (hc : JT X c t) (hb : JB X body sb) : JS X (.While c body [] pos) (sWhile t sb) := ⟨B.while_ hc.h hb.h⟩
theorem ji_range1 (hg : Gl X "range") (hm : X.mg "range" = none) (hn : isStar a = false) (ha : JA X [a] am) : JI X tg (.Call (.Name "range" p) [a] [] pos) (iR1 am) := ⟨ii_range1 hg hm ha.h (star_cons hn)⟩
theorem je_cal {k : Nat} {f : Addr} {fd : FuncData} {ps : List Str} {fm : List W -> Mo W} {x : Str} (hn : noStars (e :: es) = true) (hdb : (x == ("__debug__" : Str)) = false) (F : FnOk X.prog X.w X.K X.mg X.base (CXW X.prog X.w) k f fd ps (spM X.K X.mg ps.length fm)) (hl : ∀ {xs : List W} {ph : PH}, xs.length ≠ ps.length -> fm xs ph = .no) (hr : Room k X.A) (hg : Gl X x) (hm : X.mg x = some (.ref f))
  (hk : PySem.W.keepIn X.K (.ref f) = true) (hb : Binds X.K fd ps []) (ha : JA X (e :: es) am) : JE X (.Call (.Name x p) (e :: es) [] pos) (eCall fm am) := ⟨ie_cal hn hdb F hl hr hg hm hk hb ha.h⟩
theorem je_blt {x : Str} {id : String} {r : List V -> Hp -> VK -> Prop} {fp : List W -> Po W} (hns : noStars (e :: es) = true) (hn : x ≠ "__name__") (hdb : (x == ("__debug__" : Str)) = false) (hc : CallR X (.builtin id) r) (hi : CallI X.K r fp) (hg : Gl X x) (hm : X.mg x = none) (hv : bootBuiltins x = some (.builtin id)) (ha : JA X (e :: es) am) : JE X (.Call (.Name x p) (e :: es) [] pos) (eCallB fp am) := ⟨ie_blt hns hn hdb hc hi hg hm hv ha.h⟩
theorem je_typ {x : Str} {T : String} {r : List V -> Hp -> VK -> Prop} {fp : List W -> Po W} (hns : noStars (e :: es) = true) (hn : x ≠ "__name__") (hdb : (x == ("__debug__" : Str)) = false) (hc : CallR X (.type T) r) (hi : CallI X.K r fp) (hg : Gl X x) (hm : X.mg x = none) (hv : bootBuiltins x = some (.type T)) (ha : JA X (e :: es) am) : JE X (.Call (.Name x p) (e :: es) [] pos) (eCallB fp am) := ⟨ie_typ hns hn hdb hc hi hg hm hv ha.h⟩
theorem je_mth {name : Str} {T id : String} {r : V -> List V -> Hp -> VK -> Prop} {ty : W -> PH -> Bool} {f : W -> List W -> Po W} (hns : noStars (e :: es) = true) (hlen : decide ((e :: es).length < 30) = true) (pa : PlainAttrs T) (slot : Slot T name id) (hty : typeOf (.builtin id) = pure (.type "method_descriptor")) (hm : MtR X id r) (ht : TyI X.K T ty) (hi : MtI X.K T r f) (ho : JE X o mo) (ha : JA X (e :: es) am)
  (hbase : attributeBase o name X.env (eval o X.env) = eval o X.env := by rfl) (hline : (p.endLine == pos.line) = true := by rfl) : JE X (.Call (.Attribute o name p) (e :: es) [] pos) (eMeth ty f mo am) := ⟨ie_mth hns hlen pa slot hty hm ht hi ho.h ha.h hbase hline⟩
theorem je_mth0 {name : Str} {T id : String} {r : V -> List V -> Hp -> VK -> Prop} {ty : W -> PH -> Bool} {f : W -> List W -> Po W} (pa : PlainAttrs T) (slot : Slot T name id) (hty : typeOf (.builtin id) = pure (.type "method_descriptor")) (hm : MtR X id r) (ht : TyI X.K T ty) (hi : MtI X.K T r f) (ho : JE X o mo)
  (hbase : attributeBase o name X.env (eval o X.env) = eval o X.env := by rfl) (hline : (p.endLine == pos.line) = true := by rfl) : JE X (.Call (.Attribute o name p) [] [] pos) (eMeth ty f mo aNil) := ⟨ie_bm0 pa slot hty hm ht hi ho.h hbase hline⟩
theorem je_is {c : Str} {cn : String} {p2 : Pos} (hk : Kits X.K cn) (hv : bootBuiltins c = some (.type cn)) (hn : c ≠ "__name__") (hd : (c == ("__debug__" : Str)) = false) (hst : isStar e = false) (hg : Gl X "isinstance") (hm : X.mg "isinstance" = none) (hgc : Gl X c) (hmc : X.mg c = none) (he : JE X e m) :
  JE X (.Call (.Name "isinstance" p) [e, .Name c p2] [] pos) (eIs cn m) := ⟨ie_is hk hv hg hm hgc hmc he.h hn hd (by rw [star_cons hst, star_cons rfl]; rfl) (star_cons rfl) (any_none rfl)⟩
theorem jf_nil : JF X [] cTrue := ⟨if_nil⟩
theorem je_comp {scope : Scope} {ifs : List Expr} {N' : List Str} {cap : List (Option Nat)} (hc : X.calm = true) (cp : Cap X N' cap scope) (hi : JI X tg iter im) (hg : ∀ cl C s₀ H₀ ex, JG (blk X N' scope cl C s₀ H₀ ex) tg g) (ht : ∀ cl C s₀ H₀ ex, JF (blk X N' scope cl C s₀ H₀ ex) ifs t)
  (he : ∀ cl C s₀ H₀ ex, JE (blk X N' scope cl C s₀ H₀ ex) e m) (hs : ∀ x, foldedSetIterable iter X.env x = pure x := by intro _; rfl) : JE X (.ListComp e [⟨tg, iter, ifs, 0⟩] scope pos) (eComp im cap g t m) :=
 ⟨ie_comp hc cp hi.h (fun cl C s₀ H₀ ex => (hg cl C s₀ H₀ ex).h) (fun cl C s₀ H₀ ex => (ht cl C s₀ H₀ ex).h) (fun cl C s₀ H₀ ex => (he cl C s₀ H₀ ex).h) hs⟩
theorem js_comp {scope : Scope} {ifs : List Expr} {N' : List Str} {cap : List (Option Nat)} {i : Nat} {x : Str} (hN : X.N.Nodup) (hi' : X.N[i]? = some x) (hx : X.env.scope.names.lookup x = some .local)
  (hc : X.calm = true) (cp : Cap X N' cap scope) (hi : JI X tg iter im) (hg : ∀ cl C s₀ H₀ ex, JG (blk X N' scope cl C s₀ H₀ ex) tg g) (ht : ∀ cl C s₀ H₀ ex, JF (blk X N' scope cl C s₀ H₀ ex) ifs t)
  (he : ∀ cl C s₀ H₀ ex, JE (blk X N' scope cl C s₀ H₀ ex) e m) (hsw : swapsWith (.ListComp e [⟨tg, iter, ifs, 0⟩] scope p) (some (.Name x pos')) pos.line X.env = pure true) (hs : ∀ x, foldedSetIterable iter X.env x = pure x := by intro _; rfl) :
  JS X (.Assign [.Name x pos'] (.ListComp e [⟨tg, iter, ifs, 0⟩] scope p) pos) (sAsg (eComp im cap g t m) (gN i)) :=
 ⟨is_comp hN hi' hx hc cp hi.h (fun cl C s₀ H₀ ex => (hg cl C s₀ H₀ ex).h) (fun cl C s₀ H₀ ex => (ht cl C s₀ H₀ ex).h) (fun cl C s₀ H₀ ex => (he cl C s₀ H₀ ex).h) hsw hs⟩
end
open PySem PySem.Spec PyProof.Rows L2 PySem.W Builtin.ObjectAttr Builtin.Getset_descriptor
section
variable {prog : Program} {w : World} {A : Around} {E : Value -> Shared -> Prop} {s : Shared} {K : PySem.W.Frag} {x C D : Addr}
structure ExcK (K : PySem.W.Frag) (D : Addr) : Prop where
 ga : findIn K (.ref D) "__getattribute__" = some (some (.builtin "BaseException.__getattribute__"))
 gh : findIn K (.ref D) "__getattr__" = some none
 cl : findIn K (.ref D) "__class__" = some (some (.builtin "object.__class__"))
 cg : specialIn K (.builtin "object.__class__") "__get__" = some (some (.builtin "getset_descriptor.__get__"))
 ct : takesIn K (.builtin "object.__class__") = some true
 mo : mroIn K D (.type "object") = some true
 mb : mroIn K D (.type "BaseException") = some true
 cd : (clsIn K D).isSome = true
end
def XTab (K : PySem.W.Frag) (cv : Value) (tb : List (Str × Bool)) : Prop :=
 ∀ c b, tb.lookup c = some b -> ∃ C, PySem.W.nsIn K mainGlobals c = some (some (.ref C)) /\ ExcK K C /\ PySem.W.kitOne K (.ref C) cv = some b
theorem XTab.nil {K : PySem.W.Frag} {cv : Value} : XTab K cv [] := fun c b e => by cases e
theorem XTab.cons {K : PySem.W.Frag} {cv : Value} {tb : List (Str × Bool)} {c : Str} {b : Bool} {C : Addr} (h1 : PySem.W.nsIn K mainGlobals c = some (some (.ref C))) (h2 : ExcK K C) (h3 : PySem.W.kitOne K (.ref C) cv = some b) (h : XTab K cv tb) :
  XTab K cv ((c, b) :: tb) := fun c' b' e => by
 rw [List.lookup_cons] at e
 split at e
 ·rename_i q
  cases e
  rw [beq_iff_eq] at q
  subst q
  exact ⟨C, h1, h2, h3⟩
 ·exact h c' b' e
def exx {α : Type} (x : XC) : Mo α := fun ph => .ex x ph
open PySem PySem.Spec PyProof.Rows L2 PySem.W
structure TopF (X : Cx) : Prop where
 st : X.stack = X.env :: X.outer
 fr : X.env.frame = some X.env.locals
 ex : X.ex = []
def nox {α : Type} (m : Mo α) : Mo α := fun ph => match m ph with
 | .ok a ph' => .ok a ph'
 | _ => .no
theorem RelS.len {K : PySem.W.Frag} {φ : Nat -> Addr} {n : Nat} {H : Hp} : ∀ {ws : PSt} {vs : L2.St}, RelS K φ n H ws vs -> ws.length = vs.length
 | _, _, .nil => rfl
 | _, _, .sm _ r => by rw [List.length_cons, List.length_cons, RelS.len r]
 | _, _, .nn r => by rw [List.length_cons, List.length_cons, RelS.len r]
theorem RelS.none {K : PySem.W.Frag} {φ : Nat -> Addr} {n : Nat} {H : Hp} : ∀ (vs : L2.St), RelS K φ n H (List.replicate vs.length Option.none) vs
 | [] => .nil
 | _ :: vs => .nn (RelS.none vs)
theorem step_exc {K : PySem.W.Frag} {φ : Nat -> Addr} {n : Nat} {H : Hp} {a : Addr} {o : HO} (ha : H a = none) : Step K φ n H φ n (upd H a o) := by
 refine ⟨Nat.le_refl _, fun _ _ => rfl, fun c xs h => ?_, fun c ob u h => by rw [upd_ne (fun z => by rw [z, ha] at h; cases h)]; exact h⟩
 rw [upd_ne (fun z => by rw [z, ha] at h; cases h)]; exact h
def HTab (K : PySem.W.Frag) (D : Addr) (tb : List (Str × Bool)) : Prop :=
 ∀ c b, tb.lookup c = some b -> ∃ C, PySem.W.nsIn K mainGlobals c = some (some (.ref C)) /\ PySem.W.subIn K (.ref C) (.ref D) = some b
theorem HTab.nil {K : PySem.W.Frag} {D : Addr} : HTab K D [] := fun c b e => by cases e
theorem HTab.cons {K : PySem.W.Frag} {D : Addr} {tb : List (Str × Bool)} {c : Str} {b : Bool} {C : Addr} (h1 : PySem.W.nsIn K mainGlobals c = some (some (.ref C))) (h3 : PySem.W.subIn K (.ref C) (.ref D) = some b) (h : HTab K D tb) :
  HTab K D ((c, b) :: tb) := fun c' b' e => by
 rw [List.lookup_cons] at e
 split at e
 ·rename_i q
  cases e
  rw [beq_iff_eq] at q
  subst q
  exact ⟨C, h1, h3⟩
 ·exact h c' b' e
theorem relH_exc {K : PySem.W.Frag} {φ : Nat -> Addr} {ph : PH} {H : Hp} {a : Addr} {o : HO} (h : RelH K φ ph H) (ha : H a = none) : RelH K φ ph (upd H a o) :=
 ⟨fun i p e => by
  obtain ⟨x, hx, _⟩ := h.at (List.getElem?_eq_some_iff.mp e).1
  exact (h.hp i p e).mono (step_exc ha) (upd_ne fun z => by rw [z, ha] at hx; cases hx), h.inj, fun p hm => (h.tb p hm).new ha⟩
theorem fun_ilT {P : Program} {w : World} {K : PySem.W.Frag} {mg : Str -> Option Value} {base : Heap} {x qual : Str} {st : Stmt} {f : Addr} {fd : FuncData} {N ps : List Str} {k n np : Nat} {body : SM} (hn : N.length = n) (hp : ps.length = np) (F : Fun K x qual st f fd) (S : FnScope N ps (defScope st))
  (hbody : ∀ {X : Cx}, X.prog = P -> X.w = w -> X.K = K -> X.mg = mg -> X.base = base -> Bd X N (defScope st) k -> TopF X -> X.env.scope = defScope st -> JB X (defBody st) body) : FnOk P w K mg base (CXW P w) (k + 1) f fd ps (spM K mg np (fM body n np)) := by
 subst hn hp
 exact fun_il F S fun cdv A outer s H E hr => (hbody (X := cxOf (CXW P w) P w K mg base N qual (defScope st) f cdv A outer s H E) rfl rfl rfl rfl rfl ⟨⟨⟨rfl, fun _ z => z, fun _ z => z, fun _ z => z, fun _ _ => .inl rfl, S.nd⟩, rfl, hr⟩, PassesOwn.leaving⟩ ⟨rfl, rfl, rfl⟩ rfl).h
def codeTab (o : Obj) : Option Addr := match o.cls, o.data with
 | .type t, .fields vs => if t = "code" then (match (vs[11]? : Option Value), vs.getD 18 .none, vs.getD 7 .none, vs.getD 9 .none, vs.getD 10 .none with
  | some (.ref P), .str _ _, .int _ _, .bool _, .int _ _ => some P
  | _, _, _, _, _ => none) else none
 | _, _ => none
theorem codeHd_of {h : Heap} {c P : Addr} {o : Obj} (e : h.get? c = some o) (t : codeTab o = some P) (hn : c ≠ P) : PySem.W.CodeHd h c P := by
 unfold codeTab at t
 split at t
 ·rename_i t0 vs h1 h2
  split at t
  ·rename_i ht
   split at t
   ·rename_i P' f tf fl tg b tx tt g1 g2 g3 g4 g5
    cases t
    refine ⟨o, vs, f, tf, fl, tg, b, tx, tt, e, by rw [h1, ht], h2, g1, ?_, g2, g3, g4, g5, hn⟩
    rw [Array.getD_eq_getD_getElem?, g1]
    rfl
   ·cases t
  ·cases t
 ·cases t
def isTab (K : PySem.W.Frag) (b : Addr) : Bool := (lamTabs K).any fun p => p.2.2 == b
theorem isTab_of {K : PySem.W.Frag} {b : Addr} (h : isTab K b = true) : ∃ p ∈ lamTabs K, p.2.2 = b := by
 obtain ⟨p, h1, h2⟩ := List.any_eq_true.mp h
 exact ⟨p, h1, eq_of_beq h2⟩
theorem isTab_mem {K : PySem.W.Frag} {p : Str × Addr × Addr} (h : p ∈ lamTabs K) : isTab K p.2.2 = true := List.any_eq_true.mpr ⟨p, h, beq_self_eq_true _⟩
def H0 (K : PySem.W.Frag) (a : Addr) (o : Obj) (xs : List V) : Hp := fun b => if isTab K b = true then some (.tbl #[]) else if b = a /\ K.lookup a = none then some (.frz o (.lst xs)) else none
section
variable {Pg : Program} {w : World} {K : PySem.W.Frag} {mg mb : Str -> Option Value} {k : Nat} {fa a : Addr} {fd : FuncData} {x : Str} {s₁ : Shared} {vs : List Value} {ns : List Int} {fm : List W -> Mo W}
theorem law_runs (KX : K.In s₁.heap) (hns : s₁.heap.Ns mainGlobals mg) (hb : s₁.heap.Ns builtinsNs mb) (hbb : ∀ x : Str, x ≠ "__name__" -> mb x = bootBuiltins x) (hlim : s₁.heap.NoLimit)
  (hbm : ∃ bm ob, mg "__builtins__" = some (.ref bm) /\ bm ≠ builtinsNs /\ s₁.heap.get? bm = some ob /\ ob.cls = .type "module" /\ ob.dict = some builtinsNs /\ ob.data = .plain) (hg : s₁.gens = #[])
  (hT : ∀ p ∈ lamTabs K, PySem.W.CodeHd s₁.heap p.2.1 p.2.2 /\ s₁.heap.get? p.2.2 = some (PySem.W.tabObj #[])) (hK : PySem.W.noTabs K = true)
  (ha : s₁.heap.get? a = some { cls := .type "list", data := .seq vs.toArray }) (hi : IntsAre vs ns) (hl : ns.length <= 63) (hr : Room k callerA)
  (F : ∀ base : Heap, K.In base -> base.Ns mainGlobals mg -> FnOk Pg w K mg base (CXW Pg w) k fa fd [x] (spM K mg 1 fm)) (hbind : ∀ (s : Shared) (u : Value), BindsTo s fd ⟨[u], []⟩ [(x, u)])
  (good : ∃ ph', fm [.fl (ns.map W.int)] [] = .ok (.bl true) ph') :
  codeAny (model Pg w) callerA (.call (.ref fa) ⟨[.ref a], []⟩) (fun r s' => r = .ok (.ret (.bool true)) /\ OldK s₁.heap s'.heap /\ s'.os = s₁.os /\ AllBare s'.gens) s₁ := by
 have rv := vals_ints hi
 have lenV := hi.length
 have hl2 : ns.length <= sizeLine := Nat.le_trans hl (by decide)
 have tabOf : ∀ {b : Addr}, isTab K b = true -> s₁.heap.get? b = some (PySem.W.tabObj #[]) := fun h => by
  obtain ⟨p, h1, rfl⟩ := isTab_of h
  exact (hT p h1).2
 have free : ∀ {b : Addr} {o : Obj}, s₁.heap.get? b = some o -> o ≠ PySem.W.tabObj #[] -> (b = a -> K.lookup a ≠ none) -> H0 K a { cls := .type "list", data := .seq vs.toArray } (ns.map V.int) b = none := fun {b o} e n1 n2 => by
  unfold H0
  rw [if_neg (fun h => n1 (Option.some.inj (e.symm.trans (tabOf h)))), if_neg (fun h => n2 h.1 h.2)]
 have free2 : ∀ {b : Addr} {o : Obj}, s₁.heap.get? b = some o -> o.cls ≠ .none -> o.cls ≠ .type "list" -> H0 K a { cls := .type "list", data := .seq vs.toArray } (ns.map V.int) b = none := fun {b o} e n1 n2 => free e (fun z => n1 (by rw [z])) fun z => by
  subst z
  rw [ha] at e; cases e
  exact absurd rfl n2
 have freeD : ∀ {b : Addr} {o : Obj} {es : Array DictEntry} {ep : Nat}, s₁.heap.get? b = some o -> o.data = .dict es ep -> H0 K a { cls := .type "list", data := .seq vs.toArray } (ns.map V.int) b = none := fun {b o es ep} e d => free e (fun z => by rw [z] at d; cases d) fun z => by
  subst z
  rw [ha] at e; cases e
  have d' : Data.seq vs.toArray _ = Data.dict es ep := d
  cases d'
 have na : isTab K a = false := by
  cases q : isTab K a with
  | false => rfl
  | true => have := tabOf q; rw [ha] at this; cases this
 revert free free2 freeD
 generalize eH : H0 K a { cls := .type "list", data := .seq vs.toArray } (ns.map V.int) = H
 intro free free2 freeD
 have cases3 : ∀ b u, H b = some u -> (isTab K b = true /\ u = .tbl #[]) \/ (b = a /\ u = .frz { cls := .type "list", data := .seq vs.toArray } (.lst (ns.map V.int))) := fun b u e => by
  rw [<- eH] at e
  unfold H0 at e
  split at e
  ·rename_i h; cases e; exact .inl ⟨h, rfl⟩
  ·split at e
   ·rename_i h; cases e; exact .inr ⟨h.1, rfl⟩
   ·cases e
 have hok : HOk Pg w H s₁.heap := fun b u e => by
  rcases cases3 b u e with ⟨h, rfl⟩ | ⟨rfl, rfl⟩
  ·exact tabOf h
  ·exact ⟨ha, by rw [List.length_map]; exact hl2, vs, _, rv, ha⟩
 have tb : ∀ p ∈ lamTabs K, TabG H p.1 p.2.2 := fun p hp => ⟨#[], by rw [<- eH]; exact if_pos (isTab_mem hp), trivial, fun pos v e => nomatch e⟩
 have hS : FrzL K H a (ns.map V.int) := by
  cases q : K.lookup a with
  | some o =>
   have e := KX a o q
   rw [ha] at e
   cases e
   exact .inr ⟨_, vs.toArray, _, q, rfl, rfl, rfl, by rw [List.size_toArray, lenV]; exact hl2, by simpa using rv⟩
  | none => exact .inl ⟨_, by rw [<- eH]; unfold H0; rw [if_neg (by rw [na]; simp), if_pos ⟨rfl, q⟩]⟩
 have hid : ∀ {b : Addr} {o : Obj}, s₁.heap.get? b = some o -> H b = none -> (hidT s₁.heap H).get? b = some o := fun e n => hidT_get e n
 have nsK : ∀ {b : Addr} {m : Str -> Option Value}, s₁.heap.Ns b m -> (hidT s₁.heap H).Ns b m := fun {b m} ⟨o, es, ep, e, d, r⟩ => ⟨o, es, ep, hid e (freeD e d), d, r⟩
 have hKb : K.In (hidT s₁.heap H) := fun b o e => hid (KX b o e) (free (KX b o e) (fun z => by
  have h2 := List.all_eq_true.mp hK (b, o) (PySem.W.mem_of_lookupK e)
  subst z
  exact absurd (show false = true from h2) Bool.false_ne_true) fun z q => by rw [<- z, e] at q; cases q)
 have hM : Mod K mg (hidT s₁.heap H) := ⟨hKb, nsK hns, ⟨mb, nsK hb, hbb⟩, let ⟨mc, h1, h2⟩ := hlim; ⟨mc, nsK h1, h2⟩,
  let ⟨bm, ob, b1, b2, b3, b4, b5⟩ := hbm; ⟨bm, ob, b1, b2, hid b3 (free2 b3 (by rw [b4]; exact fun z => nomatch z) (by rw [b4]; exact fun z => absurd (Value.type.inj z) (by decide))), b4, b5⟩⟩
 have e0 : Env0 Pg w K mg (hidT s₁.heap H) callerA [] s₁ H := ⟨rfl, hM, fun b o e => of_hidT e, Nat.le_of_eq (hidT_size _ _), trivial, fun b hb => absurd (show b ∈ ([] : List Addr) from hb) (by simp), hok, .of_eq hg⟩
 obtain ⟨ph', eg⟩ := good
 refine codeAny_mono ((F _ hKb (nsK hns)).run callerA [] s₁ H ⟨[.ref a], []⟩ [.ref a] [.ref a] (fun v _ => v = .bl true) (fun _ _ _ => False) hr e0 (hbind s₁ (.ref a)) (.cons rfl .nil)
  ⟨rfl, fun _ => 0, [], [.fl (ns.map W.int)], ⟨fun i o e => by simp at e, fun i j hi => absurd hi (by simp), tb⟩, .cons (.fl hS (fl_ints ns)) .nil, ?_⟩) fun r s' h => ?_
 ·rw [eg]
  intro φ' H' v _ _ r
  cases r
  rfl
 ·cases r with
  | error e => obtain ⟨_, _, _, z⟩ := h; exact z.elim
  | ok fl =>
   cases fl with
   | next => exact False.elim h
   | brk => exact False.elim h
   | cont => exact False.elim h
   | ret u =>
    obtain ⟨v, H', os, bare, un, hok', r', q⟩ := h
    have q' : v = .bl true := q
    subst q'
    obtain rfl : u = Value.bool true := r'
    refine ⟨rfl, ⟨fun b o e => ?_, fun b o e => un.there b o e (by simp)⟩, os, bare⟩
    cases q : H b with
    | none => exact .inl (un.keep b o e q (fun z => absurd (show b ∈ ([] : List Addr) from z) (by simp)) (by simp))
    | some u =>
     rcases cases3 b u q with ⟨h1, rfl⟩ | ⟨rfl, rfl⟩
     ·obtain ⟨more, z⟩ := un.tbls b _ q
      have e2 : s'.heap.get? b = some (PySem.W.tabObj (#[] ++ more)) := hok' b _ z
      obtain ⟨p, hp, rfl⟩ := isTab_of h1
      have e3 := (hT p hp).2
      rw [e] at e3
      cases e3
      exact .inr (.inl ⟨((hT p hp).1.tab (hT p hp).2).isCodeTable, rfl, #[], more, rfl, e2⟩)
     ·obtain ⟨e2, _⟩ := hok' _ _ (un.frzs _ _ _ q)
      rw [ha] at e; cases e
      exact .inl e2
end
def tabsIn (K : PySem.W.Frag) (ts : List Addr) : Bool := (lamTabs K).all fun p => ts.contains p.2.2 && (match K.lookup p.2.1 with
 | some o => codeTab o == some p.2.2
 | none => false) && !(p.2.1 == p.2.2)
theorem tabs_of {K : PySem.W.Frag} {ts : List Addr} {h : Heap} (hT : tabsIn K ts = true) (KX : K.In h) (hP : ∀ P ∈ ts, h.get? P = some (PySem.W.tabObj #[])) (p : Str × Addr × Addr) (hp : p ∈ lamTabs K) : PySem.W.CodeHd h p.2.1 p.2.2 /\ h.get? p.2.2 = some (PySem.W.tabObj #[]) := by
 have z := List.all_eq_true.mp hT p hp
 rw [Bool.and_eq_true, Bool.and_eq_true] at z
 obtain ⟨⟨z1, z2⟩, z3⟩ := z
 refine ⟨?_, hP _ (List.contains_iff_mem.mp z1)⟩
 cases e : K.lookup p.2.1 with
 | none => rw [e] at z2; cases z2
 | some o =>
  rw [e] at z2
  exact codeHd_of (KX _ _ e) (eq_of_beq z2) fun q => by rw [q] at z3; simp at z3
theorem walk_il {l : PySem.W.OpenLaw} {q : Program} {loose : List Str} {XP : (Str -> Option Value) -> Heap -> Prop} {YP : World -> Heap -> Prop} {d : DefRec} {K : Params -> PySem.W.Frag} {x : Str} {fm : List W -> Mo W} (k : Nat)
  (good : ∀ ns : List Int, ns.length <= 63 -> ∃ ph', fm [.fl (ns.map W.int)] [] = .ok (.bl true) ph') (hn : l.most = some 63) (hdf : d.params.defaults = []) (hr : Room k callerA) (hY : ∀ (w : World) (h : Heap), YP w h -> (K w.params).In h)
  (hK : ∀ w : World, PySem.W.noTabs (K w.params) = true) (hT : ∀ (w : World) (h : Heap), YP w h -> ∀ p ∈ lamTabs (K w.params), PySem.W.CodeHd h p.2.1 p.2.2 /\ h.get? p.2.2 = some (PySem.W.tabObj #[]))
  (F : ∀ (w : World) (mg : Str -> Option Value) (fa : Addr) (h : Heap), (K w.params).In h -> h.Ns mainGlobals mg -> mg d.name = some (.ref fa) →
   ∃ fd : FuncData, (∀ (s : Shared) (u : Value), BindsTo s fd ⟨[u], []⟩ [(x, u)]) /\ ∀ base : Heap, (K w.params).In base -> base.Ns mainGlobals mg -> FnOk l.prog w (K w.params) mg base (CXW l.prog w) k fa fd [x] (spM (K w.params) mg 1 fm)) :
  PySem.W.WalkO q loose XP YP l.row.toRowW d [] (fun f vs => PySem.call f vs) := by
 refine Att.attach_call hn hdf fun w s₀ s₁ mg mb fa o pm cd doc a vs ns G Y ho hd hcd hmg hobj hints hlen hg => ?_
 have KX := hY w _ Y
 obtain ⟨fd, hb, hF⟩ := F w mg fa _ KX G.T.g hmg
 exact law_runs KX G.T.g G.T.b G.T.builtins G.T.nolimit G.T.bmain hg (hT w _ Y) (hK w) hobj hints hlen hr hF hb (good ns hlen)
def blW : W -> Option Bool
 | .bl b => some b
 | _ => none
def blsW (w : W) (ph : PH) : Option (List Bool) := if isL w ph = true then (seqW w ph).bind (mapO blW) else none
def anyW : List W -> Po W := fun xs ph => match xs with
 | [w] => (blsW w ph).map fun bs => (.bl (bs.any id), ph)
 | _ => none
def bothI (w : W) : Po (List W × (PH -> Bool)) := fun ph => match w with
 | .tup ws => some ((ws, fun _ => true), ph)
 | w => seqI w ph
def iBoth (m : EM) : IM := fun σ => bnd (m σ) fun w => lift (bothI w)
theorem tI_or {X : Cx} {m : EM} {σ : L2.St} {H : Hp} {R : It -> Hp -> Prop} (h : tI X (iBoth m) σ H R) : tI X (iSeq m) σ H R \/ tI X (iTupM m) σ H R := by
 obtain ⟨φ, ph, ws, hH, hS, h⟩ := h
 unfold iBoth at h
 rw [run_bnd] at h
 cases q : m ws ph with
 | no => rw [q] at h; exact h.elim
 | ex x ph' =>
  refine .inl ⟨φ, ph, ws, hH, hS, ?_⟩
  unfold iSeq
  rw [run_bnd, q]
  rw [q] at h
  exact h
 | ok w ph' =>
  rw [q] at h
  have h : (lift (bothI w) ph').Run _ _ := h
  by_cases hw : ∃ us, w = .tup us
  ·obtain ⟨us, rfl⟩ := hw
   refine .inr ⟨φ, ph, ws, hH, hS, ?_⟩
   unfold iTupM
   rw [run_bnd, q]
   exact h
  ·refine .inl ⟨φ, ph, ws, hH, hS, ?_⟩
   unfold iSeq
   rw [run_bnd, q]
   have e : bothI w = seqI w := by
    funext p
    cases w <;> first | rfl | exact absurd ⟨_, rfl⟩ hw
   rw [e] at h
   exact h
theorem ji_both {X : Cx} {tg e : Expr} {m : EM} (hl : JE X e m) : JI X tg e (iBoth m) := ⟨by
 intro pins s σ H R I h
 rcases tI_or h with h | h
 ·exact ii_list hl.h pins s σ H R I h
 ·exact ii_tup hl.h pins s σ H R I h⟩
section
variable {X : Cx} {pins : List (Addr × Obj)} {σ : L2.St} {H : Hp} {s : Shared} {h' : Heap}
theorem turnedT {t' : Nat} {fp : List Addr} {T : Addr} {o : HO} (I : Inv X pins σ H s) (k : ∀ b u, b ∉ fp -> s.heap.get? b = some u -> h'.get? b = some u) (hf : ∀ b ∈ fp, FpOk X pins H b) (hp : s.heap.objs.size <= T)
  (new : ObjOk X.prog X.w (upd H T o) h' T o) : Inv X pins σ (upd H T o) { s with heap := h', toks := t' } := by
 have hn := I.hok.fresh hp
 have neT : ∀ b u, s.heap.get? b = some u -> b ≠ T := fun b u e => Nat.ne_of_lt (Nat.lt_of_lt_of_le (Heap.lt_size e) hp)
 have nit : ∀ b u, H b = some u -> b ∉ fp := fun b u e z => by rw [(hf b z).1] at e; cases e
 refine I.step (g' := s.gens) (d' := s.drawn) (ch := fp) (fun b hb => ?_) (fun b u _ _ hc e _ => k b u hc e) (fun b u _ _ hc e _ => ⟨u.slots, k b u hc e⟩) (fun b u _ e n => by rw [upd_ne (neT b u e)]; exact n)
  (fun b u hc e => ⟨u, k b u hc e⟩) (fun b xs e => by rw [upd_ne (ne_of_none e hn)]; exact e) (fun b u v e => by rw [upd_ne (ne_of_none e hn)]; exact e) (fun b ps e => ⟨#[], by rw [upd_ne (ne_of_none e hn), e]; simp⟩) (fun m hm => ?_) (fun b u e => ?_) I.bare
 ·obtain ⟨_, f1, _, f3, f4, f5⟩ := hf b hb
  exact ⟨f3, f1, f4, f5⟩
 ·obtain ⟨u, es, ep, ho, r⟩ := hm
  exact ⟨u, es, ep, k _ u (fun z => (hf _ z).2.1 rfl) ho, r⟩
 ·by_cases hb : b = T
  ·subst hb; rw [upd_same] at e; cases e; exact new
  ·rw [upd_ne hb] at e
   refine (I.hok b u e).stay (fun c v hc q => k c v ?_ q) (fun c q => by rw [upd_ne (ne_of_none q hn)]; exact q) fun c xs q => by rw [upd_ne (ne_of_none q hn)]; exact q
   rcases hc with z | z
   ·rw [z]; exact nit b u e
   ·exact nit c _ z
theorem turnedN {t' : Nat} {fp : List Addr} (I : Inv X pins σ H s) (k : ∀ b u, b ∉ fp -> s.heap.get? b = some u -> h'.get? b = some u) (hf : ∀ b ∈ fp, FpOk X pins H b) : Inv X pins σ H { s with heap := h', toks := t' } := by
 have nit : ∀ b u, H b = some u -> b ∉ fp := fun b u e z => by rw [(hf b z).1] at e; cases e
 refine I.step (g' := s.gens) (d' := s.drawn) (ch := fp) (fun b hb => ?_) (fun b u _ _ hc e _ => k b u hc e) (fun b u _ _ hc e _ => ⟨u.slots, k b u hc e⟩) (fun b u _ e n => n)
  (fun b u hc e => ⟨u, k b u hc e⟩) (fun b xs e => e) (fun b u v e => e) (fun b ps e => ⟨#[], by rw [e]; simp⟩) (fun m hm => ?_) (fun b u e => ?_) I.bare
 ·obtain ⟨_, f1, _, f3, f4, f5⟩ := hf b hb
  exact ⟨f3, f1, f4, f5⟩
 ·obtain ⟨u, es, ep, ho, r⟩ := hm
  exact ⟨u, es, ep, k _ u (fun z => (hf _ z).2.1 rfl) ho, r⟩
 ·refine (I.hok b u e).stay (fun c v hc q => k c v ?_ q) (fun _ q => q) fun _ _ q => q
  rcases hc with z | z
  ·rw [z]; exact nit b u e
  ·exact nit c _ z
end
def Ite (K : PySem.W.Frag) (a : Addr) : It :=
 ⟨fun i H => ∃ xs x, SqL K H a xs /\ xs[i]? = some x, fun i H x H' => ∃ T y, x = .ref T /\ H T = none /\ H' = upd H T (.tup [.int (i : Int), y]) /\ ∀ xs, SqL K H a xs -> xs[i]? = some y, fun i H => ∃ xs, SqL K H a xs /\ xs.length <= i⟩
theorem turn_enum {P : Program} {w : World} {K : PySem.W.Frag} {elts : List Expr} {j : Nat} {pos : Pos} (a e it : Addr) (hei : e ≠ it) : Turn P w K (.Tuple elts j pos) (Ite K a) [e, it] e (fun i h => (∃ old, IsEnum h e it (i : Int) old) /\ h.IsListIter it a i) where
 mem := by simp
 obj := fun i h st b hb => by
  obtain ⟨⟨old, he⟩, o, e1, c, d⟩ := st
  rcases List.mem_cons.mp hb with rfl | hb
  ·exact ⟨_, he, fun v z => by cases z⟩
  ·have : b = it := by simpa using hb
   subst this
   exact ⟨o, e1, fun v z => by rw [d] at z; cases z⟩
 keep := fun i h h' st k => ⟨let ⟨old, he⟩ := st.1; ⟨old, k e (by simp) _ he⟩, st.2.at fun o q => k it (by simp) o q⟩
 item := by
  intro X hP hw hK hc i pins s σ H E I hf st hg
  subst hP hw hK
  obtain ⟨⟨old, he⟩, hit⟩ := st
  obtain ⟨xs, x, hq, hx⟩ := hg
  obtain ⟨its, rv, p, hz⟩ := I.list hq
  obtain ⟨u, hu, ru⟩ := rv.get hx
  refine wpAny_pyNext_enum_item he hit p.isList (x := u) (by simpa using hu) hei fun h1 ho hit' hT hsz hk => ⟨_, rfl, ?_⟩
  refine wpAny_letOwnedTupleGo_enum ho fun h2 he2 hs2 => ?_
  have kk : ∀ b o, b ∉ [e, it] -> s.heap.get? b = some o -> h2.get? b = some o := fun b o hb q => by
   have hb1 : b ≠ e := fun z => hb (by simp [z])
   have hb2 : b ≠ it := fun z => hb (by simp [z])
   exact (hs2.2 b hb1).trans (hk b o hb1 hb2 q)
  have hTe : s.heap.objs.size ≠ e := Nat.ne_of_gt (Heap.lt_size he)
  have new : ObjOk X.prog X.w (upd H s.heap.objs.size (.tup [.int (i : Int), x])) h2 s.heap.objs.size (.tup [.int (i : Int), x]) :=
   ⟨by show 2 <= sizeLine; decide, [.int (i : Int) s.toks, u], .cons ⟨_, rfl⟩ (.cons ru .nil), _, (hs2.2 _ hTe).trans hT, rfl, _, rfl⟩
  refine ⟨.ref s.heap.objs.size, _, turnedT (s := s) (h' := h2) (t' := s.toks + 1) I kk hf (Nat.le_refl _) new, rfl, ⟨_, x, rfl, I.hok.fresh (Nat.le_refl _), rfl, fun ys hy => by rw [I.list_inj hy hq]; exact hx⟩, ⟨⟨_, by simpa using he2⟩, hit'.at fun o q => (hs2.2 it hei.symm).trans q⟩, fun b hb => ?_⟩
  rw [upd_ne (fun z => ?_)]
  ·exact (hf b hb).1
  ·subst z
   rcases List.mem_cons.mp hb with z | z
   ·exact hTe z
   ·have z : s.heap.objs.size = it := by simpa using z
    obtain ⟨o, e1, _⟩ := hit
    exact Nat.ne_of_gt (Heap.lt_size e1) z
 done := by
  intro X hP hw hK hc i pins s σ H E I hf st hg
  subst hP hw hK
  obtain ⟨⟨old, he⟩, hit⟩ := st
  obtain ⟨xs, hq, hx⟩ := hg
  obtain ⟨its, rv, p, hz⟩ := I.list hq
  have hl := rv.length
  exact wpAny_pyNext_enum_end (I.ok.hd hc) he hit p.isList (by simp; omega) fun h1 eb => ⟨rfl, turnedN (t' := s.toks) I (fun b o hb q => eb b o (fun z => hb (by simp [z])) q) hf⟩
 self := fun _ _ _ _ _ st h => let ⟨_, he⟩ := st.1; wpAny_pyIter_enum he h
def iEnL (K : PySem.W.Frag) (ta : TA) : TI := fun σ H R => ta σ H fun vs H1 => ∃ a, vs = [.ref a] /\ (∃ xs, SqL K H1 a xs) /\ R (Ite K a) H1
theorem pi_enum {X : Cx} {a : Expr} {ta : TA} {elts : List Expr} {j : Nat} {tp p pos : Pos} (hg : Gl X "enumerate") (hm : X.mg "enumerate" = none) (ha : PA X [a] ta) (hs : starEach [a] X.env = [(false, eval a X.env)] := by rfl) :
  PI X (.Tuple elts j tp) (.Call (.Name "enumerate" p) [a] [] pos) (iEnL X.K ta) := by
 intro pins s σ H R I h
 refine Call_ (ld_blt I hg hm PyProof.Rows.boot_enumerate (PyProof.Rows.callWith_type1 (thn (ha pos pins s σ H _ I h) fun us s1 ⟨vs, H1, I1, r1, q1⟩ => ?_) hs rfl))
 obtain ⟨a, e, ⟨xs, hq⟩, q⟩ := q1
 subst e
 cases r1 with
 | cons r rr =>
  cases rr
  cases r
  obtain ⟨its, rv, pl, hz⟩ := I1.list hq
  refine call_enumerate_list pl.isList fun h' he hit hsz hk => ?_
  refine wpAny_pyIter_enum he ?_
  have I2 : Inv X pins σ H1 { s1 with heap := h' } := I1.kept (t' := s1.toks) hk
  refine ⟨s1.heap.objs.size + 1, [s1.heap.objs.size + 1, s1.heap.objs.size], _, _, H1, rfl, I2, turn_enum a _ _ (Nat.succ_ne_self _), ⟨⟨_, by simpa using he⟩, hit⟩, fun b hb => ?_, q⟩
  have hb : s1.heap.objs.size <= b := by
   rcases List.mem_cons.mp hb with rfl | hb
   ·exact Nat.le_succ _
   ·have : b = s1.heap.objs.size := by simpa using hb
    exact Nat.le_of_eq this.symm
  exact I1.fpOk hb (I1.hok.fresh hb)
def enumL (ws : List W) : List W := (List.range ws.length).map fun (i : Nat) => .tup [.int ((i : Nat) : Int), ws.getD i .non]
def enumI (xs : List W) : Po (List W × (PH -> Bool)) := fun ph => match xs with
 | [w] => (seqI w ph).map fun r => ((enumL r.1.1, r.1.2), r.2)
 | _ => none
def iEnum (m : AM) : IM := fun σ => bnd (m σ) fun xs => lift (enumI xs)
theorem enumL_get {ws : List W} {i : Nat} {w : W} (h : (enumL ws)[i]? = some w) : ∃ x, ws[i]? = some x /\ w = .tup [.int (i : Int), x] := by
 unfold enumL at h
 rw [List.getElem?_map] at h
 cases q : (List.range ws.length)[i]? with
 | none => rw [q] at h; cases h
 | some k =>
  rw [q] at h
  obtain ⟨hi, e⟩ := List.getElem?_eq_some_iff.mp q
  rw [List.getElem_range] at e
  subst e
  rw [List.length_range] at hi
  cases h
  exact ⟨ws[i], by simp [hi], by simp [hi]⟩
theorem enumL_none {ws : List W} {i : Nat} (h : (enumL ws)[i]? = none) : ws.length <= i := by
 unfold enumL at h
 simpa using h
theorem ii_enum {X : Cx} {a : Expr} {am : AM} {elts : List Expr} {j : Nat} {tp p pos : Pos} (hg : Gl X "enumerate") (hm : X.mg "enumerate" = none) (ha : IA X [a] am) (hs : starEach [a] X.env = [(false, eval a X.env)] := by rfl) :
  II X (.Tuple elts j tp) (.Call (.Name "enumerate" p) [a] [] pos) (iEnum am) := by
 refine PI.imp (pi_enum hg hm ha hs) fun σ H R h => ?_
 obtain ⟨φ, ph, ws, hH, hS, h⟩ := h
 refine tA.bind hH hS h fun xs ph1 φ1 H1 vs hH1 s1 r1 h => ?_
 obtain ⟨r, ph', e, k⟩ := run_lift h
 unfold enumI at e
 split at e
 ·rename_i w
  cases r1 with
  | cons r1 rr =>
   cases rr
   unfold seqI at e
   cases r1 with
   | ref hi =>
    rename_i i
    simp only at e
    cases q : ph1[i]? with
    | none => rw [q] at e; cases e
    | some o =>
     cases o with
     | dct _ => rw [q] at e; cases e
     | obj _ _ => rw [q] at e; cases e
     | fdc _ => rw [q] at e; cases e
     | udc _ => rw [q] at e; cases e
     | lst items =>
      rw [q] at e
      simp only [Option.map_some] at e
      cases e
      obtain ⟨vs, hv, r⟩ := hH1.hp _ _ q
      refine ⟨_, rfl, ⟨vs, SqL.of hv⟩, k φ1 H1 _ hH1 s1 ?_⟩
      intro φ2 ph2 H2 hH2 s2 hc j
      have hc' : ph2[i]? = some (.lst items) := of_decide_eq_true hc
      obtain ⟨us, hu, ru⟩ := hH2.hp _ _ hc'
      rw [s2.eq i hi] at hu
      refine ⟨fun w hw2 => ?_, fun hn => ?_⟩
      ·obtain ⟨x, hx, rfl⟩ := enumL_get hw2
       obtain ⟨u, eu, ru'⟩ := ru.get hx
       refine ⟨⟨us, u, SqL.of hu, eu⟩, fun y H'' hy => ?_⟩
       obtain ⟨T, z, rfl, hT, rfl, hy⟩ := hy
       have := hy us (SqL.of hu)
       rw [eu] at this; cases this
       exact ⟨hH2.tup hT, step_tup hT, .tup upd_same (.cons (.int _) (.cons (ru'.mono (step_tup hT)) .nil))⟩
      ·refine ⟨us, SqL.of hu, ?_⟩
       rw [<- ru.length]
       exact enumL_none hn
   | fl hq r =>
    simp only [Option.map_some] at e
    cases e
    refine ⟨_, rfl, ⟨_, hq.sq⟩, k φ1 H1 _ hH1 s1 ?_⟩
    intro φ2 ph2 H2 hH2 s2 hc j
    have h2 := RelW.mono s2 (.fl hq r)
    cases h2 with
    | fl h2 r2 =>
     refine ⟨fun w hw2 => ?_, fun hn => ?_⟩
     ·obtain ⟨x, hx, rfl⟩ := enumL_get hw2
      obtain ⟨u, eu, ru'⟩ := r2.get hx
      refine ⟨⟨_, u, h2.sq, eu⟩, fun y H'' hy => ?_⟩
      obtain ⟨T, z, rfl, hT, rfl, hy⟩ := hy
      have := hy _ h2.sq
      rw [eu] at this; cases this
      exact ⟨hH2.tup hT, step_tup hT, .tup upd_same (.cons (.int _) (.cons (ru'.mono (step_tup hT)) .nil))⟩
     ·refine ⟨_, h2.sq, ?_⟩
      rw [<- r2.length]
      exact enumL_none hn
   | _ => cases e
 ·cases e
theorem ji_enum {X : Cx} {a : Expr} {am : AM} {elts : List Expr} {j : Nat} {tp p pos : Pos} (hg : Gl X "enumerate") (hm : X.mg "enumerate" = none) (hn : isStar a = false) (ha : JA X [a] am) :
  JI X (.Tuple elts j tp) (.Call (.Name "enumerate" p) [a] [] pos) (iEnum am) := ⟨ii_enum hg hm ha.h (star_cons hn)⟩
theorem swaps_yes {env : Env} {e : Expr} {gens : List Comprehension} {scope : Scope} {p pos' : Pos} {x : Str} {line : Nat} (hk : env.scope.kind = .function) (hx : env.scope.names.lookup x = some .local) (hl : (pos'.line == p.line) = true)
  (hn : (scope.names.any fun y => y.1 == x && (y.2 == .local || y.2 == .cell)) = false) : swapsWith (.ListComp e gens scope p) (some (.Name x pos')) line env = pure true := by
 have e1 : (env.kindOf x == some .local) = true := by unfold Env.kindOf; rw [hx]; rfl
 have e2 : (env.blockKind == .function) = true := by unfold Env.blockKind; rw [hk]; rfl
 show pure (env.blockKind == .function && env.kindOf x == some .local && pos'.line == p.line && !(scope.names.any fun y => y.1 == x && (y.2 == .local || y.2 == .cell))) = _
 rw [e1, e2, hl, hn]
 rfl
def newD : Po W := fun ph => some (.ref ph.length, ph ++ [.dct []])
def eDct : EM := fun _ => lift newD
theorem new_dict {K : PySem.W.Frag} {φ : Nat -> Addr} {ph : PH} {H : Hp} {p : Addr} (hH : RelH K φ ph H) (hp : H p = none) :
  RelH K (ext φ ph.length p) (ph ++ [.dct []]) (upd H p (.dK [])) /\ Step K φ ph.length H (ext φ ph.length p) (ph ++ [PO.dct []]).length (upd H p (.dK [])) /\ RelW K (ext φ ph.length p) (ph ++ [PO.dct []]).length (upd H p (.dK [])) (.ref ph.length) (.ref p) := by
 have hl : (ph ++ [PO.dct []]).length = ph.length + 1 := by simp
 rw [hl]
 have s := step_new (K := K) (φ := φ) (n := ph.length) (o := HO.dK []) hp
 refine ⟨hH.new hp (.inl ⟨[], upd_same, .nil⟩), s, ?_⟩
 have q : RelW K (ext φ ph.length p) (ph.length + 1) (upd H p (.dK [])) (.ref ph.length) (.ref (ext φ ph.length p ph.length)) := .ref (Nat.lt_succ_self _)
 rw [ext_eq] at q
 exact q
theorem je_dct {X : Cx} {pos : Pos} : JE X (.Dict [] [] pos) eDct := ⟨PE.imp pe_dnewK fun σ H Q h p hp => by
 obtain ⟨φ, ph, ws, hH, hS, h⟩ := h
 obtain ⟨w, ph', e, k⟩ := run_lift h
 cases e
 obtain ⟨q1, q2, q3⟩ := new_dict hH hp
 exact k _ _ _ q1 q2 q3⟩
theorem keyW_inj {a b : Key} (h : keyW a = keyW b) : a = b := by
 cases a <;> cases b <;> simp_all [keyW]
theorem keyWs_inj : ∀ {a b : List Key}, a.map keyW = b.map keyW -> a = b
 | [], [], _ => rfl
 | [], _ :: _, e => by simp at e
 | _ :: _, [], e => by simp at e
 | x :: xs, y :: ys, e => by
  rw [List.map_cons, List.map_cons] at e
  injection e with e1 e2
  rw [keyW_inj e1, keyWs_inj e2]
def keyK : W -> Option Key
 | .int i => some (.inl i)
 | .str x => some (.inr x)
 | _ => none
def keyT : W -> Option (List Key)
 | .tup ws => mapO keyK ws
 | _ => none
theorem keyK_eq {w : W} {k : Key} (h : keyK w = some k) : w = keyW k := by
 cases w <;> simp only [keyK] at h <;> first | (cases h; done) | (cases h; rfl)
theorem keyKs_eq : ∀ {ws : List W} {ks : List Key}, mapO keyK ws = some ks -> ws = ks.map keyW
 | [], ks, h => by cases h; rfl
 | w :: ws, ks, h => by
  unfold mapO at h
  split at h
  ·rename_i b bs e1 e2
   cases h
   rw [keyK_eq e1, keyKs_eq e2]; rfl
  ·cases h
theorem keyT_eq {w : W} {ks : List Key} (h : keyT w = some ks) : w = .tup (ks.map keyW) := by
 cases w <;> simp only [keyT] at h <;> first | (cases h; done) | rw [keyKs_eq h]
theorem key_v {K : PySem.W.Frag} {φ : Nat -> Addr} {n : Nat} {H : Hp} {k : Key} {v : V} (r : RelW K φ n H (keyW k) v) : v = kV k := by
 cases k with
 | inl i => cases r; rfl
 | inr x => cases r; rfl
theorem keys_v {K : PySem.W.Frag} {φ : Nat -> Addr} {n : Nat} {H : Hp} : ∀ {ks : List Key} {vs : List V}, RelWs K φ n H (ks.map keyW) vs -> vs = ks.map kV
 | [], _, r => by cases r; rfl
 | k :: ks, _, r => by
  cases r with
  | cons h r => rw [key_v h, keys_v r]; rfl
theorem keyt_v {K : PySem.W.Frag} {φ : Nat -> Addr} {n : Nat} {H : Hp} {ks : List Key} {v : V} (r : RelW K φ n H (.tup (ks.map keyW)) v) : ∃ b, v = .ref b /\ H b = some (.tup (ks.map kV)) := by
 cases r with
 | tup h r => rw [keys_v r] at h; exact ⟨_, rfl, h⟩
def dgetW (kws : List (W × W)) (k : W) : Option W := (kws.find? fun p => decide (p.1 = k)).map (·.2)
def dputW (kws : List (W × W)) (k w : W) : List (W × W) := if (kws.any fun p => decide (p.1 = k)) = true then kws.map (fun p => if p.1 = k then (p.1, w) else p) else kws ++ [(k, w)]
def ROpt (K : PySem.W.Frag) (φ : Nat -> Addr) (n : Nat) (H : Hp) : Option W -> Option V -> Prop
 | none, none => True
 | some w, some v => RelW K φ n H w v
 | _, _ => False
section
variable {K : PySem.W.Frag} {φ : Nat -> Addr} {n : Nat} {H : Hp}
theorem dec_eq {a b : Key} : decide (keyW a = keyW b) = decide (a = b) := by
 rw [decide_eq_decide]; exact ⟨keyW_inj, fun e => by rw [e]⟩
theorem decT_eq {a b : List Key} : decide (W.tup (a.map keyW) = W.tup (b.map keyW)) = decide (a = b) := by
 rw [decide_eq_decide]; exact ⟨fun e => keyWs_inj (W.tup.inj e), fun e => by rw [e]⟩
theorem RelD.val (k : Key) : ∀ {kws : List (W × W)} {kvs : List (Key × V)}, RelD K φ n H kws kvs -> ROpt K φ n H (dgetW kws (keyW k)) (valV kvs k)
 | _, _, .nil => trivial
 | _, _, .cons (k := j) (w := w) (v := v) h r => by
  unfold dgetW
  rw [List.find?_cons]
  by_cases e : j = k
  ·rw [decide_eq_true (congrArg keyW e), valV_pos (p := (j, v)) e]; exact h
  ·rw [decide_eq_false (fun z => e (keyW_inj z)), valV_neg (p := (j, v)) e]
   exact RelD.val k r
theorem RelT.val (k : List Key) : ∀ {kws : List (W × W)} {kvs : List (List Key × V)}, RelT K φ n H kws kvs -> ROpt K φ n H (dgetW kws (.tup (k.map keyW))) (valV kvs k)
 | _, _, .nil => trivial
 | _, _, .cons (k := j) (w := w) (v := v) h r => by
  unfold dgetW
  rw [List.find?_cons]
  by_cases e : j = k
  ·rw [decide_eq_true (by rw [e]), valV_pos (p := (j, v)) e]; exact h
  ·rw [decide_eq_false (fun z => e (keyWs_inj (W.tup.inj z))), valV_neg (p := (j, v)) e]
   exact RelT.val k r
theorem RelD.len : ∀ {kws : List (W × W)} {kvs : List (Key × V)}, RelD K φ n H kws kvs -> kws.length = kvs.length
 | _, _, .nil => rfl
 | _, _, .cons _ r => by rw [List.length_cons, List.length_cons, RelD.len r]
theorem RelT.len : ∀ {kws : List (W × W)} {kvs : List (List Key × V)}, RelT K φ n H kws kvs -> kws.length = kvs.length
 | _, _, .nil => rfl
 | _, _, .cons _ r => by rw [List.length_cons, List.length_cons, RelT.len r]
theorem RelD.any (k : Key) : ∀ {kws : List (W × W)} {kvs : List (Key × V)}, RelD K φ n H kws kvs -> (kws.any fun p => decide (p.1 = keyW k)) = kvs.any fun p => decide (p.1 = k)
 | _, _, .nil => rfl
 | _, _, .cons (k := j) _ r => by
  rw [List.any_cons, List.any_cons, RelD.any k r]
  show (decide (keyW j = keyW k) || _) = (decide (j = k) || _)
  rw [dec_eq]
theorem RelT.any (k : List Key) : ∀ {kws : List (W × W)} {kvs : List (List Key × V)}, RelT K φ n H kws kvs -> (kws.any fun p => decide (p.1 = .tup (k.map keyW))) = kvs.any fun p => decide (p.1 = k)
 | _, _, .nil => rfl
 | _, _, .cons (k := j) _ r => by
  rw [List.any_cons, List.any_cons, RelT.any k r]
  show (decide (W.tup (j.map keyW) = W.tup (k.map keyW)) || _) = (decide (j = k) || _)
  rw [decT_eq]
theorem RelD.repl (k : Key) {w : W} {v : V} (q : RelW K φ n H w v) : ∀ {kws : List (W × W)} {kvs : List (Key × V)}, RelD K φ n H kws kvs -> RelD K φ n H (kws.map fun p => if p.1 = keyW k then (p.1, w) else p) (kvs.map fun p => if p.1 = k then (p.1, v) else p)
 | _, _, .nil => .nil
 | _, _, .cons (k := j) h r => by
  rw [List.map_cons, List.map_cons]
  by_cases e : j = k
  ·rw [if_pos (show keyW j = keyW k by rw [e]), if_pos (show j = k from e)]; exact .cons q (RelD.repl k q r)
  ·rw [if_neg (show ¬ keyW j = keyW k from fun z => e (keyW_inj z)), if_neg (show ¬ j = k from e)]; exact .cons h (RelD.repl k q r)
theorem RelT.repl (k : List Key) {w : W} {v : V} (q : RelW K φ n H w v) : ∀ {kws : List (W × W)} {kvs : List (List Key × V)}, RelT K φ n H kws kvs -> RelT K φ n H (kws.map fun p => if p.1 = .tup (k.map keyW) then (p.1, w) else p) (kvs.map fun p => if p.1 = k then (p.1, v) else p)
 | _, _, .nil => .nil
 | _, _, .cons (k := j) h r => by
  rw [List.map_cons, List.map_cons]
  by_cases e : j = k
  ·rw [if_pos (show W.tup (j.map keyW) = W.tup (k.map keyW) by rw [e]), if_pos (show j = k from e)]; exact .cons q (RelT.repl k q r)
  ·rw [if_neg (show ¬ W.tup (j.map keyW) = W.tup (k.map keyW) from fun z => e (keyWs_inj (W.tup.inj z))), if_neg (show ¬ j = k from e)]; exact .cons h (RelT.repl k q r)
theorem RelD.snoc (k : Key) {w : W} {v : V} (q : RelW K φ n H w v) : ∀ {kws : List (W × W)} {kvs : List (Key × V)}, RelD K φ n H kws kvs -> RelD K φ n H (kws ++ [(keyW k, w)]) (kvs ++ [(k, v)])
 | _, _, .nil => .cons q .nil
 | _, _, .cons h r => .cons h (RelD.snoc k q r)
theorem RelT.snoc (k : List Key) {w : W} {v : V} (q : RelW K φ n H w v) : ∀ {kws : List (W × W)} {kvs : List (List Key × V)}, RelT K φ n H kws kvs -> RelT K φ n H (kws ++ [(.tup (k.map keyW), w)]) (kvs ++ [(k, v)])
 | _, _, .nil => .cons q .nil
 | _, _, .cons h r => .cons h (RelT.snoc k q r)
theorem RelD.put (k : Key) {w : W} {v : V} (q : RelW K φ n H w v) {kws : List (W × W)} {kvs : List (Key × V)} (r : RelD K φ n H kws kvs) : RelD K φ n H (dputW kws (keyW k) w) (putK kvs k v) := by
 unfold dputW putK
 rw [r.any k]
 by_cases e : (kvs.any fun kv => decide (kv.1 = k)) = true
 ·rw [if_pos e, if_pos e]; exact r.repl k q
 ·rw [if_neg e, if_neg e]; exact r.snoc k q
theorem RelT.put (k : List Key) {w : W} {v : V} (q : RelW K φ n H w v) {kws : List (W × W)} {kvs : List (List Key × V)} (r : RelT K φ n H kws kvs) : RelT K φ n H (dputW kws (.tup (k.map keyW)) w) (putK kvs k v) := by
 unfold dputW putK
 rw [r.any k]
 by_cases e : (kvs.any fun kv => decide (kv.1 = k)) = true
 ·rw [if_pos e, if_pos e]; exact r.repl k q
 ·rw [if_neg e, if_neg e]; exact r.snoc k q
end
section
variable {X : Cx} {pins : List (Addr × Obj)} {σ : L2.St} {H : Hp} {s : Shared} {a : Addr}
theorem inv_kt (I : Inv X pins σ H s) (e : H a = some (.dK [])) : Inv X pins σ (upd H a (.dT [])) s := by
 obtain ⟨z, hd, vs, rel, o, es, ep, h1, h2, h3, h4, h5, h6⟩ := dk_of I.hok e
 cases rel
 have he : es.toList = [] := by
  generalize es.toList = l at h5
  cases h5; rfl
 exact I.write (x := a) (e := a) (h' := s.heap) (t' := s.toks) (o := .dT []) (by rw [e]; trivial) (.inl rfl) (fun _ _ _ q => q) ⟨o, h1⟩ ⟨Nat.zero_le _, hd, [], .nil, o, es, ep, h1, h2, h3, by rw [he]; rfl, List.nodup_nil⟩
theorem inv_tk (I : Inv X pins σ H s) (e : H a = some (.dT [])) : Inv X pins σ (upd H a (.dK [])) s := by
 obtain ⟨z, hd, xs, rel, o, es, ep, h1, h2, h3, h4, h5, h6⟩ := dt_of I.hok e
 cases rel
 have he : es = #[] := by
  have : es.toList = [] := h4
  simpa using this
 subst he
 exact I.write (x := a) (e := a) (h' := s.heap) (t' := s.toks) (o := .dK []) (by rw [e]; trivial) (.inl rfl) (fun _ _ _ q => q) ⟨o, h1⟩ ⟨Nat.zero_le _, hd, [], .nil, o, #[], ep, h1, h2, h3, fun x hx => by simp at hx, .nil, List.nodup_nil⟩
theorem upd_back {o u : HO} (e : H a = some o) : upd (upd H a u) a o = H := by
 rw [upd_upd]
 funext b
 unfold upd
 split
 ·rename_i q; rw [q, e]
 ·rfl
end
def DGetE (H : Hp) (a : Addr) (y : V) (o : Option V) : Prop := DGet H a y o \/ (o = none /\ ((H a = some (.dK []) /\ ∃ (k : List Key) (b : Addr), y = .ref b /\ H b = some (.tup (k.map kV))) \/ (H a = some (.dT []) /\ ∃ k : Key, y = kV k)))
def DPutE (H : Hp) (a : Addr) (y v : V) (H' : Hp) : Prop := DPut H a y v H' \/ (H a = some (.dK []) /\ ∃ (k : List Key) (b : Addr), y = .ref b /\ H b = some (.tup (k.map kV)) /\ H' = upd H a (.dT [(k, v)])) \/ (H a = some (.dT []) /\ ∃ k : Key, y = kV k /\ H' = upd H a (.dK [(k, v)]))
section
variable {X : Cx}
theorem op_din (hu : X.A.units + 1 < cLine) : OpR X (compareOp .In) (fun y x H Q => ∃ a o, x = .ref a /\ DGetE H a y o /\ Q (.bl o.isSome) H) := by
 intro pins s σ H y x u v Q I ry rx h
 obtain ⟨a, o, rfl, g, q⟩ := h
 cases rx
 rcases g with g | ⟨rfl, ⟨e, k, b, ey, eb⟩ | ⟨e, k, ey⟩⟩
 ·exact d_in hu I g ry fun s3 I3 => ⟨.bl o.isSome, H, I3, rfl, q⟩
 ·subst ey
  have g : DGet (upd H a (.dT [])) a (.ref b) none := .inr ⟨[], k, b, .inl upd_same, rfl, by rw [upd_ne (ne_of eb e (fun z => nomatch z))]; exact eb, rfl⟩
  exact d_in hu (inv_kt I e) g ry fun s3 I3 => ⟨.bl false, H, by have := inv_tk I3 upd_same; rwa [upd_back e] at this, rfl, q⟩
 ·subst ey
  have g : DGet (upd H a (.dK [])) a (kV k) none := .inl ⟨[], k, .inl upd_same, rfl, rfl⟩
  exact d_in hu (inv_tk I e) g ry fun s3 I3 => ⟨.bl false, H, by have := inv_kt I3 upd_same; rwa [upd_back e] at this, rfl, q⟩
theorem op_dnin (hu : X.A.units + 1 < cLine) : OpR X (compareOp .NotIn) (fun y x H Q => ∃ a o, x = .ref a /\ DGetE H a y o /\ Q (.bl (!o.isSome)) H) := by
 intro pins s σ H y x u v Q I ry rx h
 obtain ⟨a, o, rfl, g, q⟩ := h
 cases rx
 rcases g with g | ⟨rfl, ⟨e, k, b, ey, eb⟩ | ⟨e, k, ey⟩⟩
 ·exact d_notIn hu I g ry fun s3 I3 => ⟨.bl (!o.isSome), H, I3, rfl, q⟩
 ·subst ey
  have g : DGet (upd H a (.dT [])) a (.ref b) none := .inr ⟨[], k, b, .inl upd_same, rfl, by rw [upd_ne (ne_of eb e (fun z => nomatch z))]; exact eb, rfl⟩
  exact d_notIn hu (inv_kt I e) g ry fun s3 I3 => ⟨.bl true, H, by have := inv_tk I3 upd_same; rwa [upd_back e] at this, rfl, q⟩
 ·subst ey
  have g : DGet (upd H a (.dK [])) a (kV k) none := .inl ⟨[], k, .inl upd_same, rfl, rfl⟩
  exact d_notIn hu (inv_tk I e) g ry fun s3 I3 => ⟨.bl true, H, by have := inv_kt I3 upd_same; rwa [upd_back e] at this, rfl, q⟩
theorem set_dict (hu : X.A.units + 1 < cLine) : PSet X (fun o i v H Q => ∃ a H', o = .ref a /\ DPutE H a i v H' /\ Q H') := by
 intro pins s σ H o i v ov iv u Q I ro ri rv h
 obtain ⟨a, H', rfl, g, q⟩ := h
 cases ro
 rcases g with g | ⟨e, k, b, ey, eb, eH⟩ | ⟨e, k, ey, eH⟩
 ·exact d_setItem hu I g ri rv fun s3 I3 => ⟨H', I3, q⟩
 ·subst ey eH
  have g : DPut (upd H a (.dT [])) a (.ref b) v (upd (upd H a (.dT [])) a (.dT (putK [] k v))) := .inr ⟨[], k, b, upd_same, rfl, by rw [upd_ne (ne_of eb e (fun z => nomatch z))]; exact eb, by decide, rfl⟩
  refine d_setItem hu (inv_kt I e) g ri rv fun s3 I3 => ⟨_, ?_, q⟩
  rw [upd_upd] at I3
  exact I3
 ·subst ey eH
  have g : DPut (upd H a (.dK [])) a (kV k) v (upd (upd H a (.dK [])) a (.dK (putK [] k v))) := .inl ⟨[], k, upd_same, rfl, by decide, rfl⟩
  refine d_setItem hu (inv_tk I e) g ri rv fun s3 I3 => ⟨_, ?_, q⟩
  rw [upd_upd] at I3
  exact I3
theorem ix_dict (hu : X.A.units + 1 < cLine) : IxR X (fun x y H Q => ∃ a v, x = .ref a /\ DGet H a y (some v) /\ Q v H) := by
 intro value slice pins s σ H x y v u Q I rx ry h hs
 obtain ⟨a, w, rfl, g, q⟩ := h
 cases rx
 have hT := dict_typeIs I g
 unfold subscriptTail
 refine wpAny_bind ?_
 rw [getitemInPython_of_ne hT.not_modules]
 refine wpAny_bind (wpAny_specialOf hT PySem.F.slot_dict_getitem.lookup ?_)
 have fin : wpAny (model X.prog X.w) X.A (subscripted slice false (.ref a) u) (fun r s₃ => wpAny (model X.prog X.w) X.A (letTemporaryGo value (.ref a) r >>= fun _ => pure r) (EP X pins σ Q) X.xe s₃) X.xe s := by
  rw [hs]
  exact wpAny_operating (d_getItem hu I g ry fun w' s3 I3 rw' => wpAny_bind (wpAny_letTemporaryGo (wpAny_pure ⟨w, H, I3, rw', q⟩)))
 first
  | exact wpAny_pure (wpAny_bind fin)
  | exact wpAny_bind (wpAny_pure (wpAny_bind fin))
  | exact wpAny_bind fin
end
def isT : W -> Bool
 | .tup _ => true
 | _ => false
def okKey (kws : List (W × W)) (x : W) : Bool := ((keyK x).isSome && kws.all fun p => !isT p.1) || ((keyT x).isSome && kws.all fun p => isT p.1)
def dctAt (y : W) (ph : PH) : Option (Nat × List (W × W)) := match y with
 | .ref i => match ph[i]? with
  | some (.dct kws) => some (i, kws)
  | _ => none
 | _ => none
section
variable {K : PySem.W.Frag} {φ : Nat -> Addr} {ph : PH} {H : Hp}
theorem RelD.noT {kws : List (W × W)} {kvs : List (Key × V)} {n : Nat} (r : RelD K φ n H kws kvs) (h : kws.all (fun p => isT p.1) = true) : kws = [] /\ kvs = [] := by
 cases r with
 | nil => exact ⟨rfl, rfl⟩
 | cons h' r =>
  rename_i k w v kws kvs
  rw [List.all_cons] at h
  have : isT (keyW k) = true := by simp only [Bool.and_eq_true] at h; exact h.1
  cases k <;> cases this
theorem RelT.allT {kws : List (W × W)} {kvs : List (List Key × V)} {n : Nat} (r : RelT K φ n H kws kvs) (h : kws.all (fun p => !isT p.1) = true) : kws = [] /\ kvs = [] := by
 cases r with
 | nil => exact ⟨rfl, rfl⟩
 | cons h' r =>
  rw [List.all_cons] at h
  have h := (Bool.and_eq_true _ _ ▸ h).1
  cases h
theorem dctAt_rel {y : W} {v : V} {i : Nat} {kws : List (W × W)} (hH : RelH K φ ph H) (r : RelW K φ ph.length H y v) (e : dctAt y ph = some (i, kws)) : y = .ref i /\ i < ph.length /\ ph[i]? = some (.dct kws) /\ v = .ref (φ i) := by
 unfold dctAt at e
 cases r with
 | ref hi =>
  simp only at e
  split at e
  ·rename_i kws' hw
   cases e
   exact ⟨rfl, hi, hw, rfl⟩
  ·cases e
 | _ => cases e
theorem dget_rel {i : Nat} {kws : List (W × W)} {x : W} {v : V} (hH : RelH K φ ph H) (hd : ph[i]? = some (.dct kws)) (r : RelW K φ ph.length H x v) (hk : okKey kws x = true) : ∃ o, DGetE H (φ i) v o /\ ROpt K φ ph.length H (dgetW kws x) o := by
 unfold okKey at hk
 rw [Bool.or_eq_true, Bool.and_eq_true, Bool.and_eq_true] at hk
 rcases hk with ⟨h1, h2⟩ | ⟨h1, h2⟩
 ·obtain ⟨k, hk⟩ := Option.isSome_iff_exists.mp h1
  have := keyK_eq hk
  subst this
  have := key_v r
  subst this
  rcases hH.hp _ _ hd with ⟨kvs, q, rd⟩ | ⟨kvs, q, rd⟩
  ·exact ⟨_, .inl (.inl ⟨kvs, k, .inl q, rfl, rfl⟩), rd.val k⟩
  ·obtain ⟨rfl, rfl⟩ := rd.allT h2
   exact ⟨none, .inr ⟨rfl, .inr ⟨q, k, rfl⟩⟩, trivial⟩
 ·obtain ⟨ks, hk⟩ := Option.isSome_iff_exists.mp h1
  have := keyT_eq hk
  subst this
  obtain ⟨b, rfl, hb⟩ := keyt_v r
  rcases hH.hp _ _ hd with ⟨kvs, q, rd⟩ | ⟨kvs, q, rd⟩
  ·obtain ⟨rfl, rfl⟩ := rd.noT h2
   exact ⟨none, .inr ⟨rfl, .inl ⟨q, ks, b, rfl, hb⟩⟩, trivial⟩
  ·exact ⟨_, .inl (.inr ⟨kvs, ks, b, .inl q, rfl, hb, rfl⟩), rd.val ks⟩
theorem dput_rel {i : Nat} {kws : List (W × W)} {x w : W} {v u : V} (hH : RelH K φ ph H) (hi : i < ph.length) (hd : ph[i]? = some (.dct kws)) (r : RelW K φ ph.length H x v) (rw : RelW K φ ph.length H w u) (hk : okKey kws x = true) (hz : kws.length < sizeLine) :
  ∃ H', DPutE H (φ i) v u H' /\ RelH K φ (ph.set i (.dct (dputW kws x w))) H' /\ Step K φ ph.length H φ (ph.set i (.dct (dputW kws x w))).length H' := by
 obtain ⟨y, ey, my⟩ := hH.mu hd rfl
 rw [List.length_set]
 unfold okKey at hk
 rw [Bool.or_eq_true, Bool.and_eq_true, Bool.and_eq_true] at hk
 rcases hk with ⟨h1, h2⟩ | ⟨h1, h2⟩
 ·obtain ⟨k, hk⟩ := Option.isSome_iff_exists.mp h1
  have := keyK_eq hk
  subst this
  have := key_v r
  subst this
  rcases hH.hp _ _ hd with ⟨kvs, q, rd⟩ | ⟨kvs, q, rd⟩
  ·have s := step_set (K := K) (φ := φ) (n := ph.length) (y := HO.dK (putK kvs k u)) ey my
   exact ⟨_, .inl (.inl ⟨kvs, k, q, rfl, by rw [<- rd.len]; exact hz, rfl⟩), hH.put hd rfl (.inl ⟨_, upd_same, (rd.put k rw).mono s⟩), s⟩
  ·obtain ⟨rfl, rfl⟩ := rd.allT h2
   have s := step_set (K := K) (φ := φ) (n := ph.length) (y := HO.dK [(k, u)]) ey my
   exact ⟨_, .inr (.inr ⟨q, k, rfl, rfl⟩), hH.put hd rfl (.inl ⟨_, upd_same, ((RelD.nil).put k rw).mono s⟩), s⟩
 ·obtain ⟨ks, hk⟩ := Option.isSome_iff_exists.mp h1
  have := keyT_eq hk
  subst this
  obtain ⟨b, rfl, hb⟩ := keyt_v r
  rcases hH.hp _ _ hd with ⟨kvs, q, rd⟩ | ⟨kvs, q, rd⟩
  ·obtain ⟨rfl, rfl⟩ := rd.noT h2
   have s := step_set (K := K) (φ := φ) (n := ph.length) (y := HO.dT [(ks, u)]) ey my
   exact ⟨_, .inr (.inl ⟨q, ks, b, rfl, hb, rfl⟩), hH.put hd rfl (.inr ⟨_, upd_same, ((RelT.nil).put ks rw).mono s⟩), s⟩
  ·have s := step_set (K := K) (φ := φ) (n := ph.length) (y := HO.dT (putK kvs ks u)) ey my
   exact ⟨_, .inl (.inr ⟨kvs, ks, b, q, rfl, hb, by rw [<- rd.len]; exact hz, rfl⟩), hH.put hd rfl (.inr ⟨_, upd_same, (rd.put ks rw).mono s⟩), s⟩
end
def inV : W -> W -> Po W := fun x y ph => match dctAt y ph with
 | some p => if okKey p.2 x = true then some (.bl (dgetW p.2 x).isSome, ph) else none
 | none => inW x y ph
def ninV : W -> W -> Po W := fun x y ph => match dctAt y ph with
 | some p => if okKey p.2 x = true then some (.bl (!(dgetW p.2 x).isSome), ph) else none
 | none => ninW x y ph
def ixV : W -> W -> Po W := fun x y ph => match dctAt x ph with
 | some p => if okKey p.2 y = true then (dgetW p.2 y).map fun w => (w, ph) else none
 | none => ixW x y ph
def setV (o i v : W) : Po Unit := fun ph => match dctAt o ph with
 | some p => if okKey p.2 i = true /\ p.2.length < sizeLine then some ((), ph.set p.1 (.dct (dputW p.2 i v))) else none
 | none => setW o i v ph
theorem ROpt.isSome {K : PySem.W.Frag} {φ : Nat -> Addr} {n : Nat} {H : Hp} {a : Option W} {b : Option V} (h : ROpt K φ n H a b) : a.isSome = b.isSome := by
 cases a <;> cases b <;> first | rfl | exact h.elim
theorem inV_i {K : PySem.W.Frag} : OpI K (fun x y H Q => rInD K (fun b => b) x y H Q \/ ∃ a o, y = .ref a /\ DGetE H a x o /\ Q (.bl o.isSome) H) inV := by
 intro φ ph H x y vx vy w ph' Q hH rx ry e k
 unfold inV at e
 split at e
 ·rename_i p hp
  obtain ⟨i, kws⟩ := p
  obtain ⟨rfl, hi, hd, rfl⟩ := dctAt_rel hH ry hp
  split at e
  ·rename_i hk
   cases e
   obtain ⟨o, g, ro⟩ := dget_rel hH hd rx hk
   exact .inr ⟨_, o, rfl, g, by rw [<- ro.isSome]; exact k φ H _ hH Step.refl (.bl _)⟩
  ·cases e
 ·exact .inl (inW_i hH rx ry e k)
theorem ninV_i {K : PySem.W.Frag} : OpI K (fun x y H Q => rInD K (fun b => !b) x y H Q \/ ∃ a o, y = .ref a /\ DGetE H a x o /\ Q (.bl (!o.isSome)) H) ninV := by
 intro φ ph H x y vx vy w ph' Q hH rx ry e k
 unfold ninV at e
 split at e
 ·rename_i p hp
  obtain ⟨i, kws⟩ := p
  obtain ⟨rfl, hi, hd, rfl⟩ := dctAt_rel hH ry hp
  split at e
  ·rename_i hk
   cases e
   obtain ⟨o, g, ro⟩ := dget_rel hH hd rx hk
   exact .inr ⟨_, o, rfl, g, by rw [<- ro.isSome]; exact k φ H _ hH Step.refl (.bl _)⟩
  ·cases e
 ·exact .inl (ninW_i hH rx ry e k)
theorem ixV_i {K : PySem.W.Frag} : OpI K (fun x y H Q => rIx K x y H Q \/ ∃ a v, x = .ref a /\ DGet H a y (some v) /\ Q v H) ixV := by
 intro φ ph H x y vx vy w ph' Q hH rx ry e k
 unfold ixV at e
 split at e
 ·rename_i p hp
  obtain ⟨i, kws⟩ := p
  obtain ⟨rfl, hi, hd, rfl⟩ := dctAt_rel hH rx hp
  split at e
  ·rename_i hk
   cases q : dgetW kws y with
   | none => rw [q] at e; cases e
   | some u =>
    rw [q] at e
    cases e
    obtain ⟨o, g, ro⟩ := dget_rel hH hd ry hk
    rw [q] at ro
    cases o with
    | none => exact ro.elim
    | some v =>
     rcases g with g | ⟨z, _⟩
     ·exact .inr ⟨_, v, rfl, g, k φ H _ hH Step.refl ro⟩
     ·cases z
  ·cases e
 ·exact .inl (ixW_i hH rx ry e k)
section
variable {X : Cx} {a b o i : Expr} {ma mb mo mi : EM} {pos : Pos} {N : List Str} {sc : Scope} {k : Nat}
theorem BdT.je_ixV (B : BdT X N sc k) (hp : PlainIx b) (ha : JE X a ma) (hb : JE X b mb) : JE X (.Subscript a b pos) (eOp ixV ma mb) :=
 ⟨PE.imp (pe_ix (IxR.or ix_seq (ix_dict (hu_of B.room))) ha.h hb.h hp) fun _ _ _ h => bin_imp ixV_i h⟩
theorem BdT.inV_ (B : BdT X N sc k) (h : behindInMarks .In b = false) : Cp X .In b inV := ⟨⟨_, OpR.or (op_inW B.room.units) (op_din (hu_of B.room)), inV_i⟩, h⟩
theorem BdT.ninV_ (B : BdT X N sc k) (h : behindInMarks .NotIn b = false) : Cp X .NotIn b ninV := ⟨⟨_, OpR.or (op_ninW B.room.units) (op_dnin (hu_of B.room)), ninV_i⟩, h⟩
theorem PSet.or {t t' : TSet} (h : PSet X t) (h' : PSet X t') : PSet X (fun o i v H Q => t o i v H Q \/ t' o i v H Q) := by
 intro pins s σ H o i v ov iv u Q I ro ri rv q
 rcases q with q | q
 ·exact h pins s σ H o i v ov iv u Q I ro ri rv q
 ·exact h' pins s σ H o i v ov iv u Q I ro ri rv q
def gSubV (o i : EM) : GM := fun v σ => bnd (o σ) fun ow => bnd (i σ) fun iw => bnd (lift (setV ow iw v)) fun _ => pur σ
theorem BdT.jg_subV (B : BdT X N sc k) (ho : JE X o mo) (hi : JE X i mi) (ha : ∀ v, assign (.Subscript o i pos) X.env v = (do
   let ov <- holding [v] (eval o X.env)
   let iv <- holding [v, ov] (eval i X.env)
   standAt pos
   holding [v, ov, iv] (setItem ov iv v)
   release [v, ov, iv] []) := by intro _; rfl) : JG X (.Subscript o i pos) (gSubV mo mi) :=
 ⟨PG.imp (pg_sub ho.h hi.h (PSet.or set_list (set_dict (hu_of B.room))) ha) fun v σ H Q h => by
  obtain ⟨φ, ph, ws, w, hH, hS, rv, h⟩ := h
  refine tM.bind hH hS h fun ow ph1 φ1 H1 vo hH1 s1 ro h => tM.bind hH1 (hS.mono s1) h fun iw ph2 φ2 H2 vi hH2 s2 ri h => ?_
  rw [run_bnd] at h
  obtain ⟨_, ph3, e, k⟩ := run_lift h
  have ro' := ro.mono s2
  have rv' := (rv.mono s1).mono s2
  unfold setV at e
  split at e
  ·rename_i p hp
   obtain ⟨r, kws⟩ := p
   obtain ⟨rfl, hr, hd, rfl⟩ := dctAt_rel hH2 ro' hp
   split at e
   ·rename_i hk
    cases e
    obtain ⟨H', g, q1, q2⟩ := dput_rel hH2 hr hd ri rv' hk.1 hk.2
    exact .inr ⟨_, H', rfl, g, k φ2 _ σ q1 ((s1.trans s2).trans q2) (((hS.mono s1).mono s2).mono q2)⟩
   ·cases e
  ·unfold setW at e
   split at e
   ·rename_i r k'
    split at e
    ·rename_i ws' hw
     split at e
     ·rename_i j hj
      cases e
      cases ro' with
      | ref hlt =>
       cases ri
       obtain ⟨us, hu, ru⟩ := hH2.hp _ _ hw
       obtain ⟨q1, q2⟩ := put_list hH2 hw (ru.set rv' j)
       exact .inl ⟨_, us, _, j, rfl, rfl, hu, by rw [<- ru.length]; exact hj, k φ2 _ σ q1 ((s1.trans s2).trans q2) (((hS.mono s1).mono s2).mono q2)⟩
     ·cases e
    ·cases e
   ·cases e⟩
end
def inW1 : W -> Option Int
 | .int i => some i
 | _ => none
def intsW (w : W) (ph : PH) : Option (List Int) := if isL w ph = true then (seqW w ph).bind (mapO inW1) else none
def minUp (f : Nat -> Int) : Nat -> Int
 | 0 => f 0
 | k + 1 => if f (k + 1) < minUp f k then f (k + 1) else minUp f k
section
variable {X : Cx}
theorem best_min (f : Nat -> Int) : ∀ k, f (argBest (fun i j => decide (f i < f j)) k) = minUp f k
 | 0 => rfl
 | k + 1 => by
  have ih := best_min f k
  unfold argBest minUp
  rw [ih]
  by_cases h : f (k + 1) < minUp f k
  ·simp [h]
  ·simp [h, ih]
theorem ints_rel {K : PySem.W.Frag} {φ : Nat -> Addr} {n : Nat} {H : Hp} : ∀ {ws : List W} {vs : List V} {ns : List Int}, RelWs K φ n H ws vs -> mapO inW1 ws = some ns -> vs = ns.map V.int
 | _, _, _, .nil, e => by cases e; rfl
 | w :: ws, _, bs, .cons h r, e => by
  unfold mapO at e
  split at e
  ·rename_i b bs' e1 e2
   cases e
   have q := ints_rel r e2
   unfold inW1 at e1
   cases h <;> cases e1
   rw [q]; rfl
  ·cases e
theorem intsW_rel {K : PySem.W.Frag} {φ : Nat -> Addr} {ph : PH} {H : Hp} {w : W} {v : V} {ns : List Int} (hH : RelH K φ ph H) (r : RelW K φ ph.length H w v) (e : intsW w ph = some ns) : ∃ p, v = .ref p /\ SqL K H p (ns.map V.int) := by
 unfold intsW at e
 split at e
 ·rename_i hL
  cases r with
  | ref hi =>
   unfold isL at hL
   simp only at hL
   split at hL
   ·rename_i ws hw
    obtain ⟨vs, hv, rs⟩ := hH.hp _ _ hw
    simp only [seqW, hw, Option.bind_some] at e
    rw [ints_rel rs e] at hv
    exact ⟨_, rfl, SqL.of hv⟩
   ·cases hL
  | fl h rs =>
   simp only [seqW, Option.bind_some] at e
   have q := ints_rel rs e
   subst q
   exact ⟨_, rfl, h.sq⟩
  | _ => cases hL
 ·cases e
end
def mulV : W -> W -> Po W := fun x y ph => match x, y with
 | .ref i, .int k => match ph[i]? with
  | some (.lst ws) => if -(2 ^ 63) <= k /\ k < 2 ^ 63 /\ ws.length * k.toNat <= sizeLine then some (.ref ph.length, ph ++ [.lst (List.replicate k.toNat ws).flatten]) else none
  | _ => none
 | x, y => mulW x y ph
theorem RelWs.rep {K : PySem.W.Frag} {φ : Nat -> Addr} {n : Nat} {H : Hp} {ws : List W} {vs : List V} (r : RelWs K φ n H ws vs) : ∀ k : Nat, RelWs K φ n H (List.replicate k ws).flatten (List.replicate k vs).flatten
 | 0 => .nil
 | k + 1 => by
  rw [List.replicate_succ, List.replicate_succ, List.flatten_cons, List.flatten_cons]
  exact r.append (RelWs.rep r k)
theorem mulV_i {K : PySem.W.Frag} : OpI K (fun x y H Q => (rI CMul fun i j => .int (i * j)) x y H Q \/ rRep x y H Q) mulV := by
 intro φ ph H x y vx vy w ph' Q hH rx ry e k
 unfold mulV at e
 split at e
 ·rename_i i j
  split at e
  ·rename_i ws hw
   split at e
   ·rename_i hz
    cases e
    cases rx with
    | ref hi =>
     cases ry
     obtain ⟨us, hu, ru⟩ := hH.hp _ _ hw
     refine .inr ⟨_, _, us, rfl, rfl, hu, hz.1, hz.2.1, by rw [<- ru.length]; exact hz.2.2, fun p hp => ?_⟩
     obtain ⟨q1, q2, q3⟩ := new_list hH (ru.rep j.toNat) hp
     exact k _ _ _ q1 q2 q3
   ·cases e
  ·cases e
 ·exact .inl (mulW_i hH rx ry e k)
theorem je_mulV {X : Cx} {a b : Expr} {ma mb : EM} {pos : Pos} (ha : JE X a ma) (hb : JE X b mb) : JE X (.BinOp a .Mult b pos) (eOp mulV ma mb) := ⟨ie_op (OpR.or op_mul op_rep) mulV_i ha.h hb.h⟩
section
variable {prog : Program} {w : World} {A : Around} {E : Value -> Shared -> Prop} {s : Shared} {a : Addr}
theorem list_no_keys : typeLookup (.type "list") "keys" = pure none := am_miss_of_fast (by decide +kernel)
theorem no_keys {o : Obj} {xs : Array Value} {k : Nat} {Q : Option Value -> Shared -> Prop} (hx : s.heap.get? a = some o) (hc : o.cls = .type "list") (hdat : o.data = .seq xs k) (hd : o.dict = none) (hA : A.handled = none)
  (h : ∀ h' tk, (∀ b ob, s.heap.get? b = some ob -> h'.get? b = some ob) -> Q none { s with heap := h', toks := tk }) : wpAny (model prog w) A (getAttr? (.ref a) "keys") Q E s := by
 obtain ⟨c, dct, dat, sl⟩ := o
 simp only at hc hdat hd
 subst hc hdat hd
 obtain ⟨hp, g, d, tk, os⟩ := s
 have hT : ∀ tk', (⟨hp, g, d, tk', os⟩ : Shared).TypeIs (.ref a) "list" := fun _ => ⟨_, hx, rfl⟩
 have f1 := sub_AttributeError
 have f3 := F.slot_list_getattribute.lookup
 have f4 := F.slot_list_getattribute.bind (.ref a)
 have f5 := am_list_getattr_none
 unfold getAttr? getAttrBy? getAttrBy
 repeat (any_goals (first | assumption | exact hT _ | ((with_reducible show wpAny _ _ (call (Value.builtin "list.__getattribute__") _ _) _ _ _); refine call_meets F.slot_list_getattribute (hT _) am_entry_list_getattribute (F.args_list_getattribute_2 _ _) (meets_getattribute_miss_list a xs k sl "keys" _ list_no_keys (by decide)) ⟨hx, hA, fun h' tk' e hx' => ?_⟩) | wp_step))
 obtain ⟨t', u', he⟩ := hx'.there
 show wpAny _ _ (getattributeRaised _ _ _ _ _ _ _) _ _ _
 unfold getattributeRaised
 repeat (any_goals (first | assumption | wp_step))
 exact h _ _ hx'.keeps
end
def DFill (d : Addr) : Hp -> List (V × V) -> Hp -> Prop
 | H, [], H' => H' = H
 | H, p :: r, H' => ∃ H1, DPutE H d p.1 p.2 H1 /\ DFill d H1 r H'
abbrev PairsV (H : Hp) : List V -> List (V × V) -> Prop := Paired fun v p => ∃ T, v = .ref T /\ H T = some (.tup [p.1, p.2])
theorem DPutE.other {H H' : Hp} {a b : Addr} {y v : V} (h : DPutE H a y v H') (hb : b ≠ a) : H' b = H b := by
 rcases h with (⟨_, _, _, _, _, e⟩ | ⟨_, _, _, _, _, _, _, e⟩) | ⟨_, _, _, _, _, e⟩ | ⟨_, _, _, e⟩ <;> rw [e, upd_ne hb]
theorem DPutE.dict {H H' : Hp} {a : Addr} {y v : V} (h : DPutE H a y v H') : (∃ kvs, H a = some (.dK kvs)) \/ ∃ kvs, H a = some (.dT kvs) := by
 rcases h with (⟨_, _, e, _⟩ | ⟨_, _, _, e, _⟩) | ⟨e, _⟩ | ⟨e, _⟩
 ·exact .inl ⟨_, e⟩
 ·exact .inr ⟨_, e⟩
 ·exact .inl ⟨_, e⟩
 ·exact .inr ⟨_, e⟩
theorem DPutE.ne {H H' : Hp} {a b : Addr} {y v : V} {o : HO} (h : DPutE H a y v H') (hb : H b = some o) (h1 : ∀ kvs, o ≠ .dK kvs) (h2 : ∀ kvs, o ≠ .dT kvs) : b ≠ a := by
 rcases h.dict with ⟨kvs, e⟩ | ⟨kvs, e⟩
 ·exact ne_of hb e (h1 _)
 ·exact ne_of hb e (h2 _)
section
variable {X : Cx} {pins : List (Addr × Obj)} {σ : L2.St} {H : Hp} {s : Shared} {a : Addr} {y v : V} {u r : Value} {A : Around} {E : Value -> Shared -> Prop}
theorem d_set {H' : Hp} {Q : Unit -> Shared -> Prop} (hu : A.units < cLine) (I : Inv X pins σ H s) (g : DPut H a y v H') (ry : RelV y u) (rv : RelV v r)
  (h : ∀ h' t, Inv X pins σ H' { s with heap := h', toks := t } -> Heap.SameBut a s.heap h' -> Q () { s with heap := h', toks := t }) : wpAny (model X.prog X.w) A (dictSet a u r) Q E s := by
 rcases g with ⟨kvs, k, e, ey, l, eH⟩ | ⟨kvs, k, b, e, ey, eb, l, eH⟩
 ·subst ey eH
  obtain ⟨z, hd, vs, rel, dd⟩ := dk_of I.hok e
  have hz : vs.length <= sizeLine := by rw [<- rel.length]; exact z
  have hl : (putK kvs k v).length <= sizeLine := by have := length_putK kvs k v; omega
  refine wpAny_dictSet_pairs (hsz := hz) (kV_is ry) dd fun h' dd' hs => h _ _ ?_ hs
  have he : ∃ q, h'.get? a = some q := let ⟨q, _, _, hq, _⟩ := dd'; ⟨q, hq⟩
  exact d_write I (by rw [e]; exact True.intro) hs he (dk_new hl hd (rel.put k rv) dd')
 ·subst ey eH
  cases (show u = Value.ref b from ry)
  obtain ⟨z, hd, xs, rel, dd⟩ := dt_of I.hok e
  have hz : xs.length <= sizeLine := by rw [<- Paired.length rel]; exact z
  have hl : (putK kvs k v).length <= sizeLine := by have := length_putK kvs k v; omega
  refine wpAny_dictSet_heap (hsz := hz) hu (key_of I.hok eb) dd fun h' dd' hs => h _ _ ?_ hs
  obtain ⟨q, es, ep, hq, h2, h3, h4, _, h5⟩ := dd'
  refine d_write I (by rw [e]; exact True.intro) hs ⟨q, hq⟩ ⟨hl, hd, _, (rel.put k eb rv).keeps fun c ys ec => ?_, q, es, ep, hq, h2, h3, h4, h5⟩
  rw [upd_ne (ne_of ec e (fun z => nomatch z))]
  exact ec
theorem d_setE {H' : Hp} {Q : Unit -> Shared -> Prop} (hu : A.units < cLine) (I : Inv X pins σ H s) (g : DPutE H a y v H') (ry : RelV y u) (rv : RelV v r)
  (h : ∀ h' t, Inv X pins σ H' { s with heap := h', toks := t } -> Heap.SameBut a s.heap h' -> Q () { s with heap := h', toks := t }) : wpAny (model X.prog X.w) A (dictSet a u r) Q E s := by
 rcases g with g | ⟨e, k, b, ey, eb, eH⟩ | ⟨e, k, ey, eH⟩
 ·exact d_set hu I g ry rv h
 ·subst ey eH
  have g : DPut (upd H a (.dT [])) a (.ref b) v (upd (upd H a (.dT [])) a (.dT (putK [] k v))) := .inr ⟨[], k, b, upd_same, rfl, by rw [upd_ne (ne_of eb e (fun z => nomatch z))]; exact eb, by decide, rfl⟩
  refine d_set hu (inv_kt I e) g ry rv fun h' t I3 hs => h h' t ?_ hs
  rw [upd_upd] at I3
  exact I3
 ·subst ey eH
  have g : DPut (upd H a (.dK [])) a (kV k) v (upd (upd H a (.dK [])) a (.dK (putK [] k v))) := .inl ⟨[], k, upd_same, rfl, by decide, rfl⟩
  refine d_set hu (inv_tk I e) g ry rv fun h' t I3 hs => h h' t ?_ hs
  rw [upd_upd] at I3
  exact I3
end
theorem entry_upd_loop : entryFor table "dict.update.loop" = some Builtin.«dict.update.loop» := entryFor_of_tree (by kernel_rfl)
theorem plain_upd_loop : plainId "dict.update.loop" = true := by decide +kernel
section
variable {X : Cx} {pins : List (Addr × Obj)} {σ : L2.St} {A : Around} {R : Result -> Shared -> Prop}
theorem turned1 {H : Hp} {s : Shared} {h' : Heap} {it : Addr} (I : Inv X pins σ H s) (k : ∀ b u, b ≠ it -> s.heap.get? b = some u -> h'.get? b = some u) (hf : FpOk X pins H it) : Inv X pins σ H { s with heap := h' } :=
 turnedN (s := s) (h' := h') (t' := s.toks) (fp := [it]) I (fun b o hb q => k b o (fun z => hb (by simp [z])) q) (fun b hb => by
  have : b = it := by simpa using hb
  subst this
  exact hf)
theorem pair_items {T : Addr} {ot : Obj} {uk uv : Value} {nt : Nat} {s : Shared} {E : Value -> Shared -> Prop} {Q : List Value -> Shared -> Prop} (hot : s.heap.get? T = some ot) (hct : ot.cls = .type "tuple") (hdt : ot.data = .seq #[uk, uv] nt) (h : Q [uk, uv] s) :
  wpAny (model X.prog X.w) A (Builtin.Dict.pairItems (.ref T)) Q E s := by
 unfold Builtin.Dict.pairItems
 refine wpAny_bind (wpAny_typeOf (T := "tuple") ⟨_, hot, hct⟩ ?_)
 rw [if_pos (by decide)]
 exact wpAny_bind (wpAny_seqItems hot hdt (wpAny_pure h))
theorem fill_loop (hA : A.handled = none) (hu : A.units + 1 < cLine) {d it l : Addr} {xs : List V} : ∀ (ps : List (V × V)) (i : Nat) (t : Tok) (s : Shared) (H H' : Hp), Inv X pins σ H s -> H l = some (.lst xs) -> FpOk X pins H it -> it ≠ d -> s.heap.IsListIter it l i →
  PairsV H (xs.drop i) ps -> DFill d H ps H' -> (∀ s', Inv X pins σ H' s' -> R (.ok (.ret .none)) s') -> codeAny (model X.prog X.w) A (.builtin "dict.update.loop" ⟨[.ref d, .ref it, .int (i : Int) t, .none], []⟩) R s
 | [], i, t, s, H, H', I, hl, hf, hne, hit, hp, hF, k => by
  obtain rfl : H' = H := hF
  obtain ⟨its, rv, pl, hz⟩ := I.list (SqL.of hl)
  have hd : xs.drop i = [] := by
   generalize xs.drop i = z at hp
   cases hp; rfl
  have hge : xs.length <= i := by simpa using hd
  refine codeAny_builtin entry_upd_loop ?_
  rw [Around.under_plainId plain_upd_loop _]
  show wpAny _ A.in1 (pyNext (.ref it) >>= _) _ _ s
  refine wpAny_bind (wpAny_pyNext_list_end (A := A.in1) hA hit pl.isList (by have := rv.length; simp; omega) fun h' eb => ?_)
  show wpAny _ A.in1 (Builtin.Dict.addKeywords d [] >>= fun _ => PySem.ret Value.none) _ _ _
  refine wpAny_bind (wpAny_pure ?_)
  refine wpAny_pure (k _ ?_)
  exact turned1 I (fun b o hb q => eb b o hb q) hf
 | p :: ps, i, t, s, H, H', I, hl, hf, hne, hit, hp, hF, k => by
  obtain ⟨H1, hput, hF⟩ := hF
  obtain ⟨its, rv, pl, hz⟩ := I.list (SqL.of hl)
  cases hd : xs.drop i with
  | nil => rw [hd] at hp; cases hp
  | cons x ys =>
   rw [hd] at hp
   cases hp with
   | cons hx hp =>
    obtain ⟨T, rfl, hT⟩ := hx
    have hxi : xs[i]? = some (.ref T) := by
     have := congrArg (fun l => l[0]?) hd
     simpa using this
    have hys : xs.drop (i + 1) = ys := by
     have := congrArg (fun l => l.drop 1) hd
     simpa [List.drop_drop, Nat.add_comm] using this
    obtain ⟨u, hu', ru⟩ := rv.get hxi
    obtain rfl : u = Value.ref T := ru
    refine codeAny_builtin entry_upd_loop ?_
    rw [Around.under_plainId plain_upd_loop _]
    show wpAny _ A.in1 (pyNext (.ref it) >>= _) _ _ s
    refine wpAny_bind (wpAny_pyNext_list_item hit pl.isList (x := .ref T) (by simpa using hu') fun h1 hit1 hs1 => ?_)
    have I1 : Inv X pins σ H { s with heap := h1 } := turned1 I (fun b o hb q => hs1.extBut b o hb q) hf
    obtain ⟨its2, rv2, pt, _⟩ := I1.tuple (SqT.of hT)
    obtain ⟨uk, uv, e2, rk, rw2⟩ := Vals.two rv2
    subst e2
    obtain ⟨ot, hot, hct, nt, hdt⟩ := pt
    have hne2 : it ≠ d := hne
    simp only []
    refine wpAny_bind (wpAny_holding (wpAny_bind (wpAny_tryCatch (pair_items hot hct hdt ?_))))
    simp only []
    refine wpAny_holding (d_setE hu I1 hput rk rw2 fun h2 t2 I2 hs2 => ?_)
    refine wpAny_pure ⟨plainId_quiet plain_upd_loop _, ?_⟩
    have hnl : l ≠ d := hput.ne hl (fun _ z => nomatch z) (fun _ z => nomatch z)
    refine fill_loop hA hu ps (i + 1) 0 _ H1 H' I2 (by rw [hput.other hnl]; exact hl) ⟨by rw [hput.other hne2]; exact hf.1, hf.2⟩ hne2 (hit1.at fun o q => (hs2.2 it hne2).trans q) ?_ hF k
    rw [hys]
    exact Paired.mapP hp fun _ _ ⟨T', e1, e2⟩ => ⟨T', e1, by rw [hput.other (hput.ne e2 (fun _ z => nomatch z) (fun _ z => nomatch z))]; exact e2⟩
end
def rDict : List V -> Hp -> VK -> Prop := fun xs H Q => ∃ l vs ps, xs = [.ref l] /\ H l = some (.lst vs) /\ PairsV H vs ps /\ ∀ d, H d = none -> ∃ H', DFill d (upd H d (.dK [])) ps H' /\ Q (.ref d) H'
section
variable {X : Cx}
theorem call_dict (hc : X.calm = true) (hu : X.A.units + 64 < cLine) : CallR X (.type "dict") rDict := by
 intro pins s σ H xs us Q I r h
 obtain ⟨l, vs, ps, rfl, hl, hp, h⟩ := h
 obtain ⟨u, rfl, rx⟩ := vals1 r
 obtain rfl : u = Value.ref l := rx
 have hA : X.A.handled = none := I.ok.hd hc
 have hn := I.hok.fresh (Nat.le_refl s.heap.objs.size)
 obtain ⟨H', hF, hq⟩ := h s.heap.objs.size hn
 refine callType_codes (Q₁ := fun obj s₁ => obj = .ref s.heap.objs.size /\ s₁ = { s with heap := s.heap.push { cls := .type "dict", data := .dict #[] } }) F.kt_called_dict (F.kt_typeCall_dict_1 _) F.entry_dict_init (kt_code_dict_new _ ⟨rfl, rfl⟩) ?_
 rintro obj s₁ ⟨rfl, rfl⟩
 have hnew : (s.heap.push { cls := .type "dict", data := .dict #[] }).DictOf (mixKind X.prog X.w) s.heap.objs.size [] := Heap.DictOf.new s.heap
 have hbig : (s.heap.objs.size == sysModules) = false := beq_eq_false_iff_ne.mpr (Nat.ne_of_gt I.big)
 have I1 : Inv X pins σ (upd H s.heap.objs.size (.dK [])) { s with heap := s.heap.push { cls := .type "dict", data := .dict #[] } } :=
  I.laid (t' := s.toks) (fun b u q => Heap.get?_push_of_some _ q) (Nat.le_refl _) ⟨Nat.zero_le _, hbig, [], .nil, hnew⟩
 refine ⟨hnew.typeIs, F.args_dict_init_2 _ _, ?_⟩
 have hll : l ≠ s.heap.objs.size := ne_of_none hl hn
 have hl1 : upd H s.heap.objs.size (.dK []) l = some (.lst vs) := by rw [upd_ne hll]; exact hl
 obtain ⟨its, rv, pl, hz⟩ := I1.list (SqL.of hl1)
 unfold Builtin.«dict.__init__»
 refine wpAny_bind ?_
 unfold Builtin.Dict.selfAndRest
 refine wpAny_bind (wpAny_notOrdered_dict hnew.typeIs ?_)
 show wpAny _ _ (pure (s.heap.objs.size, [Value.ref l])) _ _ _
 refine wpAny_pure ?_
 show wpAny _ _ (Builtin.Dict.updateFrom "dict.__init__" s.heap.objs.size (.ref l) [] .none) _ _ _
 unfold Builtin.Dict.updateFrom
 obtain ⟨ol, hol, hcl, n, hdl⟩ := pl.isList
 have hT : ({ s with heap := s.heap.push { cls := .type "dict", data := .dict #[] } } : Shared).TypeIs (.ref l) "list" := ⟨_, hol, hcl⟩
 refine wpAny_bind (wpAny_typeOf hT ?_)
 rw [if_pos (by decide)]
 obtain ⟨oq, nq, h1q, h2q, h3q, h4q⟩ := pl
 refine wpAny_bind ((no_keys (A := X.A.in1.in1) h1q h2q h4q h3q hA fun h1 t1 k1 => ?_))
 simp only [Option.isNone_none, if_true]
 refine wpAny_bind (wpAny_rule ?_)
 have I2 : Inv X pins σ (upd H s.heap.objs.size (.dK [])) { s with heap := h1, toks := t1 } := I1.kept (t' := t1) k1
 obtain ⟨its2, rv2, pl2, hz2⟩ := I2.list (SqL.of hl1)
 refine wpAny_bind (wpAny_pyIter_list pl2.isList ?_)
 refine wpAny_pure ⟨plainId_quiet plain_upd_loop _, ?_⟩
 have hd : s.heap.objs.size < h1.objs.size := Heap.lt_size (k1 _ _ (Heap.get?_push_size _ rfl))
 have I3 : Inv X pins σ (upd H s.heap.objs.size (.dK [])) { s with heap := h1.push { cls := .type "list_iterator", data := .fields #[.ref l, .int 0 0] }, toks := t1 } := I2.kept (t' := t1) fun b u q => Heap.get?_push_of_some _ q
 refine fill_loop (X := X) (pins := pins) (σ := σ) (A := X.A.in1) hA (by show X.A.units + 1 + 1 < cLine; omega) ps 0 0 _ _ H' I3 hl1 (I2.fpOk (Nat.le_refl _) (I2.hok.fresh (Nat.le_refl _))) (Nat.ne_of_gt hd) ⟨_, Heap.get?_push_size _ rfl, rfl, rfl⟩ ?_ hF fun s' I' => ?_
 ·exact Paired.mapP hp fun _ _ ⟨T', e1, e2⟩ => ⟨T', e1, by rw [upd_ne (ne_of_none e2 hn)]; exact e2⟩
 ·exact ⟨rfl, .ref s.heap.objs.size, H', I', rfl, hq⟩
end
def fillW : List (W × W) -> List (W × W) -> Option (List (W × W))
 | d, [] => some d
 | d, p :: r => if okKey d p.1 = true /\ d.length < sizeLine then fillW (dputW d p.1 p.2) r else none
def pairW : W -> Option (W × W)
 | .tup [a, b] => some (a, b)
 | _ => none
def dictW : List W -> Po W := fun xs ph => match xs with
 | [.ref i] => match ph[i]? with
  | some (.lst ws) => match mapO pairW ws with
   | some ps => match fillW [] ps with
    | some d => some (.ref ph.length, ph ++ [.dct d])
    | none => none
   | none => none
  | _ => none
 | _ => none
abbrev RelPs (K : PySem.W.Frag) (φ : Nat -> Addr) (n : Nat) (H : Hp) : List (W × W) -> List (V × V) -> Prop := Paired fun p q => RelW K φ n H p.1 q.1 /\ RelW K φ n H p.2 q.2
theorem fill_rel {K : PySem.W.Frag} {φ : Nat -> Addr} {i : Nat} : ∀ {ps : List (W × W)} {qs : List (V × V)} {ph : PH} {H : Hp} {d d' : List (W × W)}, RelH K φ ph H -> i < ph.length -> ph[i]? = some (.dct d) -> RelPs K φ ph.length H ps qs -> fillW d ps = some d' →
  ∃ H', DFill (φ i) H qs H' /\ RelH K φ (ph.set i (.dct d')) H' /\ Step K φ ph.length H φ ph.length H'
 | [], qs, ph, H, d, d', hH, hi, hd, hr, e => by
  cases hr
  cases e
  refine ⟨H, rfl, ?_, Step.refl⟩
  have : ph.set i (.dct d) = ph := by
   apply List.ext_getElem?
   intro j
   by_cases hj : i = j
   ·subst hj; rw [List.getElem?_set_self hi, hd]
   ·rw [List.getElem?_set_ne hj]
  rw [this]; exact hH
 | p :: ps, qs, ph, H, d, d', hH, hi, hd, hr, e => by
  cases hr with
  | cons h r =>
   unfold fillW at e
   split at e
   ·rename_i hk
    obtain ⟨H1, hp, hH1, s1⟩ := dput_rel hH hi hd h.1 h.2 hk.1 hk.2
    rw [List.length_set] at s1
    have hl : (ph.set i (.dct (dputW d p.1 p.2))).length = ph.length := List.length_set ..
    obtain ⟨H2, hF, hH2, s2⟩ := fill_rel (ph := ph.set i (.dct (dputW d p.1 p.2))) hH1 (by rw [hl]; exact hi) (List.getElem?_set_self hi) (by rw [hl]; exact Paired.mapP r fun _ _ z => ⟨z.1.mono s1, z.2.mono s1⟩) e
    rw [hl] at s2
    rw [List.set_set] at hH2
    exact ⟨H2, ⟨H1, hp, hF⟩, hH2, s1.trans s2⟩
   ·cases e
theorem pairs_rel {K : PySem.W.Frag} {φ : Nat -> Addr} {n : Nat} {H : Hp} : ∀ {ws : List W} {vs : List V} {ps : List (W × W)}, RelWs K φ n H ws vs -> mapO pairW ws = some ps -> ∃ qs, PairsV H vs qs /\ RelPs K φ n H ps qs
  | _, _, ps, .nil, e => by cases e; exact ⟨[], .nil, .nil⟩
  | _, _, ps, .cons h r, e => by
    unfold mapO at e
    split at e
    · rename_i b bs e1 e2
      cases e
      obtain ⟨qs, h1, h2⟩ := pairs_rel r e2
      unfold pairW at e1
      split at e1
      · cases e1
        cases h with
        | tup hT rt =>
          cases rt with
          | cons ra rt =>
            cases rt with
            | cons rb rt =>
              cases rt
              exact ⟨(_, _) :: qs, .cons ⟨_, rfl, hT⟩ h1, .cons ⟨ra, rb⟩ h2⟩
      · cases e1
    · cases e
theorem dictW_i {K : PySem.W.Frag} : CallI K rDict dictW := by
 intro φ ph H xs vs w ph' Q hH r e k
 unfold dictW at e
 split at e
 ·rename_i i
  split at e
  ·rename_i ws hw
   split at e
   ·rename_i ps hps
    split at e
    ·rename_i d hd
     cases e
     cases r with
     | cons r rr =>
      cases rr
      cases r with
      | ref hi =>
       obtain ⟨us, hu, ru⟩ := hH.hp _ _ hw
       obtain ⟨qs, h1, h2⟩ := pairs_rel ru hps
       refine ⟨_, us, qs, rfl, hu, h1, fun p hp => ?_⟩
       obtain ⟨q1, q2, q3⟩ := new_dict hH hp
       have hl : (ph ++ [PO.dct []]).length = ph.length + 1 := by simp
       obtain ⟨H', hF, hH', s'⟩ := fill_rel (i := ph.length) (d := []) q1 (by rw [hl]; exact Nat.lt_succ_self _) (by simp) (Paired.mapP h2 fun _ _ z => ⟨z.1.mono q2, z.2.mono q2⟩) hd
       have he : (ph ++ [PO.dct []]).set ph.length (.dct d) = ph ++ [.dct d] := by simp
       have hl2 : (ph ++ [PO.dct d]).length = (ph ++ [PO.dct []]).length := by simp
       rw [he] at hH'
       rw [ext_eq] at hF
       refine ⟨H', hF, k _ H' _ hH' (by rw [hl2]; exact q2.trans s') (by rw [hl2]; exact q3.mono s')⟩
    ·cases e
   ·cases e
  ·cases e
 ·cases e
def dicHO : HO -> Prop
 | .dK _ => True
 | .dT _ => True
 | _ => False
section
variable {K : PySem.W.Frag} {φ : Nat -> Addr} {n : Nat} {H : Hp} {d : Addr} {o : Obj} {u : HO} (e : H d = some (.frz o u)) (hu : dicHO u) (hc : o.cls = .type "dict")
include e hu hc
omit hc in
end
theorem Paired.at {α β : Type} {R : α -> β -> Prop} : ∀ {xs : List α} {ys : List β} {i : Nat} {y : β}, Paired R xs ys -> ys[i]? = some y -> ∃ x, xs[i]? = some x /\ R x y
 | _, _, _, _, .nil, e => by simp at e
 | _, _, 0, _, .cons h _, e => by simp at e; subst e; exact ⟨_, rfl, h⟩
 | _, _, i + 1, y, .cons _ r, e => by
  obtain ⟨x, h1, h2⟩ := Paired.at (i := i) r (by simpa using e)
  exact ⟨x, by simpa using h1, h2⟩
theorem RelD.get {K : PySem.W.Frag} {φ : Nat -> Addr} {n : Nat} {H : Hp} : ∀ {kws : List (W × W)} {kvs : List (Key × V)} {i : Nat} {k : Key} {v : V}, RelD K φ n H kws kvs -> kvs[i]? = some (k, v) -> ∃ w, kws[i]? = some (keyW k, w) /\ RelW K φ n H w v
 | _, _, _, _, _, .nil, e => by simp at e
 | _, _, 0, _, _, .cons h _, e => by simp at e; obtain ⟨rfl, rfl⟩ := e; exact ⟨_, rfl, h⟩
 | _, _, i + 1, k, v, .cons _ r, e => by
  obtain ⟨u, h1, h2⟩ := RelD.get (i := i) (k := k) (v := v) r (by simpa using e)
  exact ⟨u, by simpa using h1, h2⟩
theorem RelT.get {K : PySem.W.Frag} {φ : Nat -> Addr} {n : Nat} {H : Hp} : ∀ {kws : List (W × W)} {kvs : List (List Key × V)} {i : Nat} {k : List Key} {v : V}, RelT K φ n H kws kvs -> kvs[i]? = some (k, v) -> ∃ w, kws[i]? = some (.tup (k.map keyW), w) /\ RelW K φ n H w v
 | _, _, _, _, _, .nil, e => by simp at e
 | _, _, 0, _, _, .cons h _, e => by simp at e; obtain ⟨rfl, rfl⟩ := e; exact ⟨_, rfl, h⟩
 | _, _, i + 1, k, v, .cons _ r, e => by
  obtain ⟨u, h1, h2⟩ := RelT.get (i := i) (k := k) (v := v) r (by simpa using e)
  exact ⟨u, by simpa using h1, h2⟩
theorem ROpt.getD {K : PySem.W.Frag} {φ : Nat -> Addr} {n : Nat} {H : Hp} {a : Option W} {b : Option V} {z : W} {y : V} (h : ROpt K φ n H a b) (r : RelW K φ n H z y) : RelW K φ n H (a.getD z) (b.getD y) := by
 cases a <;> cases b <;> first | exact r | exact h | exact h.elim
def putFW (f : Str) (w : W) : List (Str × W) -> List (Str × W)
 | [] => [(f, w)]
 | (g, x) :: r => if g = f then (g, w) :: r else (g, x) :: putFW f w r
section
variable {K : PySem.W.Frag} {φ : Nat -> Addr} {n : Nat} {H : Hp}
theorem RelF.lookup (f : Str) : ∀ {ws : List (Str × W)} {vs : List (Str × V)}, RelF K φ n H ws vs -> ROpt K φ n H (ws.lookup f) (vs.lookup f)
 | _, _, .nil => trivial
 | _, _, .cons (f := g) h r => by
  rw [List.lookup_cons, List.lookup_cons]
  cases f == g with
  | true => exact h
  | false => exact RelF.lookup f r
theorem RelF.len : ∀ {ws : List (Str × W)} {vs : List (Str × V)}, RelF K φ n H ws vs -> ws.length = vs.length
 | _, _, .nil => rfl
 | _, _, .cons _ r => by rw [List.length_cons, List.length_cons, RelF.len r]
theorem RelF.put (f : Str) {w : W} {v : V} (q : RelW K φ n H w v) : ∀ {ws : List (Str × W)} {vs : List (Str × V)}, RelF K φ n H ws vs -> RelF K φ n H (putFW f w ws) (putF f v vs)
 | _, _, .nil => .cons q .nil
 | _, _, .cons (f := g) h r => by
  unfold putFW putF
  by_cases e : g = f
  ·rw [if_pos e, if_pos e]; exact .cons q r
  ·rw [if_neg e, if_neg e]; exact .cons h (RelF.put f q r)
end
def augA : W -> W -> Po W := iop fun i j => i + j
section
variable {X : Cx} {N : List Str} {sc : Scope} {e : Expr} {m : EM} {pos pos' : Pos}
theorem aug_imp {i : Nat} {g : Int -> Int -> Int} {D : Ends} {σ : L2.St} {H : Hp} (h : tS X (sAsg (eOp (iop g) (eVar i) m) (gN i)) D σ H) : tAug i (tM X m) (ipI g) D σ H := by
 obtain ⟨φ, ph, ws, hH, hS, h⟩ := h
 unfold sAsg eOp at h
 rw [run_bnd, run_bnd] at h
 obtain ⟨w, ph', e, k⟩ := run_lift h
 split at e
 ·rename_i w' ew
  cases e
  obtain ⟨v, ev, rv⟩ := hS.get ew
  refine ⟨v, ev, ?_⟩
  rw [run_bnd] at k
  refine ⟨φ, ph, ws, hH, hS, k.mono (fun y ph1 k φ1 H1 vy hH1 s1 ry => ?_) fun _ _ z => z⟩
  obtain ⟨z, ph2, e, k⟩ := run_lift k
  have rv' := rv.mono s1
  unfold iop at e
  split at e
  ·cases e
   cases rv'
   cases ry
   refine ⟨_, _, rfl, rfl, ?_⟩
   exact k φ1 H1 hH1 s1 _ ((hS.mono s1).set (.int _) i)
  ·cases e
 ·cases e
theorem BdL.jaugA (B : BdL X N sc) (i : Nat) {x : Str} (hN : N[i]? = some x) (hl : Loc sc x) (he : JE X e m) : JS X (.AugAssign (.Name x pos') .Add e pos) (sAsg (eOp augA (eVar i) m) (gN i)) :=
 ⟨PS.imp (ps_aug (by rw [B.hN]; exact B.nd) (by rw [B.hN]; exact hN) (B.loc x hl) he.h ip_add (B.fn x hl)) fun _ _ _ h => aug_imp h⟩
end
section
variable {prog : Program} {w : World} {A : Around} {E : Value -> Shared -> Prop} {s : Shared} {a b : Addr} {oa ob : Obj} {es fs : Array DictEntry} {ea eb : Nat}
def Met (prog : Program) (w : World) (A : Around) (E : Value -> Shared -> Prop) (s : Shared) (b : Addr) (fs : Array DictEntry) (x : DictEntry) (c : Bool) : Prop :=
 (c = false /\ ∀ P : Option Nat -> Shared -> Prop, P none s -> wpAny (model prog w) A (dictFind b x.key x.hash) P E s) \/
 ∃ j y, fs[j]? = some y /\ (∀ P : Option Nat -> Shared -> Prop, P (some j) s -> wpAny (model prog w) A (dictFind b x.key x.hash) P E s) /\ SeqAt.EqAt A s x.val y.val c
theorem same_raw {nm : String} {c : Nat -> Bool} {Q : Bool -> Shared -> Prop} (na : (a == sysModules) = false) (nb : (b == sysModules) = false) (g1 : s.heap.get? a = some oa) (g2 : oa.data = .dict es ea) (g3 : s.heap.get? b = some ob) (g4 : ob.data = .dict fs eb)
  (met : es.size = fs.size -> ∀ i x, es[i]? = some x -> Met prog w A E s b fs x (c i)) (h : Q (es.size == fs.size && (List.range es.size).all c) s) : wpAny (model prog w) A (Builtin.Dict.samePairs nm a b) Q E s := by
 unfold Builtin.Dict.samePairs Builtin.Dict.showsAll
 rw [if_neg (by rw [na]; exact Bool.false_ne_true), if_neg (by rw [nb]; exact Bool.false_ne_true)]
 refine wpAny_bind (wpAny_pure (wpAny_bind (wpAny_pure (wpAny_bind (wpAny_dictEntries g1 g2 ?_)))))
 dsimp only
 refine wpAny_bind (wpAny_dictEntries g3 g4 ?_)
 by_cases sz : es.size = fs.size
 ·have met := met sz
  have h1 : Q ((List.range es.size).all c) s := by rw [sz, beq_self_eq_true, Bool.true_and] at h; rw [sz]; exact h
  rw [if_neg (by rw [sz]; simp)]
  refine wpAny_bind (wpAny_dictEpoch g1 g2 (wpAny_bind ?_))
  rw [Std.Legacy.Range.forIn_eq_forIn_range']
  simp only [Std.Legacy.Range.size, Nat.sub_zero, Nat.add_sub_cancel, Nat.div_one]
  refine wpAny_forIn_list _ (fun rest q s' => s' = s /\ q = (none, ()) /\ ∃ i, rest = List.range' i (es.size - i) /\ i <= es.size /\ ∀ k, k < i -> c k = true) _ ?_ ?_ _ _ ⟨rfl, rfl, 0, by simp, Nat.zero_le _, fun k hk => absurd hk (Nat.not_lt_zero _)⟩
  ·rintro x rest q s' ⟨rfl, rfl, i, er, hi, all⟩
   have lt : i < es.size := by
    by_cases z : i < es.size
    ·exact z
    ·rw [Nat.sub_eq_zero_of_le (Nat.le_of_not_lt z)] at er; simp at er
   have cut : List.range' i (es.size - i) = i :: List.range' (i + 1) (es.size - (i + 1)) := by
    rw [show es.size - i = (es.size - (i + 1)) + 1 by omega, List.range'_succ]
   rw [cut] at er
   injection er with e1 e2
   subst e1
   have bad : c x = false -> Q false s' := fun z => by
    have : (List.range es.size).all c = false := by
     rw [List.all_eq_false]
     exact ⟨x, List.mem_range.mpr lt, by rw [z]; decide⟩
    rw [this] at h1; exact h1
   refine wpAny_bind (wpAny_dictEntries g1 g2 ?_)
   rw [Array.getElem?_eq_getElem lt]
   rcases met x es[x] (Array.getElem?_eq_getElem lt) with ⟨z, find⟩ | ⟨j, y, ey, find, eq⟩
   ·show wpAny _ _ (holding [es[x].key, es[x].val] _ >>= _) _ _ _
    refine wpAny_bind (wpAny_holding (wpAny_bind (find _ (wpAny_pure ?_))))
    show wpAny _ _ (if (!false) = true then _ else _) _ _ _
    rw [if_pos (by decide)]
    exact wpAny_pure (wpAny_pure (bad z))
   ·show wpAny _ _ (holding [es[x].key, es[x].val] _ >>= _) _ _ _
    refine wpAny_bind (wpAny_holding (wpAny_bind (find _ (wpAny_bind (wpAny_dictEntries g3 g4 ?_)))))
    rw [ey]
    refine wpAny_holding (eq prog w _ _ ?_)
    cases z : c x with
    | false =>
     show wpAny _ _ (if (!false) = true then _ else _) _ _ _
     rw [if_pos (by decide)]
     exact wpAny_pure (wpAny_pure (bad z))
    | true =>
     show wpAny _ _ (if (!true) = true then _ else _) _ _ _
     rw [if_neg (by decide)]
     refine wpAny_bind (wpAny_dictEpoch g1 g2 ?_)
     rw [if_neg (by simp)]
     refine wpAny_pure ⟨rfl, rfl, x + 1, e2, lt, fun k hk => ?_⟩
     by_cases e : k = x
     ·rw [e]; exact z
     ·exact all k (by omega)
  ·rintro q s' ⟨rfl, rfl, i, er, hi, all⟩
   have ei : i = es.size := by
    by_cases z : i < es.size
    ·rw [show es.size - i = (es.size - (i + 1)) + 1 by omega, List.range'_succ] at er; exact nomatch er
    ·omega
   have : (List.range es.size).all c = true := by
    rw [List.all_eq_true]
    intro k hk
    exact all k (by rw [ei]; exact List.mem_range.mp hk)
   rw [this] at h1
   exact wpAny_pure h1
 ·rw [if_pos (by simpa using sz)]
  have : (es.size == fs.size) = false := by simpa using sz
  rw [this, Bool.false_and] at h
  exact wpAny_bind (wpAny_rule (wpAny_pure h))
theorem eq_raw {c : Nat -> Bool} {Q : Value -> Shared -> Prop} (ta : s.TypeIs (.ref a) "dict") (tb : s.TypeIs (.ref b) "dict") (hu : A.units < cLine) (na : (a == sysModules) = false) (nb : (b == sysModules) = false) (g1 : s.heap.get? a = some oa) (g2 : oa.data = .dict es ea) (g3 : s.heap.get? b = some ob) (g4 : ob.data = .dict fs eb)
  (met : es.size = fs.size -> ∀ E i x, es[i]? = some x -> Met prog w A.in1 E s b fs x (c i)) (h : Q (.bool (es.size == fs.size && (List.range es.size).all c)) s) : wpAny (model prog w) A (compareOp .Eq (.ref a) (.ref b)) Q E s := by
 refine wpAny_richCompare_same_room (op := .Eq) ta tb PySem.F.slot_dict_eq (wpAny_call_entry PySem.F.slot_dict_eq ta PySem.F.entry_dict_eq ?_ (PySem.F.args_dict_eq_2 _ _)) hu
 show wpAny _ _ ((Builtin.Dict.dictSlotArgs "__eq__" ⟨[Value.ref a, Value.ref b], []⟩) >>= _) _ _ s
 unfold Builtin.Dict.dictSlotArgs
 refine wpAny_bind (wpAny_bind (wpAny_notOrdered_dict ta ?_))
 show wpAny _ _ (pure (Value.ref a, Value.ref b)) _ _ s
 refine wpAny_pure (wpAny_bind (wpAny_isInstance tb (T := "dict") PySem.F.sub_dict_dict ?_))
 simp only [if_false, Bool.not_true, Bool.false_eq_true]
 refine wpAny_bind (wpAny_pure (wpAny_bind (wpAny_pure (wpAny_bind (same_raw na nb g1 g2 g3 g4 (fun z i x e => met z _ i x e) ?_)))))
 refine wpAny_pure ⟨_, rfl, And.intro (fun x => by cases x) ?_⟩
 simpa using h
end
def eqP (ph : PH) (kb : List (W × W)) (p : W × W) : Option Bool := match dgetW kb p.1 with
 | none => some false
 | some y => eqD ph p.2 y
def eqDct (ph : PH) (ka kb : List (W × W)) : Option Bool :=
 if ((ka.all (fun p => !isT p.1) && kb.all (fun p => !isT p.1)) || (ka.all (fun p => isT p.1) && kb.all (fun p => isT p.1))) = true then
  if ka.length = kb.length then (mapO (eqP ph kb) ka).map (fun bs => bs.all id) else some false
 else none
theorem RelD.at {K : PySem.W.Frag} {φ : Nat -> Addr} {n : Nat} {H : Hp} : ∀ {kws : List (W × W)} {kvs : List (Key × V)} {i : Nat} {k : Key} {v : V}, RelD K φ n H kws kvs -> kvs[i]? = some (k, v) -> ∃ w, kws[i]? = some (keyW k, w) /\ RelW K φ n H w v
 | _, _, i, _, _, .nil, e => by simp at e
 | _, _, 0, _, _, .cons h r, e => by simp at e; obtain ⟨rfl, rfl⟩ := e; exact ⟨_, rfl, h⟩
 | _, _, i + 1, _, _, .cons h r, e => by
  obtain ⟨w, e1, e2⟩ := RelD.at (i := i) r (by simpa using e)
  exact ⟨w, by simpa using e1, e2⟩
theorem RelT.at {K : PySem.W.Frag} {φ : Nat -> Addr} {n : Nat} {H : Hp} : ∀ {kws : List (W × W)} {kvs : List (List Key × V)} {i : Nat} {k : List Key} {v : V}, RelT K φ n H kws kvs -> kvs[i]? = some (k, v) -> ∃ w, kws[i]? = some (.tup (k.map keyW), w) /\ RelW K φ n H w v
 | _, _, i, _, _, .nil, e => by simp at e
 | _, _, 0, _, _, .cons h r, e => by simp at e; obtain ⟨rfl, rfl⟩ := e; exact ⟨_, rfl, h⟩
 | _, _, i + 1, _, _, .cons h r, e => by
  obtain ⟨w, e1, e2⟩ := RelT.at (i := i) r (by simpa using e)
  exact ⟨w, by simpa using e1, e2⟩
section
variable {X : Cx} {pins : List (Addr × Obj)} {σ : L2.St} {H : Hp} {s : Shared} {φ : Nat -> Addr} {ph : PH} {ka kb : List (W × W)} {prog : Program} {w : World} {A : Around} {E : Value -> Shared -> Prop} {i j : Nat} {r : Bool}
def DV (prog : Program) (w : World) (A : Around) (s : Shared) (a b : Addr) (r : Bool) : Prop := ∃ (oa ob : Obj) (es fs : Array DictEntry) (ea eb : Nat) (c : Nat -> Bool), s.TypeIs (.ref a) "dict" /\ s.TypeIs (.ref b) "dict" /\ (a == sysModules) = false /\ (b == sysModules) = false /\
 s.heap.get? a = some oa /\ oa.data = .dict es ea /\ s.heap.get? b = some ob /\ ob.data = .dict fs eb /\ (es.size = fs.size -> ∀ E i x, es[i]? = some x -> Met prog w A E s b fs x (c i)) /\ r = (es.size == fs.size && (List.range es.size).all c)
def isI : W -> Bool
 | .int _ => true
 | _ => false
theorem DV.rc {a b : Addr} (hu : A.units < cLine) (h : ∀ prog w, DV prog w A.in1 s a b r) : SeqAt.RcAt A s (.ref a) (.ref b) r := fun prog w E Q hq => by
 obtain ⟨oa, ob, es, fs, ea, eb, c, ta, tb, na, nb, g1, g2, g3, g4, met, rfl⟩ := h prog w
 exact eq_raw ta tb hu na nb g1 g2 g3 g4 met hq
end
def eqE (ph : PH) (x y : W) : Option Bool := match eqD ph x y with
 | some b => some b
 | none => match dctAt x ph, dctAt y ph with
  | some p, some q => if p.1 = q.1 then some true else if (p.2.all (fun z => isI z.1) && q.2.all (fun z => isI z.1)) = true then eqDct ph p.2 q.2 else none
  | _, _ => none
def eqT (ph : PH) (x y : W) : Option Bool := match x, y with
 | .tup xs, .tup ys => if xs.length = ys.length then (mapO (fun p : W × W => eqE ph p.1 p.2) (xs.zip ys)).map (fun bs => bs.all id) else none
 | _, _ => none
def eqG (ph : PH) (x y : W) : Option Bool := match eqD ph x y with
 | some b => some b
 | none => match dctAt x ph, dctAt y ph with
  | some p, some q => eqDct ph p.2 q.2
  | _, _ => eqT ph x y
def eqV : W -> W -> Po W := fun x y ph => (eqG ph x y).map fun b => (.bl b, ph)
def nmOk (x : Str) : Bool := !(x == ("__debug__" : Str)) && !(x == ("__classdict__" : Str))
section
variable {X : Cx} {N : List Str} {sc : Scope} {k : Nat} {b : Expr}
theorem BdL.jv {pos : Pos} (B : BdL X N sc) (i : Nat) {x : Str} (hN : N[i]? = some x) (hv : Vis sc x) (hk : nmOk x = true) : JE X (.Name x pos) (eVar i) := by
 unfold nmOk at hk
 rw [Bool.and_eq_true] at hk
 exact B.jvar i hN hv (by simpa using hk.1) (by simpa using hk.2)
theorem BdT.ixV {pos : Pos} {a : Expr} {ma mb : EM} (B : BdT X N sc k) (ha : JE X a ma) (hb : JE X b mb) (hp : PlainIx b := by intro _ _; rfl) : JE X (.Subscript a b pos) (eOp ixV ma mb) := B.je_ixV hp ha hb
end
section
variable {prog : Program} {w : World} {A : Around} {E : Value -> Shared -> Prop} {s : Shared}
theorem hash_bool {b : Bool} {Q : Int -> Shared -> Prop} (h : Q (hashInt (if b then 1 else 0)) { s with toks := s.toks + 1 }) : wpAny (model prog w) A (pyHash (.bool b)) Q E s := by
 have hr := rawHash_range (if b then 1 else 0)
 have tb : s.TypeIs (.bool b) "bool" := rfl
 have hv : [Value.bool b].any Value.onHeap = false := rfl
 show wpAny _ _ (pyHashByItsType (.bool b)) Q E s
 unfold pyHashByItsType
 refine wpAny_bind ?_
 rw [cRoomFor, if_neg (by rw [hv]; exact Bool.false_ne_true)]
 refine wpAny_pure (wpAny_bind (wpAny_specialOf tb PySem.F.slot_bool_hash.lookup ?_))
 rw [if_neg (by rw [beq_builtin_none]; exact Bool.false_ne_true)]
 refine wpAny_bind (wpAny_specialOf tb PySem.F.slot_bool_hash.lookup ?_)
 show wpAny _ _ (callSpecialIfBoundUnlessNone? (.bool b) "__hash__" _ >>= _) Q E s
 refine wpAny_bind (wpAny_callSpecialIfBoundUnlessNone?_slot tb PySem.F.slot_bool_hash (wpAny_call_entry PySem.F.slot_bool_hash tb PySem.F.entry_int_hash (show wpAny _ _ (do PySem.ret (<- mkInt (rawHash (if b then 1 else 0)))) _ _ s from wpAny_ret_mkInt ?_) (PySem.F.args_int_hash_1 _)))
 show wpAny _ _ (if (decide (-(2 : Int) ^ 63 <= rawHash (if b then 1 else 0)) && decide (rawHash (if b then 1 else 0) < 2 ^ 63)) = true then _ else _) Q E _
 rw [if_pos (by rw [decide_eq_true hr.1, decide_eq_true hr.2]; rfl)]
 exact wpAny_pure h
theorem hash_none {Q : Int -> Shared -> Prop} (h : Q 0xFCA86420 { s with toks := s.toks + 1 }) : wpAny (model prog w) A (pyHash .none) Q E s := by
 have tb : s.TypeIs .none "NoneType" := rfl
 have hv : [Value.none].any Value.onHeap = false := rfl
 show wpAny _ _ (pyHashByItsType .none) Q E s
 unfold pyHashByItsType
 refine wpAny_bind ?_
 rw [cRoomFor, if_neg (by rw [hv]; exact Bool.false_ne_true)]
 refine wpAny_pure (wpAny_bind (wpAny_specialOf tb PySem.F.slot_NoneType_hash.lookup ?_))
 rw [if_neg (by rw [beq_builtin_none]; exact Bool.false_ne_true)]
 refine wpAny_bind (wpAny_specialOf tb PySem.F.slot_NoneType_hash.lookup ?_)
 show wpAny _ _ (callSpecialIfBoundUnlessNone? .none "__hash__" _ >>= _) Q E s
 refine wpAny_bind (wpAny_callSpecialIfBoundUnlessNone?_slot tb PySem.F.slot_NoneType_hash (wpAny_call_entry PySem.F.slot_NoneType_hash tb PySem.F.entry_NoneType_hash (show wpAny _ _ (do PySem.ret (<- mkInt 0xFCA86420)) _ _ s from wpAny_ret_mkInt ?_) (PySem.F.args_NoneType_hash_1 _)))
 show wpAny _ _ (if (decide (-(2 : Int) ^ 63 <= (0xFCA86420 : Int)) && decide ((0xFCA86420 : Int) < 2 ^ 63)) = true then _ else _) Q E _
 rw [if_pos (by decide)]
 exact wpAny_pure h
end
def bIs : Key -> Value -> Bool
 | .inl i, .bool b => i == (if b then 1 else 0)
 | k, v => keyIs k v
theorem bIs_shape {k : Key} {v : Value} (h : bIs k v = true) : (∃ i t, k = Sum.inl i /\ v = Value.int i t) \/ (∃ x t, k = Sum.inr x /\ v = Value.str x t) \/ ∃ b, k = Sum.inl (if b then 1 else 0) /\ v = Value.bool b := by
 unfold bIs at h
 split at h
 ·rename_i i b
  exact .inr (.inr ⟨b, by rw [eq_of_beq h], rfl⟩)
 ·rcases keyIs_shape h with q | q
  ·exact .inl q
  ·exact .inr (.inl q)
def bKind (prog : Program) (w : World) : PySem.KeyKind prog w Key where
 is := bIs
 hash := keyH w
 inj := fun v a b ha hb => by
  rcases bIs_shape ha with ⟨i, t, rfl, rfl⟩ | ⟨x, t, rfl, rfl⟩ | ⟨c, rfl, rfl⟩ <;> rcases bIs_shape hb with ⟨j, u, rfl, e⟩ | ⟨y, u, rfl, e⟩ | ⟨d, rfl, e⟩ <;> first | (cases e; done) | (cases e; rfl)
 byValue := fun k v h => by
  rcases bIs_shape h with ⟨i, t, rfl, rfl⟩ | ⟨x, t, rfl, rfl⟩ | ⟨c, rfl, rfl⟩ <;> rfl
 pyHash := fun hv h => by
  rcases bIs_shape hv with ⟨i, t, rfl, rfl⟩ | ⟨x, t, rfl, rfl⟩ | ⟨c, rfl, rfl⟩
  ·exact wpAny_pyHash_int h
  ·exact wpAny_pyHash_str h
  ·exact hash_bool h
 eqBool := fun hu hv h => by
  rcases bIs_shape hu with ⟨i, t, rfl, rfl⟩ | ⟨x, t, rfl, rfl⟩ | ⟨c, rfl, rfl⟩
  ·rcases bIs_shape hv with ⟨j, u, rfl, rfl⟩ | ⟨y, u, rfl, rfl⟩ | ⟨d, rfl, rfl⟩
   ·rw [key_ll] at h; exact wpAny_eqBool_int h
   ·rw [key_lr] at h; exact SeqAt.EqAt.int_str i t y u _ _ _ _ h
   ·rw [key_ll] at h; exact SeqAt.EqAt.int_bool i t d _ _ _ _ h
  ·rcases bIs_shape hv with ⟨j, u, rfl, rfl⟩ | ⟨y, u, rfl, rfl⟩ | ⟨d, rfl, rfl⟩
   ·rw [key_rl] at h; exact SeqAt.EqAt.str_int x t j u _ _ _ _ h
   ·rw [key_rr] at h; exact wpAny_eqBool_str h
   ·rw [key_rl] at h; exact SeqAt.EqAt.str_bool x t d _ _ _ _ h
  ·rcases bIs_shape hv with ⟨j, u, rfl, rfl⟩ | ⟨y, u, rfl, rfl⟩ | ⟨d, rfl, rfl⟩
   ·rw [key_ll] at h; exact SeqAt.EqAt.bool_int c j u _ _ _ _ h
   ·rw [key_lr] at h; exact SeqAt.EqAt.bool_str c y u _ _ _ _ h
   ·have e : decide ((Sum.inl (if c then 1 else 0) : Key) = Sum.inl (if d then 1 else 0)) = (c == d) := by cases c <;> cases d <;> decide
    rw [e] at h; exact SeqAt.EqAt.bool_bool c d _ _ _ _ h
 «strs» := fun k x t v h => by
  rcases bIs_shape h with ⟨i, u, rfl, e⟩ | ⟨y, u, rfl, e⟩ | ⟨c, rfl, e⟩
  ·exact nomatch e
  ·injection e with e1 _
   subst e1
   cases v <;> rfl
  ·exact nomatch e
theorem uA_is {v : V} {u : Value} {k : Key} (h : uA v = some k) (r : RelV v u) : bIs k u = true := by
 cases v with
 | int i => cases h; obtain ⟨t, rfl⟩ := r; exact keyIs_int i t
 | bl b => cases h; obtain rfl : u = Value.bool b := r; simp [bIs]
 | str x => cases h; obtain ⟨t, rfl⟩ := r; exact keyIs_str x t
 | _ => cases h
theorem uAs_is {P : Program} {w : World} : ∀ {ts : List V} {us : List Value} {ks : List Key}, uAs ts = some ks -> Vals ts us -> ItemsAre (bKind P w) ks us
 | [], _, ks, h, .nil => by cases h; exact .nil
 | v :: vs, _, ks, h, .cons r t => by
  unfold uAs at h
  split at h
  ·rename_i k ks' h1 h2
   cases h
   exact .cons (uA_is h1 r) (uAs_is h2 t)
  ·cases h
def UK (P : Program) (w : World) (H : Hp) (v : V) (h : Int) : Prop := (∃ k, uA v = some k /\ h = keyH w k) \/ (v = .non /\ h = 0xFCA86420) \/ ∃ b ts ks, v = .ref b /\ H b = some (.tup ts) /\ uAs ts = some ks /\ h = tupleKeyHash (mixKind P w) ks
section
variable {X : Cx} {pins : List (Addr × Obj)} {σ : L2.St} {H : Hp} {s : Shared} {A : Around} {E : Value -> Shared -> Prop} {v : V} {u : Value} {h : Int}
theorem UK.tup {b : Addr} {ts : List V} {ks : List Key} (I : Inv X pins σ H s) (e : H b = some (.tup ts)) (hk : uAs ts = some ks) : IsTupleKey (bKind X.prog X.w) s.heap ks b := by
 obtain ⟨_, its, r, o, h1, h2, n, h3⟩ := (show ObjOk X.prog X.w H s.heap b (.tup ts) from I.hok b _ e)
 exact ⟨o, its.toArray, n, h1, h2, h3, by simpa using uAs_is hk r⟩
theorem UK.hash {Q : Int -> Shared -> Prop} (I : Inv X pins σ H s) (k : UK X.prog X.w H v h) (r : RelV v u) (hu : A.units < cLine) (hQ : ∀ t, Q h { s with toks := t }) : wpAny (model X.prog X.w) A (pyHash u) Q E s := by
 rcases k with ⟨k, h1, rfl⟩ | ⟨rfl, rfl⟩ | ⟨b, ts, ks, rfl, h1, h2, rfl⟩
 ·exact (bKind X.prog X.w).pyHash (uA_is h1 r) (hQ _)
 ·obtain rfl : u = Value.none := r
  exact hash_none (hQ _)
 ·obtain rfl : u = Value.ref b := r
  exact wpAny_pyHash_tuple (knd := bKind X.prog X.w) hu (UK.tup I h1 h2) (hQ _)
theorem UK.same {v' : V} {h' : Int} (k : UK X.prog X.w H v h) (k' : UK X.prog X.w H v' h') (r : L2.RelV v u) (r' : L2.RelV v' u) : h = h' := by
 rcases k with ⟨k, h1, rfl⟩ | ⟨rfl, rfl⟩ | ⟨b, ts, ks, rfl, h1, h2, rfl⟩ <;> rcases k' with ⟨k', q1, rfl⟩ | ⟨rfl, rfl⟩ | ⟨b', ts', ks', rfl, q1, q2, rfl⟩
 ·rw [(bKind X.prog X.w).inj u k k' (uA_is h1 r) (uA_is q1 r')]
 ·have := uA_is h1 r; rw [show u = Value.none from r'] at this; cases k <;> cases this
 ·have := uA_is h1 r; rw [show u = Value.ref b' from r'] at this; cases k <;> cases this
 ·have := uA_is q1 r'; rw [show u = Value.none from r] at this; cases k' <;> cases this
 ·rfl
 ·have e : Value.none = Value.ref b' := (show u = Value.none from r).symm.trans r'; cases e
 ·have := uA_is q1 r'; rw [show u = Value.ref b from r] at this; cases k' <;> cases this
 ·have e : Value.ref b = Value.none := (show u = Value.ref b from r).symm.trans r'; cases e
 ·have e : Value.ref b = Value.ref b' := (show u = Value.ref b from r).symm.trans r'
  cases e
  rw [h1] at q1
  cases q1
  rw [h2] at q2
  cases q2
  rfl
end
def hQ (P : Program) (w : World) : Option (Key ⊕ List Key) -> Int
 | none => 0xFCA86420
 | some (.inl k) => keyH w k
 | some (.inr ks) => tupleKeyHash (mixKind P w) ks
section
variable {K : PySem.W.Frag} {φ : Nat -> Addr} {n : Nat} {H : Hp}
theorem RelU.len : ∀ {kws : List (W × W)} {kvs : List (V × V)}, RelU K φ n H kws kvs -> kws.length = kvs.length
 | _, _, .nil => rfl
 | _, _, .cons _ _ r => congrArg (· + 1) (RelU.len r)
theorem RelU.get : ∀ {kws : List (W × W)} {kvs : List (V × V)} {i : Nat} {q : V × V}, RelU K φ n H kws kvs -> kvs[i]? = some q -> ∃ p, kws[i]? = some p /\ RelW K φ n H p.1 q.1 /\ RelW K φ n H p.2 q.2
 | _, _, _, _, .nil, e => by simp at e
 | _, _, 0, _, .cons hk h _, e => by simp at e; subst e; exact ⟨_, rfl, hk, h⟩
 | _, _, i + 1, q, .cons _ _ r, e => by
  obtain ⟨p, h1, h2⟩ := RelU.get (i := i) (q := q) r (by simpa using e)
  exact ⟨p, by simpa using h1, h2⟩
end
theorem Paired.right {α β : Type} {F : α -> β -> Prop} : ∀ {l : List α} {m : List β} {i : Nat} {b : β}, Paired F l m -> m[i]? = some b -> ∃ a, l[i]? = some a /\ F a b
 | _, _, _, _, .nil, e => by simp at e
 | _, _, 0, _, .cons h _, e => by simp at e; subst e; exact ⟨_, rfl, h⟩
 | _, _, i + 1, b, .cons _ r, e => by
  obtain ⟨a, h1, h2⟩ := Paired.right (i := i) (b := b) r (by simpa using e)
  exact ⟨a, by simpa using h1, h2⟩
theorem Paired.left {α β : Type} {F : α -> β -> Prop} : ∀ {l : List α} {m : List β} {i : Nat} {a : α}, Paired F l m -> l[i]? = some a -> ∃ b, m[i]? = some b /\ F a b
 | _, _, _, _, .nil, e => by simp at e
 | _, _, 0, _, .cons h _, e => by simp at e; subst e; exact ⟨_, rfl, h⟩
 | _, _, i + 1, a, .cons _ r, e => by
  obtain ⟨b, h1, h2⟩ := Paired.left (i := i) (a := a) r (by simpa using e)
  exact ⟨b, by simpa using h1, h2⟩
theorem vals_get : ∀ {xs : List V} {us : List Value}, xs.length = us.length -> (∀ (j : Nat) x u, xs[j]? = some x -> us[j]? = some u -> L2.RelV x u) -> Vals xs us
 | [], [], _, _ => .nil
 | [], _ :: _, h, _ => by simp at h
 | _ :: _, [], h, _ => by simp at h
 | x :: xs, u :: us, h, k => .cons (k 0 x u rfl rfl) (vals_get (by simpa using h) fun j y v h1 h2 => k (j + 1) y v (by simpa using h1) (by simpa using h2))
theorem keyIs_rel {P : Program} {w : World} {k : Key} {u : Value} (h : (mixKind P w).is k u = true) : L2.RelV (kV k) u := by
 rcases keyIs_shape h with ⟨i, t, rfl, rfl⟩ | ⟨x, t, rfl, rfl⟩
 ·exact ⟨t, rfl⟩
 ·exact ⟨t, rfl⟩
section
variable {X : Cx} {pins : List (Addr × Obj)} {σ : L2.St} {H : Hp} {s : Shared}
theorem dk_look (I : Inv X pins σ H s) {d : Addr} {kvs : List (Key × V)} (hd : H d = some (.dK kvs) \/ (H d = some (.dT []) /\ kvs = [])) : ∃ vs, KV kvs vs /\ s.heap.DictOf (mixKind X.prog X.w) d vs /\ (d == sysModules) = false /\ kvs.length <= sizeLine := by
 rcases hd with e | ⟨e, rfl⟩
 ·obtain ⟨z, y, vs, rel, dd⟩ := dk_of I.hok e
  exact ⟨vs, rel, dd, y, z⟩
 ·obtain ⟨z, y, vs, rel, dd⟩ := dk_of (kvs := []) (inv_tk I e).hok upd_same
  exact ⟨vs, rel, dd, y, z⟩
theorem keys_vals {kvs : List (Key × V)} {vs : List (Key × Value)} {acc : Array Value} (rel : KV kvs vs) (hacc : ItemsOf (fun i v => ∃ k x, vs[i]? = some (k, x) /\ (mixKind X.prog X.w).is k v = true) acc vs.length) : Vals (kvs.map fun kv => kV kv.1) acc.toList := by
 have hk := rel.keys
 refine vals_get (by have e1 := rel.length; have e2 := hacc.1; have e3 : acc.toList.length = acc.size := Array.length_toList; rw [List.length_map]; omega) fun j x u h1 h2 => ?_
 obtain ⟨k, y, e, hi⟩ := hacc.2 j u (by simpa using h2)
 rw [List.getElem?_map] at h1
 obtain ⟨kv, e1, rfl⟩ := Option.map_eq_some_iff.mp h1
 have e2 : (kvs.map (·.1))[j]? = some kv.1 := by rw [List.getElem?_map, e1]; rfl
 rw [hk, List.getElem?_map, e] at e2
 have e3 : k = kv.1 := by simpa using e2
 rw [<- e3]
 exact keyIs_rel hi
end
def rListD : List V -> Hp -> VK -> Prop := fun xs H Q => ∃ d kvs, xs = [.ref d] /\ (H d = some (.dK kvs) \/ (H d = some (.dT []) /\ kvs = [])) /\ ∀ p, H p = none -> Q (.ref p) (upd H p (.lst (kvs.map fun kv => kV kv.1)))
section
variable {X : Cx}
theorem call_listD (hc : X.calm = true) : CallR X (.type "list") rListD := by
 intro pins s σ H xs us Q I r h
 obtain ⟨d, kvs, rfl, hd, h⟩ := h
 obtain ⟨u, rfl, rx⟩ := vals1 r
 obtain rfl : u = Value.ref d := rx
 obtain ⟨vs, rel, dd, y, z⟩ := dk_look I hd
 obtain ⟨ep, hat⟩ := dd.dictAt
 refine PySem.W.kdl_call (PySem.W.kdl_dict (knd := mixKind X.prog X.w) (kvs := vs) (ep := ep) y) (I.ok.hd hc) hat (by rw [<- rel.length]; exact z) fun h' tk acc c hk hD hacc => ⟨.ref s.heap.objs.size, _, I.laid (t' := tk) (a := s.heap.objs.size) (o := .lst (kvs.map fun kv => kV kv.1)) (fun b u q => hk b u q) (Nat.le_refl _) ⟨by simpa using z, acc.toList, c, keys_vals rel hacc, by simpa using hD⟩, rfl, h _ (I.hok.fresh (Nat.le_refl _))⟩
def rSort (K : PySem.W.Frag) : List V -> Hp -> VK -> Prop := fun xs H Q => ∃ (l : Addr) (ns : List Int), xs = [.ref l] /\ (SqL K H l (ns.map V.int) \/ ∃ kvs : List (Key × V), (H l = some (.dK kvs) \/ (H l = some (.dT []) /\ kvs = [])) /\ (kvs.map fun kv => kV kv.1) = ns.map V.int) /\ ns.length < 64 /\
 ∀ (p : Addr) (ns' : List Int), H p = none -> ns'.Perm ns -> ns'.Pairwise (· <= ·) -> Q (.ref p) (upd H p (.lst (ns'.map V.int)))
theorem vals_of_ints : ∀ {us : List Value} {ns : List Int}, IntsAre us ns -> Vals (ns.map V.int) us := by
 intro us ns h
 have hl := IntsAre.length h
 refine vals_get (by rw [List.length_map, hl]) fun j x u h1 h2 => ?_
 rw [List.getElem?_map] at h1
 obtain ⟨n, e1, rfl⟩ := Option.map_eq_some_iff.mp h1
 obtain ⟨m, t, e, e3⟩ := IntsAre.at h j u h2
 rw [e1] at e3
 cases e3
 exact ⟨t, e⟩
theorem gather {A : Around} {E : Value -> Shared -> Prop} {s : Shared} {T : String} {r d : Addr} {n : Nat} {P : Nat -> Value -> Prop} {OK : Heap -> Prop} {Y : List Value -> Shared -> Prop} (src : PySem.W.KdlSrc X.prog X.w T r d n P OK) (calm : A.handled = none) (ok : OK s.heap) (fit : n <= sizeLine)
  (go : ∀ (h' : Heap) (tk : Nat) (acc : Array Value), (∀ b o, s.heap.get? b = some o -> h'.get? b = some o) -> s.heap.objs.size < h'.objs.size -> ItemsOf P acc n -> Y acc.toList { s with heap := h', toks := tk }) :
  wpAny (model X.prog X.w) A (collect (.ref r)) Y E s := by
 have low := src.there _ ok
 generalize hN : s.heap.objs.size = N at low go
 have at0 : (s.heap.push { cls := .type "list", data := .seq ([] : List Value).toArray }).get? N = some { cls := .type "list", data := .seq #[] } := by rw [<- hN]; exact Heap.get?_push_size _ rfl
 have ok1 : OK (s.heap.push { cls := .type "list", data := .seq ([] : List Value).toArray }) := src.keep _ _ ok fun _ _ _ q => Heap.get?_push_of_some _ q
 unfold collect
 refine wpAny_bind (wpAny_runValue (codeAny_builtin entry_proto_collect' ?_))
 rw [Around.under_plainId F.plain_proto_collect _]
 refine wpAny_bind (m := newList []) (wpAny_newObj_type (wpAny_pure ⟨plainId_quiet F.plain_list_iadd _, codeAny_builtin entry_list_iadd' ?_⟩))
 rw [Around.under_plainId F.plain_list_iadd _, hN]
 have main := PySem.W.kdl_extend (A := A) (s := { s with heap := s.heap.push { cls := .type "list", data := .seq ([] : List Value).toArray } }) src calm ok1 N (Nat.ne_of_gt low.1) (Nat.ne_of_gt low.2) (.ref N) 0 at0
  (R := fun q s' => q = .ok (.ret (.ref N)) /\ ∃ (h' : Heap) (tk : Nat) (acc : Array Value) (c : Nat), s' = { s with heap := h', toks := tk } /\ (∀ b o, s.heap.get? b = some o -> h'.get? b = some o) /\ h'.get? N = some { cls := .type "list", dict := none, data := .seq acc c, slots := #[] } /\ ItemsOf P acc n)
  (fun h' tk acc c k1 k2 k3 => ⟨rfl, h', tk, acc, c, rfl, fun b o q => k1 b o (by rw [<- hN]; exact Nat.ne_of_lt (Heap.lt_size q)) (Heap.get?_push_of_some _ q), k2, k3⟩) fit
 have last : ∀ s', (∃ (h' : Heap) (tk : Nat) (acc : Array Value) (c : Nat), s' = { s with heap := h', toks := tk } /\ (∀ b o, s.heap.get? b = some o -> h'.get? b = some o) /\ h'.get? N = some { cls := .type "list", dict := none, data := .seq acc c, slots := #[] } /\ ItemsOf P acc n) →
   wpAny (model X.prog X.w) A (do
    let o <- load N
    match o.data with
    | .seq xs _ => pure xs.toList
    | _ => unsupported "internal:collect") Y E s' := by
  rintro s' ⟨h', tk, acc, c, rfl, k1, k2, k3⟩
  exact wpAny_bind (wpAny_load k2 (wpAny_pure (go h' tk acc k1 (Heap.lt_size k2) k3)))
 refine wpAny_mono main (fun fin s' x => ?_) fun e s' x => nomatch x.1
 cases fin with
 | done f =>
  obtain ⟨q, x⟩ := x
  cases q
  exact last s' x
 | again c₁ =>
  refine ⟨x.1, codeAny_mono x.2 fun q s₂ y => ?_⟩
  obtain ⟨rfl, y⟩ := y
  exact last s₂ y
theorem call_sort (hc : X.calm = true) : CallR X (.builtin "sorted") (rSort X.K) := by
 intro pins s σ H xs us Q I r h
 obtain ⟨l, ns, rfl, hl, h64, h⟩ := h
 obtain ⟨u, rfl, rx⟩ := vals1 r
 obtain rfl : u = Value.ref l := rx
 have z64 : (64 : Nat) <= sizeLine := by decide
 rcases hl with hl | ⟨kvs, hd, hkv⟩
 ·obtain ⟨its, rv, pl, hz⟩ := I.list hl
  have hi : IntsAre its ns := intsAre_of rv
  have hll := IntsAre.length hi
  refine sorted_ints (vs := its) pl.isList hi (by omega) fun out ns' a1 a2 a3 => ?_
  obtain ⟨e, he⟩ := sortedAll_at s.heap its out
  have hl2 := a2.length_eq
  exact ⟨.ref (s.heap.objs.size + 1), _, I.laid (t' := s.toks) (a := s.heap.objs.size + 1) (o := .lst (ns'.map V.int)) (fun b u q => sortedAll_old q) (Nat.le_succ _) ⟨by rw [List.length_map]; omega, out.toList, e, vals_of_ints a1, by simpa using he⟩, rfl, h _ ns' (I.hok.fresh (Nat.le_succ _)) a2 a3⟩
 ·obtain ⟨vs, rel, dd, y, z⟩ := dk_look I hd
  obtain ⟨ep, hat⟩ := dd.dictAt
  refine Calls.call_function_entry kind_sorted plain_sorted entry_sorted (args_sorted1 _) ?_
  unfold Builtin.«sorted»
  refine wpAny_bind (m := checkCount "sorted" 1 1 _) (wpAny_pure ?_)
  refine wpAny_bind (gather (A := X.A.in1) (PySem.W.kdl_dict (knd := mixKind X.prog X.w) (kvs := vs) (ep := ep) y) (I.ok.hd hc) hat (by rw [<- rel.length]; exact z) fun h' tk acc hk hgrow hacc => ?_)
  have rv := keys_vals rel hacc
  rw [hkv] at rv
  have hi : IntsAre acc.toList ns := intsAre_of rv
  have hll := IntsAre.length hi
  refine wpAny_bind (wpAny_newList ?_ (by omega))
  have ho : (h'.push (seqObj "list" acc.toList.toArray 0)).get? h'.objs.size = some (seqObj "list" acc.toList.toArray 0) := Heap.get?_push_size _ rfl
  refine wpAny_bind (wpAny_holding (wpAny_call_entry slot_list_sort ⟨_, ho, rfl⟩ entry_list_sort (list_sort_tree ho hi (by omega) fun out ns' a1 a2 a3 => ⟨_, rfl, ?_⟩) (args_list_sort _)))
  obtain ⟨e, he⟩ := sortedHeap_at (out := out) ho
  have hl2 := a2.length_eq
  refine wpAny_pure ⟨_, rfl, .ref h'.objs.size, _, I.laid (t' := tk) (a := h'.objs.size) (o := .lst (ns'.map V.int)) (fun b u q => ?_) (Nat.le_of_lt hgrow) ⟨by rw [List.length_map]; omega, out.toList, e, vals_of_ints a1, by simpa using he⟩, rfl, h _ ns' (I.hok.fresh (Nat.le_of_lt hgrow)) a2 a3⟩
  have hb := hk b u q
  have hlt := Heap.lt_size hb
  rw [sortedHeap_old (Nat.ne_of_lt hlt) (Nat.lt_of_lt_of_le hlt (by rw [size_push']; exact Nat.le_succ _)), Heap.get?_push_ne _ _ _ (Nat.ne_of_lt hlt)]
  exact hb
end
theorem noEx_run {α : Type} {m : Mo α} {ph : PH} {N : α -> PH -> Prop} {E : XC -> PH -> Prop} (h : (noEx m ph).Run N E) : ∃ a ph', m ph = .ok a ph' /\ N a ph' := by
 unfold noEx at h
 cases e : m ph with
 | ok a ph' => rw [e] at h; exact ⟨a, ph', rfl, h⟩
 | ex x ph' => rw [e] at h; exact h.elim
 | no => rw [e] at h; exact h.elim
def fLm (body : EM) (cs args : List W) : Mo W := match args, cs with
 | [a], [c] => noEx (body [some a, some c])
 | _, _ => nop
def appW (x : Str) (k : List W -> Mo W) : W -> Mo W
 | .fn z cs => if z = x then k cs else nop
 | _ => nop
def eApp (x : Str) (body : EM) (i : Nat) (a : AM) : EM := fun σ => match σ[i]? with
 | some (some w) => appW x (fun cs => bnd (a σ) fun ws => fLm body cs ws) w
 | _ => nop
structure LamS (L : Lam) (p q : Str) : Prop where
 kind : L.sc.kind = .function
 co : L.sc.isCoroutine = false
 gen : L.sc.isGenerator = false
 cell : ∀ y ∈ L.sc.names, y.2 ≠ .cell
 par : L.sc.names.lookup p = some .local
 cap : L.sc.names.lookup q = some .free
 only : ∀ y, L.sc.names.lookup y = some .free -> y = q
 bind : ∀ qual cl pm v ctv u, bindArgs (PySem.W.kla_fn "<lambda>" qual L.ar L.bd L.sc cl pm v ctv) ⟨[u], []⟩ = pure [(p, u)]
def lamX (X : Cx) (p q : Str) (L : Lam) (x : Str) (a : Addr) (v : Value) (cl : List (Str × Addr)) (s : Shared) (H : Hp) : Cx :=
 let env := PySem.W.envX (lamQ x) L.sc s.heap.objs.size a v cl
 { X with A := X.A.deeper env, N := [p, q], s₀ := s, H₀ := H, env := env, outer := X.stack, stack := env :: X.stack, ex := [], calm := true, fn := fun _ => false, pn := [], xe := fun _ _ => False }
section
variable {X : Cx} {pins : List (Addr × Obj)} {σ : L2.St} {H : Hp} {s : Shared}
theorem lam_inv {p q x : Str} {L : Lam} {a c : Addr} {v : Value} {u : Value} {va vc : V} {oc : Obj} {uc : Value} {h₁ : Heap} {tk : Nat} (I : Inv X pins σ H s) (S : LamS L p q) (hr : X.A.handled = none) (hc : H c = some (.frz oc hoAny)) (hcd : oc.data = .cell (some uc))
    (rc : RelV vc uc) (ra : RelV va u) (hns : h₁.Ns s.heap.objs.size (fun y => [(p, u)].reverse.lookup y)) (hk : ∀ b o, s.heap.get? b = some o -> h₁.get? b = some o) :
    Inv (lamX X p q L x a v [(q, c)] s H) [] [some va, some vc] H { s with heap := h₁, toks := tk } := by
  have isc : h₁.IsCell c (some uc) := ⟨oc, hk _ _ (I.hok c _ hc).1, hcd⟩
  have lk : ∀ y d, List.lookup y [(q, c)] = some d -> y = q /\ d = c := fun y d e => by
    rw [List.lookup_cons] at e
    split at e
    · rename_i z; cases e; exact ⟨eq_of_beq z, rfl⟩
    · cases e
  have ok : (lamX X p q L x a v [(q, c)] s H).Ok :=
    { mod := I.ok.mod
      kind := S.kind
      glob := rfl
      blt := rfl
      above := Nat.le_refl _
      inj := fun y z d h1 h2 => (lk y d h1).1.trans (lk z d h2).1.symm
      has := fun y hy => by
        have hy : L.sc.names.lookup y = some .cell \/ L.sc.names.lookup y = some .free := hy
        rcases hy with hy | hy
        · exact absurd rfl (S.cell _ (PySem.mem_of_lookup hy))
        · exact ⟨c, by show List.lookup y [(q, c)] = _; rw [S.only y hy, List.lookup_cons]; simp⟩
      cab := fun y d hz => nomatch hz
      hd := fun _ => hr
      frames := Around.frames_deeper I.ok.frames
      stk := .inr ⟨rfl, rfl⟩
      exf := fun b hb => nomatch hb
      bs := I.bs
      bsz := Nat.le_trans I.ok.bsz I.sz
      noex := fun b o e hb => nomatch hb
      exfs := fun b hb => nomatch hb
      funs := I.stack
      frf := I.stkFree }
  refine ⟨ok, rfl, I.bare, Un.kept hk, ⟨_, hns, fun i y w e1 e2 _ => ?_⟩, fun y d e => ?_, I.hok.fresh (Nat.le_refl _), fun y d e => ⟨(fun z => nomatch z), .inr ?_⟩, (fun p hp => nomatch hp), I.hok.kept hk, rfl⟩
  · match i, e1, e2 with
    | 0, e1, e2 =>
      cases e1
      cases e2
      exact ⟨u, ra, .inl ⟨S.par, by simp⟩⟩
    | 1, e1, e2 =>
      cases e1
      cases e2
      exact ⟨uc, rc, .inr ⟨.inr S.cap, c, by show List.lookup _ [(_, c)] = _; rw [List.lookup_cons]; simp, isc⟩⟩
    | i + 2, e1, e2 => cases e1
  · obtain ⟨rfl, rfl⟩ := lk y d e
    exact ⟨_, isc⟩
  · obtain ⟨rfl, rfl⟩ := lk y d e
    exact ⟨oc, hc⟩
theorem cells_one {H : Hp} {cl : List (Str × Addr)} {v : V} (h : CellsV H cl [v]) : ∃ q c oc u, cl = [(q, c)] /\ H c = some (.frz oc hoAny) /\ oc.data = .cell (some u) /\ RelV v u := by
 cases cl with
 | nil => exact h.elim
 | cons a cl =>
  cases cl with
  | nil => obtain ⟨⟨oc, u, h1, h2, h3⟩, _⟩ := h; exact ⟨a.1, a.2, oc, u, rfl, h1, h2, h3⟩
  | cons b cl => exact h.2.elim
theorem ie_app {x y p q : Str} {L : Lam} {i k : Nat} {e : Expr} {a : AM} {body : EM} {pp pos : Pos} (hl : lamIn X.K x = some L) (S : LamS L p q) (hr : Room (k + 1) X.A) (hN : X.N[i]? = some y) (hv : Vis X.env.scope y)
  (hb : ∀ a v cl s H, Room k (lamX X p q L x a v cl s H).A -> IE (lamX X p q L x a v cl s H) L.bd body) (ha : IA X [e] a)
  (hd : (y == ("__debug__" : Str)) = false := by decide) (hcd : (y == ("__classdict__" : Str)) = false := by decide) (he : starEach [e] X.env = (false, eval e X.env) :: starEach [] X.env := by rfl) (hpl : (backTo pos (starEach [] X.env)).any (·.1) = false := by rfl) :
  IE X (.Call (.Name y pp) [e] [] pos) (eApp x body i a) := by
 intro pins s σ H Q I h
 obtain ⟨φ, ph, ws, hH, hS, h⟩ := h
 unfold eApp at h
 cases ew : ws[i]? with
 | none => simp only [ew] at h; exact h.elim
 | some ow =>
 cases ow with
 | none => simp only [ew] at h; exact h.elim
 | some w0 =>
 simp only [ew] at h
 cases w0 with
 | fn z cs =>
  simp only [appW] at h
  by_cases hz : z = x
  ·rw [if_pos hz] at h
   subst hz
   obtain ⟨vf, ev, rf⟩ := hS.get ew
   cases rf with
   | fn hf hlam hcs rcs =>
   rename_i fa vs o cl
   refine wpAny_Call_Name_kw (thn (pe_var hN hv hd hcd pins s σ H (fun v H' => v = .ref fa /\ H' = H) I ⟨_, ev, rfl, rfl⟩) fun uf s0 ⟨v0, H0, I0, r0, e0⟩ => ?_)
   obtain ⟨e01, e02⟩ := e0
   subst e01
   subst e02
   obtain rfl : uf = Value.ref fa := r0
   obtain ⟨L', pm, cv, ctv, el, eo, hcg, hinj⟩ := hlam
   rw [hl] at el
   cases el
   have fnat : ∀ {σ' : L2.St} {H' : Hp} {s' : Shared}, Inv X pins σ' H' s' -> H' fa = some (.frz o hoAny) -> PySem.W.FnAt fa s'.heap := fun J hz => by
    have := (J.hok fa _ hz).1
    rw [eo] at this
    exact ⟨_, _, _, _, this⟩
   refine PySem.W.callWith_F (fnat I0 hf) (thn (ha pos pins s0 σ H0 (fun vs1 H1 => ∃ φ1 ph1 xs, RelH X.K φ1 ph1 H1 /\ Step X.K φ ph.length H0 φ1 ph1.length H1 /\ RelWs X.K φ1 ph1.length H1 xs vs1 /\ (fLm body cs xs ph1).Run (fun w ph' =>
    ∀ φ' H' v, RelH X.K φ' ph' H' -> Step X.K φ ph.length H0 φ' ph'.length H' -> RelW X.K φ' ph'.length H' w v -> Q v H') (XE X φ1 ph1.length H1)) I0
    (tA.bind hH hS h fun xs ph1 φ1 H1 vs1 hH1 s1 r1 h => ⟨φ1, ph1, xs, hH1, s1, r1, h⟩)) fun us s1 ⟨vs1, H1, I1, r1, φ1, ph1, xs, hH1, st1, rx, hrun⟩ => ⟨fnat I1 (st1.frz _ _ _ hf), ?_⟩) he hpl
   unfold fLm at hrun
   split at hrun
   ·rename_i wa wc
    cases rx with
    | cons ra rn =>
    cases rn
    cases rcs with
    | cons rc rn2 =>
    cases rn2
    rename_i va vc
    obtain ⟨u, rfl, rau⟩ := Vals.one r1
    obtain ⟨q', c, oc, uc, rfl, hcc, hcd', rcu⟩ := cells_one hcs
    have hcc := st1.frz _ _ _ hcc
    have hcg := hcg.mono fun a o z => st1.frz a o _ z
    obtain ⟨c', oc', vs', t', rfl, hc', hd', hv'⟩ := hcg
    obtain ⟨cq, hq⟩ := hinj q S.cap
    have eq1 : q' = q := by
     rw [List.lookup_cons] at hq
     split at hq
     ·rename_i z; exact (eq_of_beq z).symm
     ·cases hq
    subst eq1
    obtain ⟨w, ph', ebody, hQ⟩ := noEx_run hrun
    have ho := (I1.hok fa _ (st1.frz _ _ _ hf)).1
    rw [eo] at ho
    show wpAny (model X.prog X.w) X.A (call (.ref fa) [u]) _ _ _
    refine wpAny_call (codeAny_mono (R := fun r s' => match r with | .ok (.ret v) => CE X.stack X.prog X.w H1 s1 Q v s' | _ => False) ?_ fun r s' hq => ?_)
    ·refine PySem.W.kla_callFunE (hr.depth) ho rfl S.co S.gen rfl ⟨c', oc', vs', t', rfl, (I1.hok c' _ hc').1, hd', hv'⟩ ?_
     rw [S.bind]
     refine wpAny_pure (wpAny_newFunctionEnv S.cell (fun y hy => by rw [List.mem_singleton.mp hy]; exact S.par) (fun h₁ hns hsb => ⟨I1.nolimit.fresh _ hsb, ?_⟩) S.kind)
     have hk₁ : ∀ b o, s1.heap.get? b = some o -> h₁.get? b = some o := fun b o e => hsb.extBut b o (Nat.ne_of_lt (Heap.lt_size e)) (Heap.get?_push_of_some _ e)
     refine PySem.W.kla_codeExpr ?_
     have J := lam_inv (x := z) (a := fa) (v := .ref c') (tk := s1.toks + [(p, u)].length) I1 S hr.hd hcc hcd' rcu rau hns hk₁
     refine wpAny_mono (hb fa (.ref c') [(q', c)] s1 H1 (hr.deeper _) [] _ _ H1 Q J ⟨φ1, ph1, _, hH1, .sm ra (.sm (rc.mono st1) .nil), ?_⟩) (fun v s' hv => ?_) fun e s' hz => hz.elim
     ·rw [ebody]
      exact fun φ' H' v r1 s1 r2 => hQ φ' H' v r1 (st1.trans s1) r2
     ·obtain ⟨v0, H', J', rv, q0⟩ := hv
      exact ⟨v0, H', J'.os, J'.bare, J'.base, J'.hok, rv, q0⟩
    ·cases r with
     | error e => exact hq.elim
     | ok fl =>
      cases fl with
      | ret u => exact I1.after hq
      | _ => exact hq.elim
   ·exact hrun.elim
  ·rw [if_neg hz] at h; exact h.elim
 | _ => exact h.elim
end
def tLam (K : PySem.W.Frag) (x : Str) (P : Addr) (cl : List (Str × Addr)) : TE := fun σ H Q => TabG H x P /\ ∀ a o H2, H a = none -> H2 a = some (.frz o hoAny) -> LamO K H2 x o cl -> (∀ b u, H b = some u -> (∀ ps, u ≠ .tbl ps) -> H2 b = some u) →
 (∀ b ps, b ≠ P -> H b = some (.tbl ps) -> H2 b = some (.tbl ps)) -> TabG H2 x P -> Q (.ref a) H2
theorem triples_app : ∀ {l : List Value} {i j : Int} {t u : Tok} {v : Value}, PySem.TriplesOk l -> PySem.TriplesOk (l ++ [.int i t, .int j u, v]) := by
 intro l i j t u v h
 fun_induction PySem.TriplesOk l with
 | case1 => exact trivial
 | case2 a b c d e rest ih => exact ih h
 | case3 => exact h.elim
theorem among_app {pos : Pos} {w : Value} : ∀ {l : List Value} {i j : Int} {t u : Tok} {v : Value}, PySem.TriplesOk l -> codeAmong pos (l ++ [.int i t, .int j u, v]) = some w -> codeAmong pos l = some w \/ w = v := by
 intro l i j t u v h e
 fun_induction PySem.TriplesOk l with
 | case1 =>
  simp only [List.nil_append, codeAmong] at e
  split at e
  ·cases e; exact .inr rfl
  ·cases e
 | case2 a b c d e' rest ih =>
  simp only [List.cons_append, codeAmong] at e ⊢
  split at e
  ·rename_i hz
   rw [if_pos hz]
   exact .inl e
  ·rename_i hz
   rw [if_neg hz]
   exact ih h e
 | case3 => exact h.elim
section
variable {X : Cx}
theorem pe_lam {x : Str} {L : Lam} {c P : Addr} {oc : Obj} {cl : List (Str × Addr)} (hl : lamIn X.K x = some L) (hq : X.env.qual = x ++ ".<locals>.") (hg0 : X.env.globals = mainGlobals) (hcode : X.env.code = .ref c) (hco : X.K.lookup c = some oc) (hP : codeTab oc = some P) (hcP : c ≠ P)
  (hclo : closureFor L.sc X.env = pure cl) (hfr : ∀ y, L.sc.names.lookup y = some .free -> ∃ c, cl.lookup y = some c) (hdef : defaultsOf L.ar X.env = ([], [])) : PE X (.Lambda L.ar L.bd L.sc L.pos) (tLam X.K x P cl) := by
 intro pins s σ H Q I h
 obtain ⟨⟨ps, hT, hTr, hG⟩, h⟩ := h
 have C : PySem.W.CodeHd s.heap c P := codeHd_of (I.kIn _ _ hco) hP hcP
 have hPo : s.heap.get? P = some (PySem.W.tabObj ps) := I.hok P _ hT
 have hgs : s.heap.Ns mainGlobals X.mg := I.ok.mod.glob.keeps I.bk
 obtain ⟨bm, ob, b1, b2, b3, b4, b5, b6⟩ := I.ok.mod.bm
 have b3' := I.bk _ _ b3
 have hgP : mainGlobals ≠ P := fun z => by
  obtain ⟨o, es, ep, e, hd, _⟩ := hgs
  rw [z, hPo] at e; cases e; cases hd
 have hbP : bm ≠ P := fun z => by rw [z, hPo] at b3'; cases b3'; cases b4
 have hbG : bm ≠ mainGlobals := fun z => by
  obtain ⟨o, es, ep, e, hd, _⟩ := hgs
  rw [z, e] at b3'; cases b3'; rw [hd] at b6; cases b6
 have hB : s.heap.BuiltinsAt X.mg P := ⟨bm, ob, b1, b2, hbG, hbP, b3', b4, b5, b6⟩
 refine PySem.W.kla_eval hdef ?_
 rw [hq]
 cases hf : codeAmong L.pos ps.toList with
 | some cv =>
  refine PySem.W.kla_makeFunctionHit hclo hg0 hgs hcode C hPo hTr hf hB fun ctv h' tk hk hsz => ?_
  have hnew : H h'.objs.size = none := I.hok.fresh hsz
  have hCG := hG _ _ hf
  refine ⟨.ref h'.objs.size, _, I.laid (a := h'.objs.size) (o := .frz { cls := .type "function", data := .func (PySem.W.kla_fn "<lambda>" (lamQ x) L.ar L.bd L.sc cl ((X.mg "__name__").getD .none) cv ctv) } hoAny) (t' := tk) (fun b u e => Heap.get?_push_of_some _ (hk b u e)) hsz ⟨Heap.get?_push_size _ rfl, trivial, ⟨_, Heap.get?_push_size _ rfl⟩, fun _ _ _ _ => trivial⟩, rfl, h _ _ _ hnew upd_same ?_ (fun b u e _ => ?_) (fun b ps' _ e => ?_) ?_⟩
  ·exact ⟨L, _, cv, ctv, hl, rfl, hCG.mono fun a o z => by rw [upd_ne (ne_of_none z hnew)]; exact z, hfr⟩
  ·rw [upd_ne (ne_of_none e hnew)]; exact e
  ·rw [upd_ne (ne_of_none e hnew)]; exact e
  ·exact TabG.new ⟨ps, hT, hTr, hG⟩ hnew
 | none =>
  refine PySem.W.kla_makeFunction hclo hg0 hgs hcode C hPo hTr hf hgP hB fun c' ctv h' tk hx hge hlt hrec htb => ?_
  obtain ⟨c2, oc2, vs2, t2, e2, hoc2, hd2, hv2⟩ := hrec
  cases e2
  have hPs : P < s.heap.objs.size := Heap.lt_size hPo
  have nc : H c' = none := I.hok.fresh hge
  have na : H h'.objs.size = none := I.hok.fresh (Nat.le_trans hge (Nat.le_of_lt hlt))
  have Pc : P < c' := Nat.lt_of_lt_of_le hPs hge
  have cP : c' ≠ P := Nat.ne_of_gt Pc
  have aP : h'.objs.size ≠ P := Nat.ne_of_gt (Nat.lt_trans Pc hlt)
  have ac : h'.objs.size ≠ c' := Nat.ne_of_gt hlt
  have keep : ∀ {ob : Obj} (b : Addr) (u : Obj), b ≠ P -> s.heap.get? b = some u -> (h'.push ob).get? b = some u := fun b u n e => Heap.get?_push_of_some _ (hx b u n e)
  have lt : ∀ {b : Addr} {u : Obj}, s.heap.get? b = some u -> b ≠ c' /\ b ≠ h'.objs.size := fun {b u} e => ⟨Nat.ne_of_lt (Nat.lt_of_lt_of_le (Heap.lt_size e) hge), Nat.ne_of_lt (Nat.lt_of_lt_of_le (Heap.lt_size e) (Nat.le_trans hge (Nat.le_of_lt hlt)))⟩
  obtain ⟨fo, efo⟩ : ∃ fo : Obj, fo = { cls := .type "function", data := .func (PySem.W.kla_fn "<lambda>" (lamQ x) L.ar L.bd L.sc cl ((X.mg "__name__").getD .none) (.ref c') ctv) } := ⟨_, rfl⟩
  obtain ⟨ps2, eps⟩ : ∃ ps2 : Array Value, ps2 = ps ++ #[rawInt L.pos.line, rawInt L.pos.col, .ref c'] := ⟨_, rfl⟩
  rw [<- eps] at htb
  obtain ⟨H2, eH⟩ : ∃ H2 : Hp, H2 = upd (upd (upd H P (.tbl ps2)) c' (.frz oc2 hoAny)) h'.objs.size (.frz fo hoAny) := ⟨_, rfl⟩
  have h2a : H2 h'.objs.size = some (.frz fo hoAny) := by rw [eH]; exact upd_same
  have h2c : H2 c' = some (.frz oc2 hoAny) := by rw [eH, upd_ne (Ne.symm ac)]; exact upd_same
  have h2P : H2 P = some (.tbl ps2) := by rw [eH, upd_ne (Ne.symm aP), upd_ne (Ne.symm cP)]; exact upd_same
  have h2o : ∀ b, b ≠ h'.objs.size -> b ≠ c' -> b ≠ P -> H2 b = H b := fun b n1 n2 n3 => by rw [eH, upd_ne n1, upd_ne n2, upd_ne n3]
  have nP : ∀ b u, H b = some u -> (∀ ps, u ≠ .tbl ps) -> b ≠ P := fun b u e n z => by rw [z, hT] at e; cases e; exact n _ rfl
  have old : ∀ b u, H b = some u -> b ≠ P -> H2 b = some u := fun b u e n => (h2o b (ne_of_none e na) (ne_of_none e nc) n).trans e
  have hok2 : HOk X.prog X.w H2 (h'.push fo) := fun b u e => by
   by_cases hb1 : b = h'.objs.size
   ·subst hb1
    rw [h2a] at e; cases e
    have hz : (h'.push fo).get? h'.objs.size = some fo := Heap.get?_push_size _ (by rw [efo]; rfl)
    exact ⟨hz, trivial, ⟨_, hz⟩, fun _ _ _ _ => trivial⟩
   by_cases hb2 : b = c'
   ·subst hb2
    rw [h2c] at e; cases e
    exact ⟨Heap.get?_push_of_some _ hoc2, trivial, ⟨_, Heap.get?_push_of_some _ hoc2⟩, fun _ _ _ _ => trivial⟩
   by_cases hb3 : b = P
   ·subst hb3
    rw [h2P] at e; cases e
    exact Heap.get?_push_of_some _ htb
   rw [h2o b hb1 hb2 hb3] at e
   refine (I.hok b u e).stay (fun d v hd q => keep d v ?_ q) (fun d q => old d _ q (nP d _ q fun _ z => nomatch z)) fun d xs q => old d _ q (nP d _ q fun _ z => nomatch z)
   rcases hd with rfl | hd
   ·exact hb3
   ·exact nP d _ hd fun _ z => nomatch z
  have un : Un X.fs [] H H2 s.heap (h'.push fo) := by
   refine ⟨fun b o e n _ _ => keep b o (fun z => by rw [z, hT] at n; cases n) e, fun b o e n _ _ => ⟨o.slots, keep b o (fun z => by rw [z, hT] at n; cases n) e⟩, fun b o e n _ => ?_, fun b o e _ => ?_, fun b xs e => old b _ e (nP b _ e fun _ z => nomatch z), fun b o u e => old b _ e (nP b _ e fun _ z => nomatch z), fun b ps0 e => ?_⟩
   ·rw [h2o b (lt e).2 (lt e).1 (fun z => by rw [z, hT] at n; cases n)]; exact n
   ·by_cases hb : b = P
    ·exact ⟨_, by rw [hb]; exact Heap.get?_push_of_some _ htb⟩
    ·exact ⟨o, keep b o hb e⟩
   ·by_cases hb : b = P
    ·subst hb
     rw [hT] at e; cases e
     exact ⟨_, by rw [h2P, eps]⟩
    ·exact ⟨#[], by rw [old b _ e hb]; simp⟩
  have hl3 : ps2.toList = ps.toList ++ [rawInt L.pos.line, rawInt L.pos.col, .ref c'] := by rw [eps]; simp
  have cg : CodeG H2 (.ref c') x := ⟨c', oc2, vs2, t2, rfl, h2c, hd2, hv2⟩
  show EP X pins σ Q (.ref h'.objs.size) { s with heap := h'.push _, toks := tk }
  rw [show (PySem.W.kla_obj "<lambda>" ((x ++ ".<locals>.") ++ "<lambda>") L.ar L.bd L.sc cl ((X.mg "__name__").getD .none) c' ctv) = fo from efo.symm]
  refine ⟨.ref h'.objs.size, H2, I.un (t' := tk) un hok2, rfl, h _ fo H2 na h2a ⟨L, _, _, ctv, hl, efo, cg, hfr⟩ (fun b u e n => old b u e (nP b u e n)) (fun b ps' n e => old b _ e n) ⟨ps2, h2P, by rw [hl3]; exact triples_app hTr, fun pos v e => ?_⟩⟩
  rw [hl3] at e
  rcases among_app hTr e with e | rfl
  ·exact (hG pos v e).mono fun a o z => old a _ z (nP a _ z fun _ y => nomatch y)
  ·exact cg
end
def fLam (x : Str) (m1 : EM) (fm : List W -> Mo W) (args : List W) : Mo W := match args with
 | [a] => bnd (noEx (m1 [some a])) fun w1 => noEx (fm [w1, .fn x [a]])
 | _ => nop
section
variable {Pg : Program} {w : World} {K : PySem.W.Frag} {mg : Str -> Option Value} {base : Heap}
theorem lamIn_of {x qual : Str} {st : Stmt} {f : Addr} {fd : FuncData} (F : Fun K x qual st f fd) (hn : PySem.W.nsIn K mainGlobals x = some (some (.ref f))) : lamIn K x = lamB (defBody st) := by
 obtain ⟨oc, od, kV, doc, pm, an, cdv, ct, osl, rfl, lk, hcd⟩ := F.ex
 unfold lamIn
 simp only [hn, lk]
theorem fun_lam {x g n : Str} {st : Stmt} {f fg c P : Addr} {fd gd : FuncData} {psg : List Str} {k : Nat} {m1 : EM} {fm : List W -> Mo W} {e1 : Expr} {L : Lam} {p1 p2 p3 : Pos} {oc : Obj} (F : Fun K x x st f fd) (S : FnScope [n] [n] (defScope st))
  (hst : defBody st = [.Return (some (.Call (.Name g p1) [e1, .Lambda L.ar L.bd L.sc L.pos] [] p2)) p3]) (hcl : ∀ j, cellsFrom j (defScope st).names [] = [(n, j)]) (hkn : (defScope st).names.lookup n = some .cell) (hcode : fd.code = .ref c) (hco : K.lookup c = some oc) (hP : codeTab oc = some P) (hcP : c ≠ P)
  (hm : (x, c, P) ∈ lamTabs K) (hone : ∀ p ∈ lamTabs K, p.2.2 = P -> p.1 = x) (hl : lamIn K x = some L) (hclo : ∀ L0 fa cd, closureFor L.sc (envOfC x (defScope st) L0 fa cd) = pure [(n, L0 + 1)]) (hfr : ∀ y, L.sc.names.lookup y = some .free -> y = n)
  (hdef : ∀ env, defaultsOf L.ar env = ([], [])) (hse : ∀ env, starEach [e1, .Lambda L.ar L.bd L.sc L.pos] env = (false, eval e1 env) :: starEach [.Lambda L.ar L.bd L.sc L.pos] env) (hgl : (defScope st).names.lookup g = some .globalImplicit) (hdb : (g == ("__debug__" : Str)) = false)
  (G : FnOk Pg w K mg base (CXW Pg w) k fg gd psg (spM K mg 2 fm)) (hmg : mg g = some (.ref fg)) (hkp : PySem.W.keepIn K (.ref fg) = true) (hbg : Binds K gd psg []) (hpsg : psg.length = 2)
  (he1 : ∀ (cdv : Value) (A : Around) (outer : List Env) (s : Shared) (H : Hp) (E : XK), Room k (A.deeper (envOfC x (defScope st) s.heap.objs.size f cdv)) -> IE (cxOf (CXW Pg w) Pg w K mg base [n] x (defScope st) f cdv A outer s H E) e1 m1) :
  FnOk Pg w K mg base (CXW Pg w) (k + 1) f fd [n] (spM K mg 1 (fLam x m1 fm)) := by
 obtain ⟨oc', od, kV, doc, pm, an, cdv, ct, osl, rfl, lk, hcd⟩ := F.ex
 obtain rfl : cdv = .ref c := hcode
 refine ⟨fun vs H Q E h => h.1, fun A outer s H args us vs Q E hr e0 hb r hsp => ?_⟩
 obtain ⟨hlen, φ, ph, ws, hH, rws, hrun⟩ := hsp
 have KX : K.In s.heap := e0.mod.kin.keeps fun b o e => (e0.bs b o e).1
 have lim : s.heap.NoLimit := e0.mod.nolimit.keeps fun b o e => (e0.bs b o e).1
 have hkind : ∀ y ∈ [n].zip us, (defScope st).names.lookup y.1 = some .local \/ ((defScope st).names.lookup y.1 = some .cell /\ ((cellsFrom (s.heap.objs.size + 1) (defScope st).names []).lookup y.1).isSome = true) := fun ⟨m, v⟩ hy => by
  rcases S.par m (List.of_mem_zip hy).1 with q | q
  ·exact .inl q
  ·exact .inr ⟨q, PySem.W.cellsFrom_some _ _ _ (.inl q)⟩
 refine codeAny_call_function hr.depth (KX _ _ lk) rfl S.co S.gen rfl (PySem.W.codeRec_of KX hcd) (hb _ _ _ _ ?_)
 refine wpAny_newFunctionEnv_cells S.kind hkind fun env he s1 y => ?_
 subst he
 refine ⟨lim.keeps y.toInCall.keep, codeAny_func ?_⟩
 have I : Inv (cxOf (CXW Pg w) Pg w K mg base [n] x (defScope st) f (.ref c) A outer s H E) [] (start [n] vs) H s1 := inv_start S hr.hd e0 hlen r y
 have hr1 : Room k (A.deeper (envOfC x (defScope st) s.heap.objs.size f (.ref c))) := hr.deeper _
 have he1 := he1 (.ref c) A outer s H E hr1
 show wpAny _ _ (execs (defBody st) _) _ _ _
 rw [hst]
 cases rws with
 | nil => exact absurd hlen (by decide)
 | cons ra rn =>
 cases rn with
 | cons _ _ => exact absurd hlen (by simp)
 | nil =>
 rename_i wa va
 unfold fLam at hrun
 rw [run_bnd] at hrun
 obtain ⟨w1, ph1, ew1, hrun⟩ := noEx_run hrun
 obtain ⟨wr, ph2, ewr, hQ⟩ := noEx_run hrun
 have est : start [n] [va] = [some va] := rfl
 rw [est] at I
 obtain ⟨X, eX⟩ : ∃ X, X = cxOf (CXW Pg w) Pg w K mg base [n] x (defScope st) f (.ref c) A outer s H E := ⟨_, rfl⟩
 have key : wpAny (model Pg w) X.A (eval (.Call (.Name g p1) [e1, .Lambda L.ar L.bd L.sc L.pos] [] p2) X.env) (fun u s' => CE outer Pg w H s Q u s') X.xe s1 := by
  subst eX
  have hlamE := pe_lam (X := cxOf (CXW Pg w) Pg w K mg base [n] x (defScope st) f (.ref c) A outer s H E) (cl := [(n, s.heap.objs.size + 1)]) hl rfl rfl rfl hco hP hcP (hclo _ _ _) (fun y hy => ⟨s.heap.objs.size + 1, by rw [hfr y hy, List.lookup_cons]; simp⟩) (hdef _)
  have hPA := pa_cons (hs := hse _) he1 (pa_cons (hs := rfl) hlamE pa_nil)
  refine wpAny_Call_Name_kw (ld_glob I hgl hmg (PySem.W.callWith_K (h₀ := base) e0.mod.kin hkp (thn (hPA p2 [] s1 [some va] H (fun vs' H2 => ∃ v1 a o φ1, vs' = [v1, .ref a] /\ RelH K φ1 ph1 H2 /\ Step K φ ph.length H φ1 ph1.length H2 /\ RelW K φ1 ph1.length H2 w1 v1 /\
   H2 a = some (.frz o hoAny) /\ LamO K H2 x o [(n, s.heap.objs.size + 1)]) I ⟨φ, ph, [some wa], hH, .sm ra .nil, ?_⟩) fun us2 s2 ⟨vs2, H2, I2, r2, v1, a, o, φ1, e2, hH2, st2, rv1, ha2, hlo⟩ => ⟨I2.kIn, ?_⟩) (hse _) rfl) hdb)
  ·rw [ew1]
   intro φ1 H1 v1 hH1 st1 rv1
   refine ⟨hH1.tb _ hm, fun a o H2 na h2a hlo hold htbl htg => ?_⟩
   have frz2 : ∀ b o u, H1 b = some (.frz o u) -> H2 b = some (.frz o u) := fun b o u z => hold b _ z fun _ y => nomatch y
   have st2 : Step K φ1 ph1.length H1 φ1 ph1.length H2 := ⟨Nat.le_refl _, fun _ _ => rfl, (fun b xs z => hold b _ z fun _ y => nomatch y), frz2⟩
   refine ⟨v1, a, o, φ1, rfl, ⟨fun i p e => ?_, hH1.inj, fun p hp => ?_⟩, st1.trans st2, rv1.mono st2, h2a, hlo⟩
   ·obtain ⟨z, hz, mz⟩ := hH1.at (List.getElem?_eq_some_iff.mp e).1
    have hnt : ∀ ps, z ≠ .tbl ps := fun ps q => by
     subst q
     have q := hH1.hp i p e
     cases p with
     | lst _ => obtain ⟨_, q, _⟩ := q; rw [hz] at q; cases q
     | dct _ => rcases q with ⟨_, q, _⟩ | ⟨_, q, _⟩ <;> (rw [hz] at q; cases q)
     | obj _ _ => obtain ⟨_, _, _, _, q, _⟩ := q; rw [hz] at q; cases q
     | udc _ => obtain ⟨_, q, _⟩ := q; rw [hz] at q; cases q
     | fdc _ => obtain ⟨_, _, ⟨_, q, _⟩ | ⟨_, q, _⟩⟩ := q <;> (rw [hz] at q; cases q)
    exact (hH1.hp i p e).mono st2 ((hold _ _ hz hnt).trans hz.symm)
   ·by_cases hp2 : p.2.2 = P
    ·rw [hp2, hone p hp hp2]; exact htg
    ·obtain ⟨ps, e1, e2, e3⟩ := hH1.tb p hp
     exact ⟨ps, htbl _ _ hp2 e1, e2, fun pos v e => (e3 pos v e).mono fun b o z => frz2 b o _ z⟩
  ·subst e2
   obtain ⟨c0, ec0⟩ : ∃ c0, c0 = s.heap.objs.size + 1 := ⟨_, rfl⟩
   rw [<- ec0] at hlo
   have hcells : (cxOf (CXW Pg w) Pg w K mg base [n] x (defScope st) f (.ref c) A outer s H E).env.cells = [(n, c0)] := by rw [ec0]; exact hcl _
   have hclk : (cxOf (CXW Pg w) Pg w K mg base [n] x (defScope st) f (.ref c) A outer s H E).env.cells.lookup n = some c0 := by rw [hcells, List.lookup_cons]; simp
   have hc0 : H2 c0 = none := (I2.freeC n c0 hclk).1 rfl
   have hcell : ∃ oc0 u0, s2.heap.get? c0 = some oc0 /\ oc0.data = .cell (some u0) /\ RelV va u0 := by
    obtain ⟨m, hn, hlk⟩ := I2.loc
    obtain ⟨u0, ru0, lk0⟩ := hlk 0 n va rfl rfl (.inr (.inl hkn))
    rcases lk0 with ⟨kz, _⟩ | ⟨_, c1, ec1, oc0, g1, g2⟩
    ·have kz : (defScope st).names.lookup n = some .local := kz
     rw [hkn] at kz; cases kz
    ·rw [hclk] at ec1
     cases ec1
     exact ⟨oc0, u0, g1, g2, ru0⟩
   obtain ⟨oc0, u0, g1, g2, ru0⟩ := hcell
   have hs0 : s.heap.objs.size <= c0 := by rw [ec0]; omega
   have hne : ∀ b o, s.heap.get? b = some o -> b ≠ c0 := fun b o e => Nat.ne_of_lt (Nat.lt_of_lt_of_le (Heap.lt_size e) hs0)
   have ok3 : HOk Pg w (upd H2 c0 (.frz oc0 hoAny)) s2.heap := fun b u e => by
    by_cases hb : b = c0
    ·subst hb
     rw [upd_same] at e; cases e
     exact ⟨g1, trivial, ⟨_, g1⟩, fun _ _ _ _ => trivial⟩
    ·rw [upd_ne hb] at e
     exact (I2.hok b u e).stay (fun _ _ _ q => q) (fun d q => by rw [upd_ne (ne_of_none q hc0)]; exact q) fun d xs q => by rw [upd_ne (ne_of_none q hc0)]; exact q
   have E2 := I2.env0
   have e03 : Env0 Pg w K mg base (A.deeper (envOfC x (defScope st) s.heap.objs.size f (.ref c))) (envOfC x (defScope st) s.heap.objs.size f (.ref c) :: outer) s2 (upd H2 c0 (.frz oc0 hoAny)) :=
    ⟨E2.frames, E2.mod, fun b o e => ⟨(E2.bs b o e).1, by rw [upd_ne (hne b o (e0.bs b o e).1)]; exact (E2.bs b o e).2⟩, E2.bsz, E2.funs, fun b hb => by
     rw [upd_ne (fun z => ?_)]
     ·exact E2.frf b hb
     ·subst z
      rcases List.mem_cons.mp (I2.stkSub b hb) with z | z
      ·exact I2.cne n b hclk z
      ·obtain ⟨_, o', ho', _⟩ := e0.funs.mem z
       exact hne b o' ho' rfl, ok3, E2.bare⟩
   have hlb : (us2 ++ []).length = psg.length := by rw [List.append_nil, <- r2.length]; exact hpsg.symm
   have hbb := hbg s2 us2 I2.kIn hlb
   rw [List.append_nil] at hbb
   have st3 : Step K φ1 ph1.length H2 φ1 ph1.length (upd H2 c0 (.frz oc0 hoAny)) := ⟨Nat.le_refl _, fun _ _ => rfl, fun b xs z => by rw [upd_ne (ne_of_none z hc0)]; exact z, fun b o u z => by rw [upd_ne (ne_of_none z hc0)]; exact z⟩
   refine wpAny_call (codeAny_mono (G.run _ _ s2 (upd H2 c0 (.frz oc0 hoAny)) ⟨us2, []⟩ us2 [v1, .ref a] Q (fun _ _ _ => False) hr1 e03 hbb r2
    ⟨rfl, φ1, ph1, [w1, .fn x [wa]], relH_exc hH2 hc0, .cons (rv1.mono st3) (.cons (.fn (st3.frz _ _ _ ha2) (hlo.mono fun b o z => st3.frz b o _ z) (show CellsV _ [(n, c0)] [va] from ⟨⟨oc0, u0, upd_same, g2, ru0⟩, trivial⟩) (.cons ((ra.mono st2).mono st3) .nil)) .nil), ?_⟩) fun r s' hq => ?_)
   ·rw [ewr]
    exact fun φ' H' v h1 h2 h3 => hQ φ' H' v h1 ((st2.trans st3).trans h2) h3
   ·cases r with
    | error e => obtain ⟨_, _, _, z⟩ := hq; exact z.elim
    | ok fl =>
     cases fl with
     | ret u =>
      obtain ⟨v, H', os, bare, un, hok', rv, q⟩ := hq
      refine ⟨v, H', os.trans I2.os, bare, ?_, hok', rv, q⟩
      have B := I2.base
      have frees : ∀ b o, s.heap.get? b = some o -> H b = none -> upd H2 c0 (.frz oc0 hoAny) b = none := fun b o e n => by rw [upd_ne (hne b o e)]; exact B.free b o e n (fun z => nomatch z)
      have hLn : ∀ b o, s.heap.get? b = some o -> b ∉ frs outer -> b ∉ frs (envOfC x (defScope st) s.heap.objs.size f (.ref c) :: outer) := fun b o e hb hz => by
       rcases List.mem_cons.mp (I2.stkSub b hz) with z | z
       ·have z : b = s.heap.objs.size := z
        exact absurd (Heap.lt_size e) (by rw [z]; exact Nat.lt_irrefl _)
       ·exact hb z
      refine ⟨fun b o e n hb _ => un.keep b o (B.keep b o e n hb (fun z => nomatch z)) (frees b o e n) (hLn b o e hb) (fun z => nomatch z), fun b o e n hb _ => ?_, fun b o e n _ => ?_, fun b o e _ => ?_, fun b xs e => ?_, fun b o u e => ?_, fun b ps e => ?_⟩
      ·obtain ⟨sl, e1⟩ := B.slot b o e n hb (fun z => nomatch z)
       obtain ⟨sl2, e2⟩ := un.slot b _ e1 (frees b o e n) (by rw [frs_cons rfl]; exact List.mem_cons_of_mem _ hb) (fun z => nomatch z)
       exact ⟨sl2, e2⟩
      ·obtain ⟨o', e1⟩ := B.there b o e (fun z => nomatch z)
       exact un.free b o' e1 (frees b o e n) (fun z => nomatch z)
      ·obtain ⟨o', e1⟩ := B.there b o e (fun z => nomatch z)
       exact un.there b o' e1 (fun z => nomatch z)
      ·exact un.tups b xs (st3.tup b xs (B.tups b xs e))
      ·exact un.frzs b o u (st3.frz b o u (B.frzs b o u e))
      ·obtain ⟨m1, e1⟩ := B.tbls b ps e
       obtain ⟨m2, e2⟩ := un.tbls b (ps ++ m1) (by rw [upd_ne (ne_of_none e1 hc0)]; exact e1)
       exact ⟨m1 ++ m2, by rw [e2, Array.append_assoc]⟩
     | _ => exact False.elim hq
 subst eX
 exact wpAny_execs_cons (wpAny_Return_some (wpAny_mono key (fun u s' hq => hq) fun e s' hz => hz))
end
def keysA (kws : List (W × W)) : Option (List W) := if kws.all (fun p => !isT p.1) = true then some (kws.map (·.1)) else none
def listV : List W -> Po W := fun xs ph => match xs with
 | [w] => match dctAt w ph with
  | some p => (keysA p.2).map fun ks => (.ref ph.length, ph ++ [.lst ks])
  | none => listW [w] ph
 | _ => none
def insI (a : Int) : List Int -> List Int
 | [] => [a]
 | b :: l => if a <= b then a :: b :: l else b :: insI a l
def srtI : List Int -> List Int
 | [] => []
 | a :: l => insI a (srtI l)
def sortW : List W -> Po W := fun xs ph => match xs with
 | [w] => match (match dctAt w ph with | some p => (keysA p.2).bind (mapO inW1) | none => intsW w ph) with
  | some ns => if ns.length < 64 then some (.ref ph.length, ph ++ [.lst ((srtI ns).map W.int)]) else none
  | none => none
 | _ => none
theorem insI_perm {a : Int} : ∀ {l : List Int}, (insI a l).Perm (a :: l)
 | [] => .refl _
 | b :: l => by
  unfold insI
  split
  ·exact .refl _
  ·exact (insI_perm.cons b).trans (.swap a b l)
theorem insI_sorted {a : Int} : ∀ {l : List Int}, l.Pairwise (· <= ·) -> (insI a l).Pairwise (· <= ·)
 | [], _ => List.pairwise_singleton _ _
 | b :: l, h => by
  unfold insI
  obtain ⟨h1, h2⟩ := List.pairwise_cons.mp h
  split
  ·rename_i hab
   exact List.pairwise_cons.mpr ⟨fun c hc => (List.mem_cons.mp hc).elim (fun z => z ▸ hab) fun z => Int.le_trans hab (h1 c z), h⟩
  ·rename_i hab
   exact List.pairwise_cons.mpr ⟨fun c hc => (List.mem_cons.mp (insI_perm.mem_iff.mp hc)).elim (fun z => by omega) fun z => h1 c z, insI_sorted h2⟩
theorem srtI_perm : ∀ {l : List Int}, (srtI l).Perm l
 | [] => .refl _
 | a :: l => insI_perm.trans (srtI_perm.cons a)
theorem srtI_sorted : ∀ {l : List Int}, (srtI l).Pairwise (· <= ·)
 | [] => .nil
 | a :: l => insI_sorted srtI_sorted
theorem srtI_of {l l' : List Int} (p : l'.Perm l) (s : l'.Pairwise (· <= ·)) : l' = srtI l :=
 List.Perm.eq_of_pairwise (le := (· <= ·)) (fun a b _ _ h1 h2 => Int.le_antisymm h1 h2) s srtI_sorted (p.trans srtI_perm.symm)
section
variable {K : PySem.W.Frag} {φ : Nat -> Addr} {n : Nat} {H : Hp}
theorem keys_rel : ∀ {kws : List (W × W)} {kvs : List (Key × V)}, RelD K φ n H kws kvs -> RelWs K φ n H (kws.map (·.1)) (kvs.map fun kv => kV kv.1)
 | _, _, .nil => .nil
 | _, _, .cons (k := k) h r => .cons (by cases k with | inl i => exact .int i | inr x => exact .str x) (keys_rel r)
theorem keysA_rel {ph : PH} {y : W} {v : V} {p : Nat × List (W × W)} {ks : List W} (hH : RelH K φ ph H) (r : RelW K φ ph.length H y v) (e : dctAt y ph = some p) (hk : keysA p.2 = some ks) :
  ∃ d kvs, v = .ref d /\ (H d = some (.dK kvs) \/ (H d = some (.dT []) /\ kvs = [])) /\ RelWs K φ ph.length H ks (kvs.map fun kv => kV kv.1) := by
 unfold keysA at hk
 split at hk
 ·rename_i ha
  cases hk
  obtain ⟨rfl, hi, hd, rfl⟩ := dctAt_rel (i := p.1) (kws := p.2) hH r e
  rcases hH.hp _ _ hd with ⟨kvs, q, rd⟩ | ⟨kvs, q, rt⟩
  ·exact ⟨_, kvs, rfl, .inl q, keys_rel rd⟩
  ·obtain ⟨e1, e2⟩ := rt.allT ha
   subst e2
   rw [e1]
   exact ⟨_, [], rfl, .inr ⟨q, rfl⟩, .nil⟩
 ·cases hk
end
theorem listV_i {K : PySem.W.Frag} : CallI K (fun xs H Q => (∃ p ys, xs = [.ref p] /\ (SqL K H p ys \/ SqT K H p ys) /\ ∀ l, H l = none -> Q (.ref l) (upd H l (.lst ys))) \/ rListD xs H Q) listV := by
 intro φ ph H xs vs w ph' Q hH r e k
 unfold listV at e
 split at e
 ·rename_i x
  cases hd : dctAt x ph with
  | none => rw [hd] at e; exact .inl (listW_i hH r e k)
  | some p =>
   rw [hd] at e
   obtain ⟨ks, hk, e⟩ := Option.map_eq_some_iff.mp e
   cases e
   cases r with
   | cons r rn =>
    cases rn
    obtain ⟨d, kvs, rfl, hdk, rr⟩ := keysA_rel hH r hd hk
    refine .inr ⟨d, kvs, rfl, hdk, fun p hp => ?_⟩
    obtain ⟨q1, q2, q3⟩ := new_list hH rr hp
    exact k _ _ _ q1 q2 q3
 ·cases e
theorem call_listV {X : Cx} (hc : X.calm = true) : CallR X (.type "list") (fun xs H Q => (∃ p ys, xs = [.ref p] /\ (SqL X.K H p ys \/ SqT X.K H p ys) /\ ∀ l, H l = none -> Q (.ref l) (upd H l (.lst ys))) \/ rListD xs H Q) := CallR.or call_list_of (call_listD hc)
theorem rel_ints {K : PySem.W.Frag} {φ : Nat -> Addr} {n : Nat} {H : Hp} : ∀ (ns : List Int), RelWs K φ n H (ns.map W.int) (ns.map V.int)
 | [] => .nil
 | n :: ns => .cons (.int n) (rel_ints ns)
theorem sortW_i {K : PySem.W.Frag} : CallI K (rSort K) sortW := by
 intro φ ph H xs vs w ph' Q hH r e k
 unfold sortW at e
 split at e
 ·rename_i x
  cases r with
  | cons r rn =>
  cases rn
  cases hd : dctAt x ph with
  | none =>
   rw [hd] at e
   simp only at e
   split at e
   ·rename_i ns hns
    split at e
    ·rename_i h64
     cases e
     obtain ⟨p, rfl, hq⟩ := intsW_rel hH r hns
     refine ⟨p, ns, rfl, .inl hq, h64, fun q ns' hq hp hs => ?_⟩
     rw [srtI_of hp hs]
     obtain ⟨q1, q2, q3⟩ := new_list hH (rel_ints (srtI ns)) hq
     exact k _ _ _ q1 q2 q3
    ·cases e
   ·cases e
  | some p =>
   rw [hd] at e
   simp only at e
   split at e
   ·rename_i ns hns
    split at e
    ·rename_i h64
     cases e
     obtain ⟨ks, hk, hns⟩ := Option.bind_eq_some_iff.mp hns
     obtain ⟨d, kvs, rfl, hdk, rr⟩ := keysA_rel hH r hd hk
     refine ⟨d, ns, rfl, .inr ⟨kvs, hdk, ints_rel rr hns⟩, h64, fun q ns' hq hp hs => ?_⟩
     rw [srtI_of hp hs]
     obtain ⟨q1, q2, q3⟩ := new_list hH (rel_ints (srtI ns)) hq
     exact k _ _ _ q1 q2 q3
    ·cases e
   ·cases e
 ·cases e
theorem boot_sorted : bootBuiltins "sorted" = some (.builtin "sorted") := by kernel_rfl
section
variable {X : Cx} {x y p q : Str} {L : Lam} {i k : Nat} {e : Expr} {a : AM} {body : EM} {pp pos : Pos}
theorem je_app (hl : lamIn X.K x = some L) (S : LamS L p q) (hr : Room (k + 1) X.A) (hN : X.N[i]? = some y) (hv : Vis X.env.scope y)
  (hb : ∀ a v cl s H, Room k (lamX X p q L x a v cl s H).A -> JE (lamX X p q L x a v cl s H) L.bd body) (hst : noStars [e] = true) (ha : JA X [e] a)
  (hd : (y == ("__debug__" : Str)) = false) (hcd : (y == ("__classdict__" : Str)) = false) : JE X (.Call (.Name y pp) [e] [] pos) (eApp x body i a) :=
 ⟨ie_app hl S hr hN hv (fun a v cl s H hr => (hb a v cl s H hr).h) ha.h hd hcd (star_cons (by unfold noStars at hst; rw [List.all_cons, Bool.and_eq_true] at hst; simpa using hst.1)) (any_none rfl)⟩
theorem lk_one {l : List (Str × NameKind)} {c : Str} : ∀ {y : Str}, (l.all fun p => !(p.2 == .free) || p.1 == c) = true -> l.lookup y = some .free -> y = c := by
 intro y h e
 have m := PySem.mem_of_lookup e
 have := List.all_eq_true.mp h _ m
 simpa using this
theorem Bd.lam {N : List Str} {sc : Scope} (B : Bd X N sc (k + 1)) (S : LamS L p q) (nd : [p, q].Nodup) (a : Addr) (v : Value) (cl : List (Str × Addr)) (s : Shared) (H : Hp) (hr : Room k (lamX X p q L x a v cl s H).A) : Bd (lamX X p q L x a v cl s H) [p, q] L.sc k :=
 ⟨⟨⟨rfl, fun _ z => z, fun _ z => z, fun _ z => z, fun y z => .inr (z.elim (fun z => z) fun z => absurd rfl (S.cell _ (mem_lookup z))), nd⟩, rfl, hr⟩, PassesOwn.never⟩
theorem fLam_len {m1 : EM} {fm : List W -> Mo W} {xs : List W} {ph : PH} (h : xs.length ≠ 1) : fLam x m1 fm xs ph = .no := by
 unfold fLam
 split
 ·exact absurd rfl h
 ·rfl
def lamD (st : Stmt) : Lam := match lamB (defBody st) with
 | some L => L
 | none => ⟨defArgs st, .Constant .none 0 ⟨0, 0, 0, 0⟩, defScope st, ⟨0, 0, 0, 0⟩⟩
end
open PySem L2
section
variable {α β γ : Type}
theorem bnd_pur (a : α) (f : α -> Mo β) : bnd (pur a) f = f a := (rfl)
theorem bnd_nop (f : α -> Mo β) : bnd (nop : Mo α) f = nop := (rfl)
theorem bnd_exx (x : XC) (f : α -> Mo β) : bnd (exx x : Mo α) f = exx x := (rfl)
theorem bnd_assoc (m : Mo α) (f : α -> Mo β) (g : β -> Mo γ) : bnd (bnd m f) g = bnd m fun a => bnd (f a) g := by
 funext ph; unfold bnd; cases m ph <;> rfl
theorem bnd_ite {c : Prop} [Decidable c] (a b : Mo α) (f : α -> Mo β) : bnd (if c then a else b) f = if c then bnd a f else bnd b f := by split <;> rfl
theorem bnd_ok {m : Mo α} {f : α -> Mo β} {ph ph' : PH} {a : α} (h : m ph = .ok a ph') : bnd m f ph = f a ph' := by unfold bnd; rw [h]
theorem pur_ap (a : α) (ph : PH) : pur a ph = .ok a ph := (rfl)
theorem exx_ap (x : XC) (ph : PH) : (exx x : Mo α) ph = .ex x ph := (rfl)
theorem lift_ret (a : α) : lift (ret a) = pur a := (rfl)
theorem ite_ap {c : Prop} [Decidable c] (a b : Mo α) (ph : PH) : (if c then a else b) ph = if c then a ph else b ph := by split <;> rfl
end
theorem eVar_0 (w : W) (σ : PSt) : eVar 0 (some w :: σ) = pur w := (rfl)
theorem eVar_s (i : Nat) (x : Option W) (σ : PSt) : eVar (i + 1) (x :: σ) = eVar i σ := (rfl)
theorem eC_ap (w : W) (σ : PSt) : eC w σ = pur w := (rfl)
theorem gN_ap (i : Nat) (w : W) (σ : PSt) : gN i w σ = pur (σ.set i (some w)) := (rfl)
theorem eOp_ap (f : W -> W -> Po W) (a b : EM) (σ : PSt) : eOp f a b σ = bnd (a σ) fun x => bnd (b σ) fun y => lift (f x y) := (rfl)
theorem eUn_ap (f : W -> Po W) (a : EM) (σ : PSt) : eUn f a σ = bnd (a σ) fun x => lift (f x) := (rfl)
theorem eT_ap (m : EM) (σ : PSt) : eT m σ = bnd (m σ) fun w => lift (match w with
 | .bl b => ret b
 | _ => nono) := (rfl)
theorem eTru_ap (m : EM) (σ : PSt) : eTru m σ = bnd (m σ) fun w => lift (truW w) := (rfl)
theorem tAndM_ap (a b : TM) (σ : PSt) : tAndM a b σ = bnd (a σ) fun c => if c = true then b σ else pur false := (rfl)
theorem tOrM_ap (a b : TM) (σ : PSt) : tOrM a b σ = bnd (a σ) fun c => if c = true then pur true else b σ := (rfl)
theorem tNotM_ap (a : TM) (σ : PSt) : tNotM a σ = bnd (a σ) fun c => pur (!c) := (rfl)
theorem eIf_ap (t : TM) (a b : EM) (σ : PSt) : eIf t a b σ = bnd (t σ) fun c => if c = true then a σ else b σ := (rfl)
theorem sSeq_ap (a b : SM) (σ : PSt) : sSeq a b σ = bnd (a σ) fun f => match f with
 | .nx σ' => b σ'
 | f => pur f := (rfl)
theorem sIf_ap (t : TM) (a b : SM) (σ : PSt) : sIf t a b σ = bnd (t σ) fun c => if c = true then a σ else b σ := (rfl)
theorem sRet_ap (e : EM) (σ : PSt) : sRet e σ = bnd (e σ) fun w => pur (.rt w) := (rfl)
theorem sNext_ap (σ : PSt) : sNext σ = pur (.nx σ) := (rfl)
theorem sExpr_ap (e : EM) (σ : PSt) : sExpr e σ = bnd (e σ) fun _ => pur (.nx σ) := (rfl)
theorem sAsg_ap (e : EM) (g : GM) (σ : PSt) : sAsg e g σ = bnd (e σ) fun w => bnd (g w σ) fun σ' => pur (.nx σ') := (rfl)
theorem eCall_ap (f : List W -> Mo W) (a : AM) (σ : PSt) : eCall f a σ = bnd (a σ) f := (rfl)
theorem eCallB_ap (f : List W -> Po W) (a : AM) (σ : PSt) : eCallB f a σ = bnd (a σ) fun xs => lift (f xs) := (rfl)
theorem aNil_ap (σ : PSt) : aNil σ = pur [] := (rfl)
theorem aCons_ap (e : EM) (r : AM) (σ : PSt) : aCons e r σ = bnd (e σ) fun w => bnd (r σ) fun ws => pur (w :: ws) := (rfl)
theorem eTup_ap (a : AM) (σ : PSt) : eTup a σ = bnd (a σ) fun ws => lift (newT ws) := (rfl)
theorem eLst_ap (a : AM) (σ : PSt) : eLst a σ = bnd (a σ) fun ws => lift (newL ws) := (rfl)
theorem eIs_ap (c : String) (m : EM) (σ : PSt) : eIs c m σ = bnd (m σ) fun w => lift (isP c w) := (rfl)
theorem eAnd_ap (a b : EM) (σ : PSt) : eAnd a b σ = bnd (a σ) fun w => match w with
 | .bl c => if c = true then b σ else pur (.bl false)
 | _ => nop := (rfl)
theorem eOr_ap (a b : EM) (σ : PSt) : eOr a b σ = bnd (a σ) fun w => match w with
 | .bl c => if c = true then pur (.bl true) else b σ
 | _ => nop := (rfl)
theorem eNot_ap (a : EM) (σ : PSt) : eNot a σ = bnd (a σ) fun w => match w with
 | .bl c => pur (.bl (!c))
 | _ => nop := (rfl)
theorem eChain_ap (f f' : W -> W -> Po W) (a b c : EM) (σ : PSt) : eChain f f' a b c σ = bnd (a σ) fun x => bnd (b σ) fun y => bnd (lift (f x y)) fun z => match z with
 | .bl k => if k = true then bnd (c σ) fun u => lift (f' y u) else pur (.bl false)
 | _ => nop := (rfl)
theorem eMeth_ap (ty : W -> PH -> Bool) (f : W -> List W -> Po W) (o : EM) (a : AM) (σ : PSt) : eMeth ty f o a σ = bnd (o σ) fun x => bnd (lift (chkT (ty x))) fun _ => bnd (a σ) fun xs => lift (f x xs) := (rfl)
theorem fEnd_rt (w : W) : fEnd (.rt w) = pur w := (rfl)
theorem fEnd_nx (σ : PSt) : fEnd (.nx σ) = pur .non := (rfl)
theorem fM_1 (b : SM) (n : Nat) (x : W) : fM b n 1 [x] = bnd (b (some x :: List.replicate (n - 1) none)) fEnd := (rfl)
theorem fM_2 (b : SM) (n : Nat) (x y : W) : fM b n 2 [x, y] = bnd (b (some x :: some y :: List.replicate (n - 2) none)) fEnd := (rfl)
theorem fM_3 (b : SM) (n : Nat) (x y z : W) : fM b n 3 [x, y, z] = bnd (b (some x :: some y :: some z :: List.replicate (n - 3) none)) fEnd := (rfl)
theorem fM_4 (b : SM) (n : Nat) (x y z u : W) : fM b n 4 [x, y, z, u] = bnd (b (some x :: some y :: some z :: some u :: List.replicate (n - 4) none)) fEnd := (rfl)
theorem l_add (i j : Int) : lift (addW (.int i) (.int j)) = pur (.int (i + j)) := (rfl)
theorem l_sub (i j : Int) : lift (subW (.int i) (.int j)) = pur (.int (i - j)) := (rfl)
theorem l_neg (i : Int) : lift (negW (.int i)) = pur (.int (-i)) := (rfl)
theorem l_mul {i j : Int} (h : mulC i j = true) : lift (mulW (.int i) (.int j)) = pur (.int (i * j)) := by
 unfold mulW; simp only [h, if_true]; rfl
theorem l_mod {i j : Int} (h : j ≠ 0) : lift (modW (.int i) (.int j)) = pur (.int (i.fmod j)) := by
 unfold modW iopC; simp only [ne_eq, h, not_false_eq_true, decide_true, if_true]; rfl
theorem l_div {i j : Int} (h : j ≠ 0) (h' : j.natAbs < 2 ^ 64) : lift (divW (.int i) (.int j)) = pur (.int (i.fdiv j)) := by
 unfold divW iopC; simp only [ne_eq, h, h', not_false_eq_true, decide_true, Bool.and_self, if_true]; rfl
theorem l_lt (i j : Int) : lift (ltW (.int i) (.int j)) = pur (.bl (decide (i < j))) := (rfl)
theorem l_le (i j : Int) : lift (leW (.int i) (.int j)) = pur (.bl (decide (i <= j))) := (rfl)
theorem l_gt (i j : Int) : lift (gtW (.int i) (.int j)) = pur (.bl (decide (j < i))) := (rfl)
theorem l_ge (i j : Int) : lift (geW (.int i) (.int j)) = pur (.bl (decide (j <= i))) := (rfl)
theorem l_int (i : Int) : lift (intW [.int i]) = pur (.int i) := (rfl)
theorem l_intb (b : Bool) : lift (intW [.bl b]) = pur (.int (if b then 1 else 0)) := (rfl)
theorem l_abs (i : Int) : lift (absW [.int i]) = pur (.int (if i < 0 then -i else i)) := (rfl)
theorem l_max (i j : Int) : lift (max2W [.int i, .int j]) = pur (.int (if j > i then j else i)) := (rfl)
theorem l_min (i j : Int) : lift (min2W [.int i, .int j]) = pur (.int (if j < i then j else i)) := (rfl)
theorem l_tb (b : Bool) : lift (match W.bl b with
 | .bl b => ret b
 | _ => nono) = pur b := (rfl)
theorem l_truB (b : Bool) : lift (truW (.bl b)) = pur b := (rfl)
theorem l_truI (i : Int) : lift (truW (.int i)) = pur (i != 0) := (rfl)
theorem l_truT (ws : List W) : lift (truW (.tup ws)) = pur (!ws.isEmpty) := (rfl)
theorem l_eqI (i j : Int) : lift (eqW (.int i) (.int j)) = pur (.bl (decide (i = j))) := by
 funext ph; unfold eqW eqD lift; simp only [dat]; rfl
theorem l_neI (i j : Int) : lift (neW (.int i) (.int j)) = pur (.bl (!decide (i = j))) := by
 funext ph; unfold neW eqD lift; simp only [dat]; rfl
theorem so (s : String) : PyData.strOk (Str.ofString s) = true := by
 unfold PyData.strOk
 rw [Str.ofString_eq_toList]
 simp only [List.all_toArray, List.all_eq_true, List.mem_map, decide_eq_true_eq]
 rintro n ⟨c, _, rfl⟩
 have h := c.valid
 simp only [UInt32.isValidChar, Nat.isValidChar] at h
 show c.val.toNat < _
 omega
theorem os_inj {a b : String} : Str.ofString a = Str.ofString b ↔ a = b := by
 constructor
 ·intro h
  rw [Str.ofString_eq_toList, Str.ofString_eq_toList] at h
  have h := congrArg Array.toList (Str.mk.inj h)
  simp only [List.toList_toArray] at h
  have mi : ∀ l l' : List Char, l.map Char.toNat = l'.map Char.toNat -> l = l' := by
   intro l
   induction l with
   | nil => intro l' h; cases l' with
    | nil => rfl
    | cons _ _ => cases h
   | cons x l ih => intro l' h; cases l' with
    | nil => cases h
    | cons y l' =>
     have := List.cons.inj h
     rw [ih l' this.2, Char.ext (UInt32.toNat_inj.mp this.1)]
  have q : a.toList = b.toList := mi _ _ h
  exact String.toList_inj.mp q
 ·intro h; rw [h]
theorem l_eqS {a b : Str} (ha : PyData.strOk a = true) (hb : PyData.strOk b = true) : lift (eqW (.str a) (.str b)) = pur (.bl (decide (a = b))) := by
 funext ph; unfold eqW eqD lift; simp only [dat, ha, hb, if_true]; rfl
theorem l_neS {a b : Str} (ha : PyData.strOk a = true) (hb : PyData.strOk b = true) : lift (neW (.str a) (.str b)) = pur (.bl (!decide (a = b))) := by
 funext ph; unfold neW eqD lift; simp only [dat, ha, hb, if_true]; rfl
theorem l_eqL (a b : String) : lift (eqW (.str (Str.ofString a)) (.str (Str.ofString b))) = pur (.bl (decide (a = b))) := by
 rw [l_eqS (so a) (so b)]; simp only [os_inj]
theorem l_neL (a b : String) : lift (neW (.str (Str.ofString a)) (.str (Str.ofString b))) = pur (.bl (!decide (a = b))) := by
 rw [l_neS (so a) (so b)]; simp only [os_inj]
theorem l_neB (a b : Bool) : lift (neW (.bl a) (.bl b)) = pur (.bl (!(a == b))) := by
 funext ph; unfold neW eqD lift; simp only [dat]; rfl
theorem l_is (c : String) (w : W) (t : String) (h : ∀ ph, kindW w ph = some t) : lift (isP c w) = pur (.bl (subK t c)) := by
 funext ph; unfold lift isP; rw [h]; rfl
theorem is_i (c : String) (i : Int) : lift (isP c (.int i)) = pur (.bl (subK "int" c)) := l_is _ _ _ fun _ => rfl
theorem is_b (c : String) (b : Bool) : lift (isP c (.bl b)) = pur (.bl (subK "bool" c)) := l_is _ _ _ fun _ => rfl
theorem is_n (c : String) : lift (isP c .non) = pur (.bl (subK "NoneType" c)) := l_is _ _ _ fun _ => rfl
theorem is_s (c : String) (x : Str) : lift (isP c (.str x)) = pur (.bl (subK "str" c)) := l_is _ _ _ fun _ => rfl
theorem is_t (c : String) (ws : List W) : lift (isP c (.tup ws)) = pur (.bl (subK "tuple" c)) := l_is _ _ _ fun _ => rfl
theorem is_ref {c : String} {i : Nat} {ph : PH} {ws : List W} (h : ph[i]? = some (.lst ws)) : lift (isP c (.ref i)) ph = .ok (.bl (subK "list" c)) ph := by
 unfold lift isP kindW; simp only [h]
theorem k_ii : subK "int" "int" = true := by decide +kernel
theorem k_ib : subK "int" "bool" = false := by decide +kernel
theorem k_bi : subK "bool" "int" = true := by decide +kernel
theorem k_bb : subK "bool" "bool" = true := by decide +kernel
theorem k_ni : subK "NoneType" "int" = false := by decide +kernel
theorem k_si : subK "str" "int" = false := by decide +kernel
theorem k_li : subK "list" "int" = false := by decide +kernel
theorem k_ll : subK "list" "list" = true := by decide +kernel
theorem k_tt : subK "tuple" "tuple" = true := by decide +kernel
theorem newT_0 : lift (newT []) = pur (.tup []) := (rfl)
theorem newT_1 (a : W) : lift (newT [a]) = pur (.tup [a]) := (rfl)
theorem newT_2 (a b : W) : lift (newT [a, b]) = pur (.tup [a, b]) := (rfl)
theorem newT_3 (a b c : W) : lift (newT [a, b, c]) = pur (.tup [a, b, c]) := (rfl)
theorem newT_4 (a b c d : W) : lift (newT [a, b, c, d]) = pur (.tup [a, b, c, d]) := (rfl)
theorem newT_5 (a b c d e : W) : lift (newT [a, b, c, d, e]) = pur (.tup [a, b, c, d, e]) := (rfl)
theorem ixT_0 (a : W) (l : List W) : lift (ixW (.tup (a :: l)) (.int 0)) = pur a := by
 funext ph; unfold lift ixW atI ixN; simp [seqW, pur]
theorem ixT_1 (a b : W) (l : List W) : lift (ixW (.tup (a :: b :: l)) (.int 1)) = pur b := by
 funext ph; unfold lift ixW atI ixN; simp [seqW, pur]; rw [if_pos (by omega)]; simp
theorem ixT_2 (a b c : W) (l : List W) : lift (ixW (.tup (a :: b :: c :: l)) (.int 2)) = pur c := by
 funext ph; unfold lift ixW atI ixN; simp [seqW, pur]; rw [if_pos (by omega)]; simp
theorem ixT_3 (a b c d : W) (l : List W) : lift (ixW (.tup (a :: b :: c :: d :: l)) (.int 3)) = pur d := by
 funext ph; unfold lift ixW atI ixN; simp [seqW, pur]; rw [if_pos (by omega)]; simp
theorem ixT_4 (a b c d e : W) (l : List W) : lift (ixW (.tup (a :: b :: c :: d :: e :: l)) (.int 4)) = pur e := by
 funext ph; unfold lift ixW atI ixN; simp [seqW, pur]; rw [if_pos (by omega)]; simp
def isNon : W -> Bool
 | .non => true
 | _ => false
theorem l_notN (w : W) : lift (notNW w .non) = pur (.bl (!isNon w)) := by
 unfold notNW; cases w <;> rfl
theorem l_isN (w : W) : lift (isNW w .non) = pur (.bl (isNon w)) := by
 unfold isNW; cases w <;> rfl
theorem isNon_i (i : Int) : isNon (.int i) = false := rfl
theorem isNon_n : isNon .non = true := rfl
theorem isNon_t (ws : List W) : isNon (.tup ws) = false := rfl
theorem isNon_r (i : Nat) : isNon (.ref i) = false := rfl
def Ex (ph ph' : PH) : Prop := ∃ m, ph' = ph ++ m
theorem Ex.refl (ph : PH) : Ex ph ph := ⟨[], by simp⟩
theorem Ex.trans {a b c : PH} (h : Ex a b) (h' : Ex b c) : Ex a c := by
 obtain ⟨m, rfl⟩ := h
 obtain ⟨m', rfl⟩ := h'
 exact ⟨m ++ m', by simp⟩
theorem Ex.one (ph : PH) (o : PO) : Ex ph (ph ++ [o]) := ⟨[o], rfl⟩
theorem Ex.get {a b : PH} (h : Ex a b) {i : Nat} {o : PO} (e : a[i]? = some o) : b[i]? = some o := by
 obtain ⟨m, rfl⟩ := h
 rw [List.getElem?_append_left (List.getElem?_eq_some_iff.mp e).1]; exact e
theorem Ex.len {a b : PH} (h : Ex a b) : a.length <= b.length := by obtain ⟨m, rfl⟩ := h; simp
theorem get_new (ph : PH) (o : PO) : (ph ++ [o])[ph.length]? = some o := by simp
theorem small {n : Nat} (h : n <= 1000000) : n <= sizeLine := Nat.le_trans h (by decide)
section
variable {β : Type} {ph : PH} {i : Nat} {ws : List W}
theorem new_ap (ws : List W) (ph : PH) (h : ws.length <= sizeLine) : lift (newL ws) ph = .ok (.ref ph.length) (ph ++ [.lst ws]) := by
 unfold lift newL; rw [if_pos h]
theorem bnd_new (ws : List W) (f : W -> Mo β) (ph : PH) (h : ws.length <= sizeLine) : bnd (lift (newL ws)) f ph = f (.ref ph.length) (ph ++ [.lst ws]) := bnd_ok (new_ap ws ph h)
theorem ix_ref (h : ph[i]? = some (.lst ws)) {k : Int} {w : W} (hk : atI ws k = some w) : lift (ixW (.ref i) (.int k)) ph = .ok w ph := by
 unfold lift ixW; simp only [seqW, h, Option.bind_some, hk, Option.map_some]
theorem len_ref (h : ph[i]? = some (.lst ws)) : lift (lenW [.ref i]) ph = .ok (.int ws.length) ph := by
 unfold lift lenW; simp only [seqW, h, Option.map_some]
theorem isL_ref (h : ph[i]? = some (.lst ws)) : isL (.ref i) ph = true := by unfold isL; simp only [h]
theorem chk_ref (h : ph[i]? = some (.lst ws)) : lift (chkT (isL (.ref i))) ph = .ok () ph := by
 unfold lift chkT; rw [if_pos (isL_ref h)]
theorem append_ref (h : ph[i]? = some (.lst ws)) (hz : ws.length < sizeLine) (w : W) : lift (appendW (.ref i) [w]) ph = .ok .non (ph.set i (.lst (ws ++ [w]))) := by
 unfold lift appendW; simp only [h, hz, if_true]
end
theorem fmod_range (a b : Int) (h : 0 < b) : 0 <= a.fmod b /\ a.fmod b < b := by
 rw [Int.fmod_eq_emod_of_nonneg _ (by omega)]
 exact ⟨Int.emod_nonneg _ (by omega), Int.emod_lt_of_pos _ h⟩
theorem atI_nat {α : Type} (ws : List α) (k : Nat) (h : k < ws.length) : atI ws (k : Int) = ws[k]? := by
 unfold atI ixN
 rw [if_pos (by omega), if_pos (by omega)]; rfl
theorem lenF (ws : List W) : lift (lenW [.fl ws]) = pur (.int ws.length) := by funext ph; rfl
theorem ixF {ws : List W} {i : Int} {w : W} (h : atI ws i = some w) : lift (ixW (.fl ws) (.int i)) = pur w := by
 funext ph; unfold lift ixW; simp only [seqW, Option.bind_some, h, Option.map_some]; rfl
theorem forG_ret {chk : PH -> Bool} {g : GM} {b : SM} (R : W -> PH -> Prop) (I : Nat -> PSt -> PH -> Prop) : ∀ (items : List W) (k : Nat) (σ : PSt) (ph : PH),
  (∀ j σ ph, I j σ ph -> chk ph = true) →
  (∀ j x σ ph, items[j]? = some x -> I (k + j) σ ph -> ∃ σ1 ph1, g x σ ph = .ok σ1 ph1 /\ ∃ f ph2, b σ1 ph1 = .ok f ph2 /\ ((∃ σ2, (f = .nx σ2 \/ f = .ct σ2) /\ I (k + j + 1) σ2 ph2) \/ ∃ w, f = .rt w /\ R w ph2)) →
  I k σ ph -> (∃ σ' ph', forG chk g b items σ ph = .ok (.nx σ') ph' /\ I (k + items.length) σ' ph') \/ ∃ w ph', forG chk g b items σ ph = .ok (.rt w) ph' /\ R w ph'
 | [], k, σ, ph, hc, hs, h0 => by
  refine .inl ⟨σ, ph, ?_, h0⟩
  unfold forG
  rw [if_pos (hc _ _ _ h0)]
 | x :: xs, k, σ, ph, hc, hs, h0 => by
  obtain ⟨σ1, ph1, e1, f, ph2, e2, h⟩ := hs 0 x σ ph rfl h0
  have e : forG chk g b (x :: xs) σ ph = (match f with
   | .nx σ' => forG chk g b xs σ'
   | .ct σ' => forG chk g b xs σ'
   | .bk σ' => pur (.nx σ')
   | .rt w => pur (.rt w)) ph2 := by
   conv => lhs; unfold forG
   rw [if_pos (hc _ _ _ h0), bnd_ok e1, bnd_ok e2]
   all_goals (cases f <;> rfl)
  rcases h with ⟨σ2, hf, hI⟩ | ⟨w, rfl, hR⟩
  ·have e : forG chk g b (x :: xs) σ ph = forG chk g b xs σ2 ph2 := by
    rcases hf with rfl | rfl <;> exact e
   rw [e]
   have ih := forG_ret R I xs (k + 1) σ2 ph2 hc (fun j y σ ph hj hI => by
    have := hs (j + 1) y σ ph (by simpa using hj) (by rw [show k + (j + 1) = k + 1 + j by omega]; exact hI)
    rw [show k + (j + 1) + 1 = k + 1 + j + 1 by omega] at this
    exact this) hI
   rw [show k + 1 + xs.length = k + (x :: xs).length by simp; omega] at ih
   exact ih
  ·exact .inr ⟨w, ph2, e, hR⟩
theorem forG_inv {chk : PH -> Bool} {g : GM} {b : SM} (I : Nat -> PSt -> PH -> Prop) (items : List W) (σ : PSt) (ph : PH)
  (hc : ∀ j σ ph, I j σ ph -> chk ph = true)
  (hs : ∀ j x σ ph, items[j]? = some x -> I j σ ph -> ∃ σ1 ph1, g x σ ph = .ok σ1 ph1 /\ ∃ f ph2, b σ1 ph1 = .ok f ph2 /\ ∃ σ2, (f = .nx σ2 \/ f = .ct σ2) /\ I (j + 1) σ2 ph2)
  (h0 : I 0 σ ph) : ∃ σ' ph', forG chk g b items σ ph = .ok (.nx σ') ph' /\ I items.length σ' ph' := by
 have := forG_ret (fun _ _ => False) I items 0 σ ph hc (fun j x σ ph hj hI => by
  rw [Nat.zero_add] at hI ⊢
  obtain ⟨σ1, ph1, e1, f, ph2, e2, h⟩ := hs j x σ ph hj hI
  exact ⟨σ1, ph1, e1, f, ph2, e2, .inl h⟩) h0
 rw [Nat.zero_add] at this
 rcases this with h | ⟨_, _, _, h⟩
 ·exact h
 ·exact h.elim
theorem compG_run {chk : PH -> Bool} {g : GM} {c : TM} {e : EM} (L : Nat) (I : Nat -> List W -> PSt -> PH -> Prop) : ∀ (items : List W) (k : Nat) (acc : List W) (σ : PSt) (ph : PH),
  (∀ j acc σ ph, I j acc σ ph -> chk ph = true) →
  (∀ j x acc σ ph, items[j]? = some x -> I (k + j) acc σ ph -> ∃ σ1 ph1, g x σ ph = .ok σ1 ph1 /\ ∃ t ph2, c σ1 ph1 = .ok t ph2 /\ ((t = false /\ I (k + j + 1) acc σ1 ph2) \/ (t = true /\ ∃ w ph3, e σ1 ph2 = .ok w ph3 /\ ph3[L]? = some (.lst acc) /\ acc.length < sizeLine /\ I (k + j + 1) (acc ++ [w]) σ1 (ph3.set L (.lst (acc ++ [w])))))) →
  I k acc σ ph -> ∃ acc' σ' ph', compG chk g c e L items σ ph = .ok () ph' /\ I (k + items.length) acc' σ' ph'
 | [], k, acc, σ, ph, hc, hs, h0 => by
  refine ⟨acc, σ, ph, ?_, h0⟩
  unfold compG
  rw [if_pos (hc _ _ _ _ h0)]
 | x :: xs, k, acc, σ, ph, hc, hs, h0 => by
  obtain ⟨σ1, ph1, e1, t, ph2, e2, h⟩ := hs 0 x acc σ ph rfl h0
  have next : ∀ acc2 ph4, I (k + 1) acc2 σ1 ph4 -> ∃ acc' σ' ph', compG chk g c e L xs σ1 ph4 = .ok () ph' /\ I (k + (x :: xs).length) acc' σ' ph' := fun acc2 ph4 hI => by
   have ih := compG_run L I xs (k + 1) acc2 σ1 ph4 hc (fun j y acc σ ph hj hI => by
    have := hs (j + 1) y acc σ ph (by simpa using hj) (by rw [show k + (j + 1) = k + 1 + j by omega]; exact hI)
    rw [show k + (j + 1) + 1 = k + 1 + j + 1 by omega] at this
    exact this) hI
   rw [show k + 1 + xs.length = k + (x :: xs).length by simp; omega] at ih
   exact ih
  have n1 : noEx (g x σ) ph = .ok σ1 ph1 := by unfold noEx; rw [e1]
  have n2 : noEx (c σ1) ph1 = .ok t ph2 := by unfold noEx; rw [e2]
  rcases h with ⟨rfl, hI⟩ | ⟨rfl, w, ph3, e3, hL, hz, hI⟩
  ·have e : compG chk g c e L (x :: xs) σ ph = compG chk g c e L xs σ1 ph2 := by
    conv => lhs; unfold compG
    rw [if_pos (hc _ _ _ _ h0), bnd_ok n1, bnd_ok n2]
    rfl
   rw [e]
   exact next _ _ hI
  ·have n3 : noEx (e σ1) ph2 = .ok w ph3 := by unfold noEx; rw [e3]
   have e : compG chk g c e L (x :: xs) σ ph = compG chk g c e L xs σ1 (ph3.set L (.lst (acc ++ [w]))) := by
    conv => lhs; unfold compG
    rw [if_pos (hc _ _ _ _ h0), bnd_ok n1, bnd_ok n2]
    show bnd (noEx (e σ1)) _ ph2 = _
    rw [bnd_ok n3]
    exact bnd_ok (append_ref hL hz w)
   rw [e]
   exact next _ _ hI
theorem eComp_ap (im : IM) (cap : List (Option Nat)) (g : GM) (c : TM) (e : EM) (σ : PSt) : eComp im cap g c e σ = bnd (im σ) fun r ph => bnd (compG r.2 g c e ph.length r.1 (capP cap σ)) (fun _ => pur (.ref ph.length)) (ph ++ [.lst []]) := (rfl)
theorem set_mid (ph m : PH) (o o' : PO) : (ph ++ [o] ++ m).set ph.length o' = ph ++ [o'] ++ m := by
 rw [List.append_assoc, List.set_append_right _ _ (Nat.le_refl _)]
 simp
theorem comp_run {α : Type} (as : List α) (h : α -> W) {im : IM} {cap : List (Option Nat)} {g : GM} {c : TM} {e : EM} {σ : PSt} {ph ph0 : PH} {chk : PH -> Bool} (him : im σ ph0 = .ok (as.map h, chk) ph) (hck : ∀ ph', Ex ph ph' -> chk ph' = true) (hz : as.length <= sizeLine)
  (F : α -> Option W) (S : PSt -> Prop) (h0 : S (capP cap σ))
  (step : ∀ x ∈ as, ∀ σ H, S σ -> Ex ph H -> ∃ σ1, g (h x) σ H = .ok σ1 H /\ S σ1 /\ ∃ t H1, c σ1 H = .ok t H1 /\ Ex H H1 /\ ((t = false /\ F x = none) \/ (t = true /\ ∃ w H2, e σ1 H1 = .ok w H2 /\ Ex H1 H2 /\ F x = some w))) :
  ∃ ph', eComp im cap g c e σ ph0 = .ok (.ref ph.length) ph' /\ Ex (ph ++ [.lst (as.filterMap F)]) ph' := by
 rw [eComp_ap, bnd_ok him]
 have key := compG_run (chk := chk) (g := g) (c := c) (e := e) ph.length (fun k acc σ H => S σ /\ acc = (as.take k).filterMap F /\ Ex (ph ++ [.lst acc]) H) (as.map h) 0 [] (capP cap σ) (ph ++ [.lst []])
  (fun j acc σ H hI => hck _ ((Ex.one _ _).trans hI.2.2))
  (fun j y acc σ H hj hI => by
   rw [Nat.zero_add] at hI ⊢
   obtain ⟨hS, ha, hE⟩ := hI
   rw [List.getElem?_map] at hj
   cases hx : as[j]? with
   | none => rw [hx] at hj; cases hj
   | some x =>
    rw [hx] at hj
    cases hj
    have tk : (as.take (j + 1)).filterMap F = acc ++ (F x).toList := by
     rw [List.take_add_one, hx, List.filterMap_append, ha]
     cases hF : F x <;> simp [hF]
    obtain ⟨σ1, e1, hS1, t, H1, e2, x2, h⟩ := step x (List.mem_of_getElem? hx) σ H hS ((Ex.one _ _).trans hE)
    refine ⟨σ1, H, e1, t, H1, e2, ?_⟩
    rcases h with ⟨rfl, hF⟩ | ⟨rfl, w, H2, e3, x3, hF⟩
    ·exact .inl ⟨rfl, hS1, by rw [tk, hF]; simp, hE.trans x2⟩
    ·have x4 := (hE.trans x2).trans x3
     refine .inr ⟨rfl, w, H2, e3, x4.get (get_new _ _), ?_, hS1, by rw [tk, hF]; rfl, ?_⟩
     ·have hl : acc.length <= j := by
       rw [ha]
       exact Nat.le_trans (List.length_filterMap_le _ _) (by simp; omega)
      have := (List.getElem?_eq_some_iff.mp hx).1
      omega
     ·obtain ⟨m, rfl⟩ := x4
      rw [set_mid]
      exact ⟨m, rfl⟩)
  ⟨h0, by simp, Ex.refl _⟩
 obtain ⟨acc, σ', ph', e1, _, ha, hE⟩ := key
 refine ⟨ph', ?_, ?_⟩
 ·show bnd (compG chk g c e ph.length (as.map h) (capP cap σ)) _ _ = _
  rw [bnd_ok e1]; rfl
 ·rw [Nat.zero_add, List.length_map, List.take_length] at ha
  rw [<- ha]; exact hE
theorem fm_some {α β : Type} (f : α -> β) : ∀ l : List α, l.filterMap (fun a => some (f a)) = l.map f
 | [] => rfl
 | a :: l => by
  rw [List.filterMap_cons_some (f := fun a => some (f a)) (b := f a) rfl, fm_some f l]; rfl
theorem enL_get {ws : List W} {i : Nat} {w : W} (h : (enumL ws)[i]? = some w) : ∃ x, ws[i]? = some x /\ w = .tup [.int (i : Int), x] := by
 unfold enumL at h
 rw [List.getElem?_map] at h
 cases q : (List.range ws.length)[i]? with
 | none => rw [q] at h; cases h
 | some k =>
  rw [q] at h
  obtain ⟨hi, e⟩ := List.getElem?_eq_some_iff.mp q
  rw [List.getElem_range] at e
  subst e
  rw [List.length_range] at hi
  cases h
  exact ⟨ws[i], by simp [hi], by simp [hi]⟩
theorem enL_len (ws : List W) : (enumL ws).length = ws.length := by unfold enumL; simp
theorem iBoth_ref {m : EM} {σ : PSt} {ph ph' : PH} {i : Nat} {ws : List W} (h : m σ ph = .ok (.ref i) ph') (hi : ph'[i]? = some (.lst ws)) : iBoth m σ ph = .ok (ws, fun p => decide (p[i]? = some (.lst ws))) ph' := by
 unfold iBoth
 rw [bnd_ok h]
 unfold lift bothI seqI
 simp only [hi]
theorem iR1_ap {m : AM} {σ : PSt} {ph ph' : PH} {j : Int} (h : m σ ph = .ok [.int j] ph') (h1 : -(2 ^ 62) <= j) (h2 : j < 2 ^ 62) : iR1 m σ ph = .ok (rngW 0 j.toNat, fun _ => true) ph' := by
 unfold iR1
 rw [bnd_ok h]
 unfold lift rng1
 simp only [h1, h2, and_self, if_true]
theorem iEnum_ref {m : AM} {σ : PSt} {ph ph' : PH} {i : Nat} {ws : List W} (h : m σ ph = .ok [.ref i] ph') (hi : ph'[i]? = some (.lst ws)) : iEnum m σ ph = .ok (enumL ws, fun p => decide (p[i]? = some (.lst ws))) ph' := by
 unfold iEnum
 rw [bnd_ok h]
 unfold lift enumI seqI
 simp only [hi, Option.map_some]
theorem rngW_get {lo : Int} {n k : Nat} {w : W} (h : (rngW lo n)[k]? = some w) : k < n /\ w = .int (lo + (k : Int)) := by
 unfold rngW at h
 rw [List.getElem?_map] at h
 cases q : (List.range n)[k]? with
 | none => rw [q] at h; cases h
 | some j =>
  rw [q] at h
  obtain ⟨hi, e⟩ := List.getElem?_eq_some_iff.mp q
  rw [List.getElem_range] at e
  subst e
  rw [List.length_range] at hi
  cases h
  exact ⟨hi, rfl⟩
theorem rngW_len (lo : Int) (n : Nat) : (rngW lo n).length = n := by unfold rngW; simp
theorem in_tup {ph : PH} {ws : List W} {ds : List PyData} {x : W} {d : PyData} (h1 : mapO (dat ph 40) ws = some ds) (h2 : dat ph 40 x = some d) : lift (inW x (.tup ws)) ph = .ok (.bl (ds.any fun e => PyData.eqv e d)) ph := by
 unfold lift inW inD
 simp only [seqW, h1, h2, Option.map_some]
theorem eqv_s (a b : Str) : PyData.eqv (.str a) (.str b) = decide (a = b) := by
 unfold PyData.eqv; rfl
theorem mapO_map {α β γ : Type} (f : β -> Option γ) (g : α -> β) (h : α -> γ) (hf : ∀ a, f (g a) = some (h a)) : ∀ l : List α, mapO f (l.map g) = some (l.map h)
 | [] => rfl
 | a :: l => by
  show mapO f (g a :: l.map g) = _
  unfold mapO
  rw [hf a, mapO_map f g h hf l]
  rfl
theorem in_lits (x : String) (ss : List String) : lift (inW (.str (Str.ofString x)) (.tup (ss.map fun s => .str (Str.ofString s)))) = pur (.bl (ss.any fun s => decide (s = x))) := by
 funext ph
 rw [in_tup (mapO_map _ _ (fun s => PyData.str (Str.ofString s)) (fun s => by simp only [dat, so, if_true]) ss) (d := .str (Str.ofString x)) (by simp only [dat, so, if_true])]
 rw [List.any_map]
 simp only [Function.comp_def, eqv_s, os_inj]
 rfl
theorem in_l2 (x a b : String) : lift (inW (.str (Str.ofString x)) (.tup [.str (Str.ofString a), .str (Str.ofString b)])) = pur (.bl (decide (a = x) || decide (b = x))) := by
 have := in_lits x [a, b]
 simp only [List.map_cons, List.map_nil, List.any_cons, List.any_nil, Bool.or_false] at this
 exact this
theorem in_l3 (x a b c : String) : lift (inW (.str (Str.ofString x)) (.tup [.str (Str.ofString a), .str (Str.ofString b), .str (Str.ofString c)])) = pur (.bl (decide (a = x) || (decide (b = x) || decide (c = x)))) := by
 have := in_lits x [a, b, c]
 simp only [List.map_cons, List.map_nil, List.any_cons, List.any_nil, Bool.or_false] at this
 exact this
theorem ixV_t (ws : List W) (y : W) : ixV (.tup ws) y = ixW (.tup ws) y := (rfl)
theorem ixV_f (ws : List W) (y : W) : ixV (.fl ws) y = ixW (.fl ws) y := (rfl)
theorem ixV_s (x : Str) (y : W) : ixV (.str x) y = ixW (.str x) y := (rfl)
theorem inV_t (x : W) (ws : List W) : inV x (.tup ws) = inW x (.tup ws) := (rfl)
theorem inV_f (x : W) (ws : List W) : inV x (.fl ws) = inW x (.fl ws) := (rfl)
theorem ninV_t (x : W) (ws : List W) : ninV x (.tup ws) = ninW x (.tup ws) := (rfl)
theorem mulV_1 (i : Int) (y : W) : mulV (.int i) y = mulW (.int i) y := by
 funext ph; unfold mulV; cases y <;> rfl
theorem gSubV_ap (o i : EM) (v : W) (σ : PSt) : gSubV o i v σ = bnd (o σ) fun ow => bnd (i σ) fun iw => bnd (lift (setV ow iw v)) fun _ => pur σ := (rfl)
section
variable {ph : PH} {i : Nat} {ws : List W} {kws : List (W × W)}
theorem dct_l (h : ph[i]? = some (.lst ws)) : dctAt (.ref i) ph = none := by unfold dctAt; simp only [h]
theorem dct_d (h : ph[i]? = some (.dct kws)) : dctAt (.ref i) ph = some (i, kws) := by unfold dctAt; simp only [h]
theorem ixv_ref (h : ph[i]? = some (.lst ws)) {k : Int} {w : W} (hk : atI ws k = some w) : lift (ixV (.ref i) (.int k)) ph = .ok w ph := by
 have := ix_ref h hk
 unfold lift at this ⊢
 unfold ixV
 rw [dct_l h]
 exact this
theorem ixv_dct (h : ph[i]? = some (.dct kws)) {k w : W} (hk : okKey kws k = true) (hw : dgetW kws k = some w) : lift (ixV (.ref i) k) ph = .ok w ph := by
 unfold lift ixV
 simp only [dct_d h, hk, if_true, hw, Option.map_some]
theorem inv_dct (h : ph[i]? = some (.dct kws)) {k : W} (hk : okKey kws k = true) : lift (inV k (.ref i)) ph = .ok (.bl (dgetW kws k).isSome) ph := by
 unfold lift inV
 simp only [dct_d h, hk, if_true]
theorem ninv_dct (h : ph[i]? = some (.dct kws)) {k : W} (hk : okKey kws k = true) : lift (ninV k (.ref i)) ph = .ok (.bl (!(dgetW kws k).isSome)) ph := by
 unfold lift ninV
 simp only [dct_d h, hk, if_true]
theorem setv_dct (h : ph[i]? = some (.dct kws)) {k : W} (hk : okKey kws k = true) (hz : kws.length < sizeLine) (v : W) : lift (setV (.ref i) k v) ph = .ok () (ph.set i (.dct (dputW kws k v))) := by
 unfold lift setV
 simp only [dct_d h, hk, hz, and_self, if_true]
theorem setv_ref (h : ph[i]? = some (.lst ws)) {k : Int} {j : Nat} (hj : ixN ws.length k = some j) (v : W) : lift (setV (.ref i) (.int k) v) ph = .ok () (ph.set i (.lst (ws.set j v))) := by
 unfold lift setV
 rw [dct_l h]
 unfold setW
 simp only [h, hj]
end
theorem eDct_ap (σ : PSt) : eDct σ = lift newD := (rfl)
theorem fM_5 (b : SM) (n : Nat) (x y z u v : W) : fM b n 5 [x, y, z, u, v] = bnd (b (some x :: some y :: some z :: some u :: some v :: List.replicate (n - 5) none)) fEnd := (rfl)
theorem fM_6 (b : SM) (n : Nat) (x y z u v w : W) : fM b n 6 [x, y, z, u, v, w] = bnd (b (some x :: some y :: some z :: some u :: some v :: some w :: List.replicate (n - 6) none)) fEnd := (rfl)
theorem whN_more {t : TM} {b : SM} : ∀ (n : Nat) (σ : PSt) (ph : PH), (whN t b n σ ph).isNo = false -> whN t b (n + 1) σ ph = whN t b n σ ph
 | 0, σ, ph, h => by cases h
 | n + 1, σ, ph, h => by
  have h' : (bnd (t σ) (fun c => if c = true then bnd (b σ) fun f => match f with
   | .nx σ' => whN t b n σ'
   | .ct σ' => whN t b n σ'
   | .bk σ' => pur (.nx σ')
   | .rt w => pur (.rt w)
   else pur (.nx σ)) ph).isNo = false := h
  show bnd (t σ) (fun c => if c = true then bnd (b σ) fun f => match f with
   | .nx σ' => whN t b (n + 1) σ'
   | .ct σ' => whN t b (n + 1) σ'
   | .bk σ' => pur (.nx σ')
   | .rt w => pur (.rt w)
   else pur (.nx σ)) ph = bnd (t σ) (fun c => if c = true then bnd (b σ) fun f => match f with
   | .nx σ' => whN t b n σ'
   | .ct σ' => whN t b n σ'
   | .bk σ' => pur (.nx σ')
   | .rt w => pur (.rt w)
   else pur (.nx σ)) ph
  cases e1 : t σ ph with
  | no => unfold bnd; rw [e1]
  | ex x p => unfold bnd; rw [e1]
  | ok c p =>
   rw [bnd_ok e1] at h' ⊢
   rw [bnd_ok e1]
   cases c with
   | false => rfl
   | true =>
    simp only [if_true] at h' ⊢
    cases e2 : b σ p with
    | no => unfold bnd; rw [e2]
    | ex x q => unfold bnd; rw [e2]
    | ok f q =>
     rw [bnd_ok e2] at h' ⊢
     rw [bnd_ok e2]
     cases f with
     | nx σ' => exact whN_more n σ' q h'
     | ct σ' => exact whN_more n σ' q h'
     | bk σ' => rfl
     | rt w => rfl
theorem whN_le {t : TM} {b : SM} {n m : Nat} {σ : PSt} {ph : PH} (hm : n <= m) (h : (whN t b n σ ph).isNo = false) : whN t b m σ ph = whN t b n σ ph := by
 induction m with
 | zero =>
  have : n = 0 := by omega
  rw [this]
 | succ m ih =>
  by_cases e : n = m + 1
  ·rw [e]
  ·have := ih (by omega)
   rw [whN_more m σ ph (by rw [this]; exact h), this]
theorem sWhile_of {t : TM} {b : SM} {n : Nat} {σ : PSt} {ph ph' : PH} {f : Fl} (h : whN t b n σ ph = .ok f ph') : sWhile t b σ ph = .ok f ph' := by
 have hn : (whN t b n σ ph).isNo = false := by rw [h]; rfl
 have he : ∃ n, (whN t b n σ ph).isNo = false := ⟨n, hn⟩
 unfold sWhile
 rw [dif_pos he]
 have hc := he.choose_spec
 by_cases hle : n <= he.choose
 ·rw [whN_le hle hn, h]
 ·rw [<- whN_le (Nat.le_of_not_le hle) hc, h]
theorem while_inv {t : TM} {b : SM} (I : Nat -> PSt -> PH -> Prop) (D : PSt -> PH -> Prop)
  (step : ∀ k σ ph, I k σ ph -> (∃ ph1, t σ ph = .ok false ph1 /\ D σ ph1) \/ ∃ ph1, t σ ph = .ok true ph1 /\ ∃ f ph2, b σ ph1 = .ok f ph2 /\ ∃ σ2, (f = .nx σ2 \/ f = .ct σ2) /\ ∃ k', k' < k /\ I k' σ2 ph2) :
  ∀ k σ ph, I k σ ph -> ∃ σ' ph', sWhile t b σ ph = .ok (.nx σ') ph' /\ D σ' ph' := by
 have key : ∀ k σ ph, I k σ ph -> ∃ n σ' ph', whN t b n σ ph = .ok (.nx σ') ph' /\ D σ' ph' := by
  intro k
  induction k using Nat.strongRecOn with
  | ind k ih =>
   intro σ ph h
   rcases step k σ ph h with ⟨ph1, e1, hD⟩ | ⟨ph1, e1, f, ph2, e2, σ2, hf, k', hk, hI⟩
   ·refine ⟨1, σ, ph1, ?_, hD⟩
    show bnd (t σ) _ ph = _
    rw [bnd_ok e1]; rfl
   ·obtain ⟨n, σ', ph', e3, hD⟩ := ih k' hk σ2 ph2 hI
    refine ⟨n + 1, σ', ph', ?_, hD⟩
    show bnd (t σ) _ ph = _
    rw [bnd_ok e1]
    simp only [if_true]
    rw [bnd_ok e2]
    rcases hf with rfl | rfl <;> exact e3
 intro k σ ph h
 obtain ⟨n, σ', ph', e, hD⟩ := key k σ ph h
 exact ⟨σ', ph', sWhile_of e, hD⟩
theorem comp_relH {α : Type} (as : List α) (h : α -> W) {im : IM} {cap : List (Option Nat)} {g : GM} {c : TM} {e : EM} {σ : PSt} {ph ph0 : PH} {chk : PH -> Bool} (him : im σ ph0 = .ok (as.map h, chk) ph) (hck : ∀ ph', Ex ph ph' -> chk ph' = true) (hz : as.length <= sizeLine)
  (R : Nat -> W -> PH -> Prop) (hR1 : ∀ j w H H', R j w H -> Ex H H' -> R j w H') (hR2 : ∀ j w H o, R j w H -> R j w (H.set ph.length o)) (S : PSt -> Prop) (h0 : S (capP cap σ))
  (step : ∀ j x, as[j]? = some x -> ∀ σ H, S σ -> Ex ph H -> ph.length < H.length -> ∃ σ1, g (h x) σ H = .ok σ1 H /\ S σ1 /\ ∃ H1, c σ1 H = .ok true H1 /\ Ex H H1 /\ ∃ w H2, e σ1 H1 = .ok w H2 /\ Ex H1 H2 /\ R j w H2) :
  ∃ ws ph', eComp im cap g c e σ ph0 = .ok (.ref ph.length) ph' /\ Ex (ph ++ [.lst ws]) ph' /\ ws.length = as.length /\ ∀ j w, ws[j]? = some w -> R j w ph' := by
 rw [eComp_ap, bnd_ok him]
 have key := compG_run (chk := chk) (g := g) (c := c) (e := e) ph.length (fun k acc σ H => S σ /\ acc.length = k /\ (∀ j w, acc[j]? = some w -> R j w H) /\ Ex (ph ++ [.lst acc]) H) (as.map h) 0 [] (capP cap σ) (ph ++ [.lst []])
  (fun j acc σ H hI => hck _ ((Ex.one _ _).trans hI.2.2.2))
  (fun j y acc σ H hj hI => by
   rw [Nat.zero_add] at hI ⊢
   obtain ⟨hS, hl, ha, hE⟩ := hI
   rw [List.getElem?_map] at hj
   cases hx : as[j]? with
   | none => rw [hx] at hj; cases hj
   | some x =>
    rw [hx] at hj
    cases hj
    have hlt : ph.length < H.length := by have := hE.len; simp at this; omega
    obtain ⟨σ1, e1, hS1, H1, e2, x2, w, H2, e3, x3, hR⟩ := step j x hx σ H hS ((Ex.one _ _).trans hE) hlt
    have x4 := (hE.trans x2).trans x3
    refine ⟨σ1, H, e1, true, H1, e2, .inr ⟨rfl, w, H2, e3, x4.get (get_new _ _), ?_, hS1, by simp [hl], fun i u hu => hR2 i u _ _ ?_, ?_⟩⟩
    ·have := (List.getElem?_eq_some_iff.mp hx).1
     omega
    ·by_cases hi : i < acc.length
     ·rw [List.getElem?_append_left hi] at hu
      exact hR1 i u _ _ (ha i u hu) (x2.trans x3)
     ·have hi2 : i = j := by
       have := (List.getElem?_eq_some_iff.mp hu).1
       simp at this
       omega
      subst hi2
      rw [<- hl, List.getElem?_concat_length] at hu
      cases hu
      exact hR
    ·obtain ⟨m, rfl⟩ := x4
     rw [set_mid]
     exact ⟨m, rfl⟩)
  ⟨h0, rfl, fun j w hw => by simp at hw, Ex.refl _⟩
 obtain ⟨acc, σ', ph', e1, _, hl, ha, hE⟩ := key
 refine ⟨acc, ph', ?_, hE, by rw [hl, Nat.zero_add, List.length_map], ha⟩
 show bnd (compG chk g c e ph.length (as.map h) (capP cap σ)) _ _ = _
 rw [bnd_ok e1]; rfl
theorem dat_i (ph : PH) (n : Nat) (i : Int) : dat ph n (.int i) = some (.int i) := by cases n <;> rfl
theorem eqv_all_self : ∀ ds : List PyData, (∀ d ∈ ds, PyData.eqv d d = true) -> PyData.eqvAll ds ds = true
 | [], _ => by unfold PyData.eqvAll; rfl
 | d :: ds, h => by
  simp only [PyData.eqvAll, h d (by simp), eqv_all_self ds (fun e he => h e (by simp [he])), Bool.and_self]
theorem mapO_mem {α β : Type} {f : α -> Option β} : ∀ {l : List α} {m : List β}, mapO f l = some m -> ∀ b ∈ m, ∃ a ∈ l, f a = some b
 | [], m, h, b, hb => by cases h; cases hb
 | a :: l, m, h, b, hb => by
  unfold mapO at h
  split at h
  ·rename_i b' m' e1 e2
   cases h
   rcases List.mem_cons.mp hb with rfl | hb
   ·exact ⟨a, by simp, e1⟩
   ·obtain ⟨c, hc, e⟩ := mapO_mem e2 b hb
    exact ⟨c, by simp [hc], e⟩
  ·cases h
theorem dat_self {ph : PH} : ∀ (n : Nat) (w : W) (d : PyData), dat ph n w = some d -> PyData.eqv d d = true := by
 intro n
 induction n with
 | zero =>
  intro w d h
  cases w <;> simp only [dat] at h <;> first | (cases h; simp [PyData.eqv]; done) | skip
  ·split at h
   ·cases h; simp [PyData.eqv]
   ·cases h
  all_goals cases h
 | succ n ih =>
  have key : ∀ (ws : List W) (ds : List PyData), mapO (dat ph n) ws = some ds -> PyData.eqvAll ds ds = true := fun ws ds h =>
   eqv_all_self ds fun d hd => let ⟨w, _, e⟩ := mapO_mem h d hd; ih w d e
  intro w d h
  cases w with
  | non => cases h; simp [PyData.eqv]
  | bl b => cases h; simp [PyData.eqv]
  | int i => cases h; simp [PyData.eqv]
  | str x =>
   simp only [dat] at h
   split at h
   ·cases h; simp [PyData.eqv]
   ·cases h
  | tup ws =>
   simp only [dat] at h
   cases q : mapO (dat ph n) ws with
   | none => rw [q] at h; cases h
   | some ds => rw [q] at h; cases h; simp only [PyData.eqv, key ws ds q]
  | fl ws =>
   simp only [dat] at h
   cases q : mapO (dat ph n) ws with
   | none => rw [q] at h; cases h
   | some ds => rw [q] at h; cases h; simp only [PyData.eqv, key ws ds q]
  | ref i =>
   simp only [dat] at h
   split at h
   ·rename_i ws hw
    cases q : mapO (dat ph n) ws with
    | none => rw [q] at h; cases h
    | some ds => rw [q] at h; cases h; simp only [PyData.eqv, key ws ds q]
   ·cases h
  | exc c ns ws => simp only [dat] at h; cases h
  | fn x ws => simp only [dat] at h; cases h
theorem eq_same {ph : PH} {i j : Nat} {ws : List W} {ds : List PyData} (hi : ph[i]? = some (.lst ws)) (hj : ph[j]? = some (.lst ws)) (hd : mapO (dat ph 39) ws = some ds) : eqD ph (.ref i) (.ref j) = some true := by
 unfold eqD
 have e1 : dat ph 40 (.ref i) = some (.list ds) := by simp only [dat, hi, hd, Option.map_some]
 have e2 : dat ph 40 (.ref j) = some (.list ds) := by simp only [dat, hj, hd, Option.map_some]
 rw [e1, e2]
 simp only [dat_self 40 _ _ e1]
theorem l_eqD {ph : PH} {x y : W} {b : Bool} (h : eqD ph x y = some b) : lift (eqW x y) ph = .ok (.bl b) ph := by
 unfold lift eqW; simp only [h, Option.map_some]
theorem l_neD {ph : PH} {x y : W} {b : Bool} (h : eqD ph x y = some b) : lift (neW x y) ph = .ok (.bl (!b)) ph := by
 unfold lift neW; simp only [h, Option.map_some]
theorem eqD_of {ph : PH} {x y : W} {d : PyData} (h1 : dat ph 40 x = some d) (h2 : dat ph 40 y = some d) : eqD ph x y = some true := by
 unfold eqD
 rw [h1, h2]
 simp only [dat_self 40 _ _ h1]
theorem eq_nil {ph : PH} {i j : Nat} {ws : List W} {ds : List PyData} (hi : ph[i]? = some (.lst ws)) (hj : ph[j]? = some (.lst [])) (hd : mapO (dat ph 39) ws = some ds) : eqD ph (.ref i) (.ref j) = some ws.isEmpty := by
 unfold eqD
 have e1 : dat ph 40 (.ref i) = some (.list ds) := by simp only [dat, hi, hd, Option.map_some]
 have e2 : dat ph 40 (.ref j) = some (.list []) := by simp only [dat, hj, mapO, Option.map_some]
 rw [e1, e2]
 cases ws with
 | nil => cases hd; simp [PyData.eqv, PyData.eqvAll]
 | cons w ws =>
  unfold mapO at hd
  split at hd
  ·cases hd; simp [PyData.eqv, PyData.eqvAll]
  ·cases hd
def EVA0 := (And.intro (And.intro (And.intro (And.intro (And.intro (And.intro @bnd_pur (And.intro @bnd_exx @bnd_nop)) (And.intro (And.intro @bnd_assoc @bnd_ite) (And.intro @eVar_0 @eVar_s))) (And.intro (And.intro (And.intro @eC_ap @gN_ap) (And.intro @eOp_ap @eUn_ap)) (And.intro (And.intro @eT_ap @eTru_ap) (And.intro @tAndM_ap @tOrM_ap)))) (And.intro (And.intro (And.intro @tNotM_ap (And.intro @eIf_ap @sSeq_ap)) (And.intro (And.intro @sIf_ap @sRet_ap) (And.intro @sNext_ap @sExpr_ap))) (And.intro (And.intro (And.intro @sAsg_ap @eCall_ap) (And.intro @eCallB_ap @aNil_ap)) (And.intro (And.intro @aCons_ap @eTup_ap) (And.intro @eLst_ap @eIs_ap))))) (And.intro (And.intro (And.intro (And.intro @eAnd_ap (And.intro @eOr_ap @eNot_ap)) (And.intro (And.intro @eChain_ap @eMeth_ap) (And.intro @fEnd_rt @fEnd_nx))) (And.intro (And.intro (And.intro @fM_1 @fM_2) (And.intro @fM_3 @fM_4)) (And.intro (And.intro @l_add @l_sub) (And.intro @l_neg @l_lt)))) (And.intro (And.intro (And.intro (And.intro @l_le @l_gt) (And.intro @l_ge @l_int)) (And.intro (And.intro @l_intb @l_abs) (And.intro @l_max @l_min))) (And.intro (And.intro (And.intro @l_tb @l_truB) (And.intro @l_truI @l_truT)) (And.intro (And.intro @l_eqI @l_neI) (And.intro @lift_ret @pur_ap)))))) (And.intro (And.intro (And.intro (And.intro (And.intro @exx_ap (And.intro @ite_ap @decide_true)) (And.intro (And.intro @decide_false @Bool.false_eq_true) (And.intro @Bool.not_true @Bool.not_false))) (And.intro (And.intro (And.intro @l_eqL @l_neL) (And.intro @l_neB @is_i)) (And.intro (And.intro @is_b @is_n) (And.intro @is_s @is_t)))) (And.intro (And.intro (And.intro (And.intro @k_ii @k_ib) (And.intro @k_bi @k_bb)) (And.intro (And.intro @k_ni @k_si) (And.intro @k_li @k_ll))) (And.intro (And.intro (And.intro @k_tt @newT_0) (And.intro @newT_1 @newT_2)) (And.intro (And.intro @newT_3 @newT_4) (And.intro @newT_5 @ixT_0))))) (And.intro (And.intro (And.intro (And.intro @ixT_1 (And.intro @ixT_2 @ixT_3)) (And.intro (And.intro @ixT_4 @l_notN) (And.intro @l_isN @isNon_i))) (And.intro (And.intro (And.intro @isNon_n @isNon_t) (And.intro @isNon_r @fM_5)) (And.intro (And.intro @fM_6 @ixV_t) (And.intro @ixV_f @ixV_s)))) (And.intro (And.intro (And.intro (And.intro @inV_t @inV_f) (And.intro @ninV_t @mulV_1)) (And.intro (And.intro @gSubV_ap @eDct_ap) (And.intro @in_l2 @in_l3))) (And.intro (And.intro (And.intro @Bool.or_false @Bool.false_or) (And.intro @Bool.or_true @Bool.true_or)) (And.intro (And.intro @Bool.and_true @Bool.true_and) (And.intro @Bool.and_false @Bool.false_and)))))))
theorem EVA : type_of% EVA0 := EVA0
section
variable {ph : PH} {i : Nat} {c f : Str} {fs : List (Str × W)} {w y : W} {kws : List (W × W)}
theorem dict_ref {ws : List W} {ps d : List (W × W)} (h : ph[i]? = some (.lst ws)) (h1 : mapO pairW ws = some ps) (h2 : fillW [] ps = some d) : lift (dictW [.ref i]) ph = .ok (.ref ph.length) (ph ++ [.dct d]) := by
 unfold lift dictW; simp only [h, h1, h2]
end
theorem eSl_ap (m : EM) (lo hi : OM) (σ : PSt) : eSl m lo hi σ = bnd (m σ) fun w => bnd (lo σ) fun l => bnd (hi σ) fun h => lift (slW w l h) := (rfl)
theorem l_augA (i j : Int) : lift (augA (.int i) (.int j)) = pur (.int (i + j)) := (rfl)
section
variable {ph : PH} {i : Nat} {kws : List (W × W)}
theorem sl_from {ws : List W} (h : ph[i]? = some (.lst ws)) (k : Nat) : lift (slW (.ref i) (some (k : Int)) none) ph = .ok (.ref ph.length) (ph ++ [.lst (ws.drop k)]) := by
 have : cutW ws (some (k : Int)) none = ws.drop k := by
  unfold cutW HT.sIx
  simp
  rw [if_neg (by omega)]
  by_cases hk : k <= ws.length
  ·rw [Nat.min_eq_left hk, List.take_of_length_le (by simp)]
  ·rw [Nat.min_eq_right (by omega), List.drop_eq_nil_of_le (Nat.le_refl _), List.drop_eq_nil_of_le (by omega), List.take_nil]
 unfold lift slW
 simp only [h, this]
end
end IL
local macro_rules | `(tactic| ac_nf) => `(tactic| try simp only [IL.EVA, Nat.reduceSub, List.reduceReplicate, List.set_cons_zero, List.set_cons_succ, if_true, if_false, ↓reduceIte, String.reduceEq, reduceCtorEq])
local macro_rules | `(tactic| nofun) => `(tactic| decide +kernel)
namespace IL.K07
open PySem PySem.Spec PyProof.Rows L2
theorem len1 (us : List Value) (hl : us.length = 1) : ∃ a, us = [a] := List.length_eq_one_iff.mp hl
theorem len2 (us : List Value) (hl : us.length = 2) : ∃ a1 a2, us = [a1, a2] := by
 cases us with
 | nil => cases hl
 | cons a1 us =>
  obtain ⟨a2, rfl⟩ := len1 us (Nat.succ.inj hl)
  exact ⟨a1, a2, rfl⟩
theorem len3 (us : List Value) (hl : us.length = 3) : ∃ a1 a2 a3, us = [a1, a2, a3] := by
 cases us with
 | nil => cases hl
 | cons a1 us =>
  obtain ⟨a2, a3, rfl⟩ := len2 us (Nat.succ.inj hl)
  exact ⟨a1, a2, a3, rfl⟩
theorem len4 (us : List Value) (hl : us.length = 4) : ∃ a1 a2 a3 a4, us = [a1, a2, a3, a4] := by
 cases us with
 | nil => cases hl
 | cons a1 us =>
  obtain ⟨a2, a3, a4, rfl⟩ := len3 us (Nat.succ.inj hl)
  exact ⟨a1, a2, a3, a4, rfl⟩
def top (i : Nat) : Stmt := PySem.Challenge.pw_boxwright_k07_whole_gates.main.body.getD i (.Pass ⟨0, 0, 0, 0⟩)
abbrev s_law_cell_at : Stmt := top 8
abbrev s_law_ways_by : Stmt := top 10
abbrev s_found_from : Stmt := top 1
abbrev s_aheads : Stmt := top 2
abbrev s_comes : Stmt := top 3
abbrev s_meeting : Stmt := top 4
abbrev s_gate_so_far : Stmt := top 5
abbrev s_gates : Stmt := top 6
abbrev s_law_reached : Stmt := top 11
abbrev s_law_whole : Stmt := top 9
abbrev s_law : Stmt := top 12
noncomputable def b_law_cell_at : SM := (sSeq (sIf (eT (eOp ltW (eVar 1) (eCallB lenW (aCons (eVar 0) aNil)))) (sRet (eOp ixV (eVar 0) (eVar 1))) sNext) (sRet (eC (.int (0)))))
noncomputable def f_law_cell_at : List W -> Mo W := fM b_law_cell_at 2 2
noncomputable def lb_law_ways_by_1 : SM := (sSeq (sAsg (eOp modW (eOp divW (eOp divW (eVar 5) (eC (.int (7)))) (eOp addW (eC (.int (1))) (eOp mulV (eC (.int (60))) (eVar 7)))) (eVar 1)) (gN 8)) (sSeq (sIf (eT (eOp eqW (eVar 2) (eC (.int (0))))) (sAsg (eOp modW (eOp addW (eOp addW (eVar 4) (eC (.int (1)))) (eOp modW (eOp divW (eOp divW (eVar 5) (eC (.int (7)))) (eOp addW (eC (.int (1))) (eOp mulV (eC (.int (11))) (eVar 7)))) (eC (.int (4))))) (eVar 1)) (gN 8)) sNext) (sExpr (eMeth isL appendW (eVar 6) (aCons (eVar 8) aNil)))))
noncomputable def lb_law_ways_by_2 : SM := (sSeq (sAsg (eOp modW (eOp mulV (eOp addW (eCall f_law_cell_at (aCons (eVar 0) (aCons (eOp addW (eC (.int (2))) (eVar 4)) aNil))) (eOp mulV (eC (.int (7919))) (eVar 4))) (eC (.int (48271)))) (eC (.int (2147483647)))) (gN 5)) (sSeq (sAsg (eLst aNil) (gN 6)) (sSeq (sFor (iR1 (aCons (eOp ixV (eLst (aCons (eC (.int (0))) (aCons (eC (.int (1))) (aCons (eC (.int (1))) (aCons (eC (.int (2))) (aCons (eC (.int (2))) (aCons (eC (.int (2))) (aCons (eC (.int (3))) aNil)))))))) (eOp modW (eVar 5) (eC (.int (7))))) aNil)) (gN 7) lb_law_ways_by_1) (sExpr (eMeth isL appendW (eVar 3) (aCons (eVar 6) aNil))))))
noncomputable def b_law_ways_by : SM := (sSeq (sAsg (eOp addW (eC (.int (1))) (eOp modW (eCall f_law_cell_at (aCons (eVar 0) (aCons (eC (.int (0))) aNil))) (eC (.int (9))))) (gN 1)) (sSeq (sIf (eT (eOp eqW (eOp modW (eOp divW (eCall f_law_cell_at (aCons (eVar 0) (aCons (eC (.int (0))) aNil))) (eC (.int (9)))) (eC (.int (9)))) (eC (.int (1))))) (sAsg (eOp addW (eC (.int (10))) (eOp modW (eOp divW (eCall f_law_cell_at (aCons (eVar 0) (aCons (eC (.int (0))) aNil))) (eC (.int (81)))) (eC (.int (8))))) (gN 1)) sNext) (sSeq (sIf (eT (eOp eqW (eOp modW (eOp divW (eCall f_law_cell_at (aCons (eVar 0) (aCons (eC (.int (0))) aNil))) (eC (.int (9)))) (eC (.int (18)))) (eC (.int (2))))) (sAsg (eOp addW (eC (.int (18))) (eOp modW (eOp divW (eCall f_law_cell_at (aCons (eVar 0) (aCons (eC (.int (0))) aNil))) (eC (.int (162)))) (eC (.int (11))))) (gN 1)) sNext) (sSeq (sAsg (eOp modW (eCall f_law_cell_at (aCons (eVar 0) (aCons (eC (.int (1))) aNil))) (eC (.int (3)))) (gN 2)) (sSeq (sAsg (eLst aNil) (gN 3)) (sSeq (sFor (iR1 (aCons (eVar 1) aNil)) (gN 4) lb_law_ways_by_2) (sRet (eVar 3))))))))
noncomputable def f_law_ways_by : List W -> Mo W := fM b_law_ways_by 9 1
noncomputable def l_aheads : EM := (eOp ixV (eVar 1) (eVar 0))
noncomputable def lb_found_from_1 : SM := (sIf (eT (eOp ninV (eVar 4) (eVar 2))) (sSeq (sAsg (eC .non) (gSubV (eVar 2) (eVar 4))) (sExpr (eMeth isL appendW (eVar 3) (aCons (eVar 4) aNil)))) sNext)
noncomputable def lb_found_from_2 : SM := (sIf (eT (eOp ninV (eVar 7) (eVar 2))) (sSeq (sAsg (eVar 6) (gSubV (eVar 2) (eVar 7))) (sExpr (eMeth isL appendW (eVar 3) (aCons (eVar 7) aNil)))) sNext)
noncomputable def lb_found_from_3 : SM := (sSeq (sAsg (eOp ixV (eVar 3) (eVar 5)) (gN 6)) (sSeq (sAsg (eOp augA (eVar 5) (eC (.int (1)))) (gN 5)) (sFor (iBoth (eApp "aheads" l_aheads 1 (aCons (eVar 6) aNil))) (gN 7) lb_found_from_2)))
noncomputable def b_found_from : SM := (sSeq (sAsg eDct (gN 2)) (sSeq (sAsg (eLst aNil) (gN 3)) (sSeq (sFor (iBoth (eVar 0)) (gN 4) lb_found_from_1) (sSeq (sAsg (eC (.int (0))) (gN 5)) (sSeq (sWhile (eT (eOp ltW (eVar 5) (eCallB lenW (aCons (eVar 3) aNil)))) lb_found_from_3) (sRet (eVar 2)))))))
noncomputable def f_found_from : List W -> Mo W := fM b_found_from 8 2
noncomputable def f_aheads : List W -> Mo W := fLam "aheads" (eLst (aCons (eC (.int (0))) aNil)) f_found_from
noncomputable def lb_comes_1 : SM := (sExpr (eMeth isL appendW (eOp ixV (eVar 1) (eVar 3)) (aCons (eVar 2) aNil)))
noncomputable def lb_comes_2 : SM := (sFor (iBoth (eOp ixV (eVar 0) (eVar 2))) (gN 3) lb_comes_1)
noncomputable def b_comes : SM := (sSeq (sAsg (eComp (iBoth (eVar 0)) [none] (gN 0) cTrue (eLst aNil)) (gN 1)) (sSeq (sFor (iBoth (eCallB sortW (aCons (eCall f_aheads (aCons (eVar 0) aNil)) aNil))) (gN 2) lb_comes_2) (sRet (eVar 1))))
noncomputable def f_comes : List W -> Mo W := fM b_comes 4 1
noncomputable def lb_meeting_1 : SM := (sIf (eT (eOp gtW (eOp ixV (eVar 1) (eVar 2)) (eOp ixV (eVar 1) (eVar 3)))) (sAsg (eOp ixV (eVar 0) (eVar 2)) (gN 2)) (sAsg (eOp ixV (eVar 0) (eVar 3)) (gN 3)))
noncomputable def b_meeting : SM := (sSeq (sWhile (eT (eOp neW (eVar 2) (eVar 3))) lb_meeting_1) (sRet (eVar 2)))
noncomputable def f_meeting : List W -> Mo W := fM b_meeting 4 4
noncomputable def lb_gate_so_far_1 : SM := (sIf (tOrM (eT (eOp eqW (eOp ixV (eVar 1) (eVar 4)) (eC (.int (0))))) (eT (eOp notNW (eOp ixV (eVar 0) (eVar 4)) (eC .non)))) (sAsg (eIf (eT (eOp isNW (eVar 3) (eC .non))) (eVar 4) (eCall f_meeting (aCons (eVar 0) (aCons (eVar 1) (aCons (eVar 3) (aCons (eVar 4) aNil)))))) (gN 3)) sNext)
noncomputable def b_gate_so_far : SM := (sSeq (sAsg (eC .non) (gN 3)) (sSeq (sFor (iBoth (eVar 2)) (gN 4) lb_gate_so_far_1) (sRet (eVar 3))))
noncomputable def f_gate_so_far : List W -> Mo W := fM b_gate_so_far 5 3
noncomputable def lb_gates_1 : SM := (sSeq (sAsg (eCall f_gate_so_far (aCons (eVar 4) (aCons (eVar 2) (aCons (eOp ixV (eVar 3) (eVar 6)) aNil)))) (gN 7)) (sIf (eT (eOp neW (eOp ixV (eVar 4) (eVar 6)) (eVar 7))) (sSeq (sAsg (eVar 7) (gSubV (eVar 4) (eVar 6))) (sAsg (eC (.bl false)) (gN 5))) sNext))
noncomputable def lb_gates_2 : SM := (sSeq (sAsg (eC (.bl true)) (gN 5)) (sFor (iBoth (eSl (eVar 1) (oSome (eC (.int (1)))) oNone)) (gN 6) lb_gates_1))
noncomputable def b_gates : SM := (sSeq (sAsg (eCallB listV (aCons (eCall f_aheads (aCons (eVar 0) aNil)) aNil)) (gN 1)) (sSeq (sAsg (eCallB dictW (aCons (eComp (iEnum (aCons (eVar 1) aNil)) [none, none] (gLen 2 [(gN 0), (gN 1)]) cTrue (eTup (aCons (eVar 1) (aCons (eVar 0) aNil)))) aNil)) (gN 2)) (sSeq (sAsg (eCall f_comes (aCons (eVar 0) aNil)) (gN 3)) (sSeq (sAsg (eComp (iBoth (eVar 0)) [none] (gN 0) cTrue (eC .non)) (gN 4)) (sSeq (sAsg (eC (.bl false)) (gN 5)) (sSeq (sWhile (tNotM (eTru (eVar 5))) lb_gates_2) (sRet (eVar 4))))))))
noncomputable def f_gates : List W -> Mo W := fM b_gates 8 1
noncomputable def lb_law_reached_1 : SM := (sIf (tAndM (eT (eOp neW (eVar 5) (eVar 1))) (eT (eOp ninV (eVar 5) (eVar 2)))) (sSeq (sAsg (eC (.bl true)) (gSubV (eVar 2) (eVar 5))) (sExpr (eMeth isL appendW (eVar 3) (aCons (eVar 5) aNil)))) sNext)
noncomputable def lb_law_reached_2 : SM := (sSeq (sAsg (eMeth isL popW (eVar 3) aNil) (gN 4)) (sFor (iBoth (eOp ixV (eVar 0) (eVar 4))) (gN 5) lb_law_reached_1))
noncomputable def b_law_reached : SM := (sSeq (sAsg eDct (gN 2)) (sSeq (sIf (eT (eOp neW (eVar 1) (eC (.int (0))))) (sAsg (eC (.bl true)) (gSubV (eVar 2) (eC (.int (0))))) sNext) (sSeq (sAsg (eCallB listV (aCons (eVar 2) aNil)) (gN 3)) (sSeq (sWhile (eT (eOp neW (eVar 3) (eLst aNil))) lb_law_reached_2) (sRet (eVar 2))))))
noncomputable def f_law_reached : List W -> Mo W := fM b_law_reached 6 2
noncomputable def b_law_whole : SM := (sRet (eAnd (eIs "int" (eVar 0)) (eNot (eIs "bool" (eVar 0)))))
noncomputable def f_law_whole : List W -> Mo W := fM b_law_whole 1 1
noncomputable def lb_law_1 : SM := (sIf (tAndM (eT (eOp neW (eVar 8) (eVar 6))) (tAndM (eT (eOp neW (eVar 8) (eVar 7))) (tAndM (eT (eOp ninV (eVar 6) (eOp ixV (eVar 5) (eVar 8)))) (eT (eOp inV (eVar 7) (eOp ixV (eVar 5) (eVar 8))))))) (sRet (eC (.bl false))) sNext)
noncomputable def lb_law_2 : SM := (sSeq (sAsg (eOp ixV (eVar 3) (eVar 6)) (gN 7)) (sIf (tOrM (eT (eOp eqW (eVar 6) (eC (.int (0))))) (eT (eOp ninV (eVar 6) (eVar 4)))) (sIf (eT (eOp notNW (eVar 7) (eC .non))) (sRet (eC (.bl false))) sNext) (sSeq (sIf (tOrM (tNotM (eTru (eCall f_law_whole (aCons (eVar 7) aNil)))) (tOrM (eT (eOp eqW (eVar 7) (eVar 6))) (tOrM (eT (eOp ninV (eVar 7) (eVar 4))) (eT (eOp inV (eVar 6) (eOp ixV (eVar 5) (eVar 7))))))) (sRet (eC (.bl false))) sNext) (sFor (iR1 (aCons (eCallB lenW (aCons (eVar 1) aNil)) aNil)) (gN 8) lb_law_1))))
noncomputable def b_law : SM := (sSeq (sAsg (eCall f_law_ways_by (aCons (eVar 0) aNil)) (gN 1)) (sSeq (sAsg (eComp (iBoth (eVar 1)) [none] (gN 0) cTrue (eCallB listV (aCons (eVar 0) aNil))) (gN 2)) (sSeq (sAsg (eCall f_gates (aCons (eVar 2) aNil)) (gN 3)) (sSeq (sIf (tOrM (tNotM (eTru (eIs "list" (eVar 3)))) (tOrM (eT (eOp neW (eCallB lenW (aCons (eVar 3) aNil)) (eCallB lenW (aCons (eVar 1) aNil)))) (eT (eOp neW (eVar 2) (eVar 1))))) (sRet (eC (.bl false))) sNext) (sSeq (sAsg (eCall f_law_reached (aCons (eVar 1) (aCons (eC .non) aNil))) (gN 4)) (sSeq (sAsg (eComp (iR1 (aCons (eCallB lenW (aCons (eVar 1) aNil)) aNil)) [none, some 1] (gN 0) cTrue (eCall f_law_reached (aCons (eVar 1) (aCons (eVar 0) aNil)))) (gN 5)) (sSeq (sFor (iR1 (aCons (eCallB lenW (aCons (eVar 1) aNil)) aNil)) (gN 6) lb_law_2) (sSeq (sAsg (eCallB listV (aCons (eVar 3) aNil)) (gN 9)) (sSeq (sExpr (eMeth isL appendW (eVar 3) (aCons (eC (.int (0))) aNil))) (sRet (eAnd (eOp eqW (eCall f_gates (aCons (eVar 2) aNil)) (eVar 9)) (eOp eqW (eVar 2) (eVar 1)))))))))))))
noncomputable def f_law : List W -> Mo W := fM b_law 10 1
set_option genInjectivity false in
structure Tx (K : PySem.W.Frag) (mg : Str -> Option Value) where
 a_law_cell_at : Addr
 d_law_cell_at : FuncData
 F_law_cell_at : Fun K "_law_cell_at" "_law_cell_at" s_law_cell_at a_law_cell_at d_law_cell_at
 m_law_cell_at : mg "_law_cell_at" = some (.ref a_law_cell_at)
 b_law_cell_at : Binds K d_law_cell_at ["_law_script", "_law_k"] []
 a_law_ways_by : Addr
 d_law_ways_by : FuncData
 F_law_ways_by : Fun K "_law_ways_by" "_law_ways_by" s_law_ways_by a_law_ways_by d_law_ways_by
 m_law_ways_by : mg "_law_ways_by" = some (.ref a_law_ways_by)
 b_law_ways_by : Binds K d_law_ways_by ["_law_script"] []
 a_found_from : Addr
 d_found_from : FuncData
 F_found_from : Fun K "found_from" "found_from" s_found_from a_found_from d_found_from
 m_found_from : mg "found_from" = some (.ref a_found_from)
 b_found_from : Binds K d_found_from ["starts", "further"] []
 a_aheads : Addr
 d_aheads : FuncData
 F_aheads : Fun K "aheads" "aheads" s_aheads a_aheads d_aheads
 m_aheads : mg "aheads" = some (.ref a_aheads)
 b_aheads : Binds K d_aheads ["ways"] []
 a_comes : Addr
 d_comes : FuncData
 F_comes : Fun K "comes" "comes" s_comes a_comes d_comes
 m_comes : mg "comes" = some (.ref a_comes)
 b_comes : Binds K d_comes ["ways"] []
 a_meeting : Addr
 d_meeting : FuncData
 F_meeting : Fun K "meeting" "meeting" s_meeting a_meeting d_meeting
 m_meeting : mg "meeting" = some (.ref a_meeting)
 b_meeting : Binds K d_meeting ["told", "ranks", "one", "other"] []
 a_gate_so_far : Addr
 d_gate_so_far : FuncData
 F_gate_so_far : Fun K "gate_so_far" "gate_so_far" s_gate_so_far a_gate_so_far d_gate_so_far
 m_gate_so_far : mg "gate_so_far" = some (.ref a_gate_so_far)
 b_gate_so_far : Binds K d_gate_so_far ["told", "ranks", "arrivals"] []
 a_gates : Addr
 d_gates : FuncData
 F_gates : Fun K "gates" "gates" s_gates a_gates d_gates
 m_gates : mg "gates" = some (.ref a_gates)
 b_gates : Binds K d_gates ["ways"] []
 a_law_reached : Addr
 d_law_reached : FuncData
 F_law_reached : Fun K "_law_reached" "_law_reached" s_law_reached a_law_reached d_law_reached
 m_law_reached : mg "_law_reached" = some (.ref a_law_reached)
 b_law_reached : Binds K d_law_reached ["_law_ways", "_law_shut"] []
 a_law_whole : Addr
 d_law_whole : FuncData
 F_law_whole : Fun K "_law_whole" "_law_whole" s_law_whole a_law_whole d_law_whole
 m_law_whole : mg "_law_whole" = some (.ref a_law_whole)
 b_law_whole : Binds K d_law_whole ["_law_found"] []
 a_law : Addr
 d_law : FuncData
 F_law : Fun K "law" "law" s_law a_law d_law
 m_law : mg "law" = some (.ref a_law)
 b_law : Binds K d_law ["_law_script"] []
 lc_aheads : Addr
 lP_aheads : Addr
 lo_aheads : Obj
 le_aheads : d_aheads.code = .ref lc_aheads
 lk_aheads : K.lookup lc_aheads = some lo_aheads
 lq_aheads : codeTab lo_aheads = some lP_aheads
 ln_aheads : lc_aheads ≠ lP_aheads
 lm_aheads : (("aheads" : Str), lc_aheads, lP_aheads) ∈ lamTabs K
 lu_aheads : ∀ p ∈ lamTabs K, p.2.2 = lP_aheads -> p.1 = "aheads"
 lh_aheads : lamIn K "aheads" = some (lamD s_aheads)
 n_bool : mg "bool" = none
 n_dict : mg "dict" = none
 n_enumerate : mg "enumerate" = none
 n_int : mg "int" = none
 n_isinstance : mg "isinstance" = none
 n_len : mg "len" = none
 n_list : mg "list" = none
 n_range : mg "range" = none
 n_sorted : mg "sorted" = none
theorem blkG {X : Cx} {N N' : List Str} {sc scope : Scope} {k : Nat} {tg : Expr} {g : GM} (B : Bd X N sc k) (T : Tx X.K X.mg) (hc : ∀ y ∈ scope.names, y.2 ≠ .cell) (nd : N'.Nodup) (h : ∀ {Y : Cx}, Bd Y N' scope k -> Tx Y.K Y.mg -> JG Y tg g) (cl : List (Str × Addr)) (C : Addr) (s₀ : Shared) (H₀ : Hp) (ex : List Addr) : JG (blk X N' scope cl C s₀ H₀ ex) tg g := h (B.blk hc nd) T
theorem blkF {X : Cx} {N N' : List Str} {sc scope : Scope} {k : Nat} {ifs : List Expr} {t : TM} (B : Bd X N sc k) (T : Tx X.K X.mg) (hc : ∀ y ∈ scope.names, y.2 ≠ .cell) (nd : N'.Nodup) (h : ∀ {Y : Cx}, Bd Y N' scope k -> Tx Y.K Y.mg -> JF Y ifs t) (cl : List (Str × Addr)) (C : Addr) (s₀ : Shared) (H₀ : Hp) (ex : List Addr) : JF (blk X N' scope cl C s₀ H₀ ex) ifs t := h (B.blk hc nd) T
theorem blkE {X : Cx} {N N' : List Str} {sc scope : Scope} {k : Nat} {e : Expr} {m : EM} (B : Bd X N sc k) (T : Tx X.K X.mg) (hc : ∀ y ∈ scope.names, y.2 ≠ .cell) (nd : N'.Nodup) (h : ∀ {Y : Cx}, Bd Y N' scope k -> Tx Y.K Y.mg -> JE Y e m) (cl : List (Str × Addr)) (C : Addr) (s₀ : Shared) (H₀ : Hp) (ex : List Addr) : JE (blk X N' scope cl C s₀ H₀ ex) e m := h (B.blk hc nd) T
theorem nk_law_script : nmOk "_law_script" = true := by nofun
theorem nk_law_k : nmOk "_law_k" = true := by nofun
theorem nk_law_many : nmOk "_law_many" = true := by nofun
theorem nk_law_near : nmOk "_law_near" = true := by nofun
theorem nk_law_ways : nmOk "_law_ways" = true := by nofun
theorem nk_law_block : nmOk "_law_block" = true := by nofun
theorem nk_law_cell : nmOk "_law_cell" = true := by nofun
theorem nk_law_goals : nmOk "_law_goals" = true := by nofun
theorem nk_law_goal : nmOk "_law_goal" = true := by nofun
theorem nk_starts : nmOk "starts" = true := by nofun
theorem nk_further : nmOk "further" = true := by nofun
theorem nk_found : nmOk "found" = true := by nofun
theorem nk_queue : nmOk "queue" = true := by nofun
theorem nk_start : nmOk "start" = true := by nofun
theorem nk_done : nmOk "done" = true := by nofun
theorem nk_thing : nmOk "thing" = true := by nofun
theorem nk_other : nmOk "other" = true := by nofun
theorem nk_ways : nmOk "ways" = true := by nofun
theorem nk_told : nmOk "told" = true := by nofun
theorem nk_block : nmOk "block" = true := by nofun
theorem nk_ranks : nmOk "ranks" = true := by nofun
theorem nk_one : nmOk "one" = true := by nofun
theorem nk_arrivals : nmOk "arrivals" = true := by nofun
theorem nk_gate : nmOk "gate" = true := by nofun
theorem nk_near : nmOk "near" = true := by nofun
theorem nk_settled : nmOk "settled" = true := by nofun
theorem nk_rank : nmOk "rank" = true := by nofun
theorem nk_law_shut : nmOk "_law_shut" = true := by nofun
theorem nk_law_there : nmOk "_law_there" = true := by nofun
theorem nk_law_waiting : nmOk "_law_waiting" = true := by nofun
theorem nk_law_other : nmOk "_law_other" = true := by nofun
theorem nk_law_found : nmOk "_law_found" = true := by nofun
theorem nk_law_handed : nmOk "_law_handed" = true := by nofun
theorem nk_law_less : nmOk "_law_less" = true := by nofun
theorem nk_law_gate : nmOk "_law_gate" = true := by nofun
theorem nk_law_copy : nmOk "_law_copy" = true := by nofun
theorem nk_law_one : nmOk "_law_one" = true := by nofun
theorem ls_aheads : LamS (lamD s_aheads) "block" "ways" := ⟨rfl, rfl, rfl, by nofun, by nofun, by nofun, (fun y h => lk_one (l := (lamD s_aheads).sc.names) (by nofun) h), fun _ _ _ _ _ _ => rfl⟩
theorem vis_law_cell_at_0 : Vis (defScope s_law_cell_at) "_law_script" := .inl (by nofun)
theorem vis_law_cell_at_1 : Vis (defScope s_law_cell_at) "_law_k" := .inl (by nofun)
theorem gl_law_cell_at_len : (defScope s_law_cell_at).names.lookup ("len" : Str) = some .globalImplicit := by nofun
theorem vis_law_ways_by_0 : Vis (defScope s_law_ways_by) "_law_script" := .inl (by nofun)
theorem vis_law_ways_by_1 : Vis (defScope s_law_ways_by) "_law_many" := .inl (by nofun)
theorem loc_law_ways_by_1 : Loc (defScope s_law_ways_by) "_law_many" := .inl (by nofun)
theorem vis_law_ways_by_2 : Vis (defScope s_law_ways_by) "_law_near" := .inl (by nofun)
theorem loc_law_ways_by_2 : Loc (defScope s_law_ways_by) "_law_near" := .inl (by nofun)
theorem vis_law_ways_by_3 : Vis (defScope s_law_ways_by) "_law_ways" := .inl (by nofun)
theorem loc_law_ways_by_3 : Loc (defScope s_law_ways_by) "_law_ways" := .inl (by nofun)
theorem vis_law_ways_by_4 : Vis (defScope s_law_ways_by) "_law_block" := .inl (by nofun)
theorem loc_law_ways_by_4 : Loc (defScope s_law_ways_by) "_law_block" := .inl (by nofun)
theorem vis_law_ways_by_5 : Vis (defScope s_law_ways_by) "_law_cell" := .inl (by nofun)
theorem loc_law_ways_by_5 : Loc (defScope s_law_ways_by) "_law_cell" := .inl (by nofun)
theorem vis_law_ways_by_6 : Vis (defScope s_law_ways_by) "_law_goals" := .inl (by nofun)
theorem loc_law_ways_by_6 : Loc (defScope s_law_ways_by) "_law_goals" := .inl (by nofun)
theorem vis_law_ways_by_7 : Vis (defScope s_law_ways_by) "_law_k" := .inl (by nofun)
theorem loc_law_ways_by_7 : Loc (defScope s_law_ways_by) "_law_k" := .inl (by nofun)
theorem vis_law_ways_by_8 : Vis (defScope s_law_ways_by) "_law_goal" := .inl (by nofun)
theorem loc_law_ways_by_8 : Loc (defScope s_law_ways_by) "_law_goal" := .inl (by nofun)
theorem gl_law_ways_by_law_cell_at : (defScope s_law_ways_by).names.lookup ("_law_cell_at" : Str) = some .globalImplicit := by nofun
theorem gl_law_ways_by_range : (defScope s_law_ways_by).names.lookup ("range" : Str) = some .globalImplicit := by nofun
theorem vis_found_from_0 : Vis (defScope s_found_from) "starts" := .inl (by nofun)
theorem vis_found_from_1 : Vis (defScope s_found_from) "further" := .inl (by nofun)
theorem vis_found_from_2 : Vis (defScope s_found_from) "found" := .inl (by nofun)
theorem loc_found_from_2 : Loc (defScope s_found_from) "found" := .inl (by nofun)
theorem vis_found_from_3 : Vis (defScope s_found_from) "queue" := .inl (by nofun)
theorem loc_found_from_3 : Loc (defScope s_found_from) "queue" := .inl (by nofun)
theorem vis_found_from_4 : Vis (defScope s_found_from) "start" := .inl (by nofun)
theorem loc_found_from_4 : Loc (defScope s_found_from) "start" := .inl (by nofun)
theorem vis_found_from_5 : Vis (defScope s_found_from) "done" := .inl (by nofun)
theorem loc_found_from_5 : Loc (defScope s_found_from) "done" := .inl (by nofun)
theorem vis_found_from_6 : Vis (defScope s_found_from) "thing" := .inl (by nofun)
theorem loc_found_from_6 : Loc (defScope s_found_from) "thing" := .inl (by nofun)
theorem vis_found_from_7 : Vis (defScope s_found_from) "other" := .inl (by nofun)
theorem loc_found_from_7 : Loc (defScope s_found_from) "other" := .inl (by nofun)
theorem gl_found_from_len : (defScope s_found_from).names.lookup ("len" : Str) = some .globalImplicit := by nofun
theorem vis_aheads_0 : Vis (defScope s_aheads) "ways" := .inr (.inl (by nofun))
theorem vis_comes_0 : Vis (defScope s_comes) "ways" := .inl (by nofun)
theorem vis_comes_1 : Vis (defScope s_comes) "told" := .inl (by nofun)
theorem vis_comes_2 : Vis (defScope s_comes) "block" := .inl (by nofun)
theorem loc_comes_2 : Loc (defScope s_comes) "block" := .inl (by nofun)
theorem vis_comes_3 : Vis (defScope s_comes) "further" := .inl (by nofun)
theorem loc_comes_3 : Loc (defScope s_comes) "further" := .inl (by nofun)
theorem gl_comes_aheads : (defScope s_comes).names.lookup ("aheads" : Str) = some .globalImplicit := by nofun
theorem gl_comes_sorted : (defScope s_comes).names.lookup ("sorted" : Str) = some .globalImplicit := by nofun
theorem vis_meeting_0 : Vis (defScope s_meeting) "told" := .inl (by nofun)
theorem vis_meeting_1 : Vis (defScope s_meeting) "ranks" := .inl (by nofun)
theorem vis_meeting_2 : Vis (defScope s_meeting) "one" := .inl (by nofun)
theorem loc_meeting_2 : Loc (defScope s_meeting) "one" := .inl (by nofun)
theorem vis_meeting_3 : Vis (defScope s_meeting) "other" := .inl (by nofun)
theorem loc_meeting_3 : Loc (defScope s_meeting) "other" := .inl (by nofun)
theorem vis_gate_so_far_0 : Vis (defScope s_gate_so_far) "told" := .inl (by nofun)
theorem vis_gate_so_far_1 : Vis (defScope s_gate_so_far) "ranks" := .inl (by nofun)
theorem vis_gate_so_far_2 : Vis (defScope s_gate_so_far) "arrivals" := .inl (by nofun)
theorem vis_gate_so_far_3 : Vis (defScope s_gate_so_far) "gate" := .inl (by nofun)
theorem loc_gate_so_far_3 : Loc (defScope s_gate_so_far) "gate" := .inl (by nofun)
theorem vis_gate_so_far_4 : Vis (defScope s_gate_so_far) "block" := .inl (by nofun)
theorem loc_gate_so_far_4 : Loc (defScope s_gate_so_far) "block" := .inl (by nofun)
theorem gl_gate_so_far_meeting : (defScope s_gate_so_far).names.lookup ("meeting" : Str) = some .globalImplicit := by nofun
theorem vis_gates_0 : Vis (defScope s_gates) "ways" := .inl (by nofun)
theorem vis_gates_1 : Vis (defScope s_gates) "near" := .inl (by nofun)
theorem loc_gates_1 : Loc (defScope s_gates) "near" := .inl (by nofun)
theorem vis_gates_2 : Vis (defScope s_gates) "ranks" := .inl (by nofun)
theorem loc_gates_2 : Loc (defScope s_gates) "ranks" := .inl (by nofun)
theorem vis_gates_3 : Vis (defScope s_gates) "arrivals" := .inl (by nofun)
theorem loc_gates_3 : Loc (defScope s_gates) "arrivals" := .inl (by nofun)
theorem vis_gates_4 : Vis (defScope s_gates) "told" := .inl (by nofun)
theorem vis_gates_5 : Vis (defScope s_gates) "settled" := .inl (by nofun)
theorem loc_gates_5 : Loc (defScope s_gates) "settled" := .inl (by nofun)
theorem vis_gates_6 : Vis (defScope s_gates) "block" := .inl (by nofun)
theorem loc_gates_6 : Loc (defScope s_gates) "block" := .inl (by nofun)
theorem vis_gates_7 : Vis (defScope s_gates) "gate" := .inl (by nofun)
theorem loc_gates_7 : Loc (defScope s_gates) "gate" := .inl (by nofun)
theorem gl_gates_aheads : (defScope s_gates).names.lookup ("aheads" : Str) = some .globalImplicit := by nofun
theorem gl_gates_list : (defScope s_gates).names.lookup ("list" : Str) = some .globalImplicit := by nofun
theorem gl_gates_enumerate : (defScope s_gates).names.lookup ("enumerate" : Str) = some .globalImplicit := by nofun
theorem gl_gates_dict : (defScope s_gates).names.lookup ("dict" : Str) = some .globalImplicit := by nofun
theorem gl_gates_comes : (defScope s_gates).names.lookup ("comes" : Str) = some .globalImplicit := by nofun
theorem gl_gates_gate_so_far : (defScope s_gates).names.lookup ("gate_so_far" : Str) = some .globalImplicit := by nofun
theorem vis_law_reached_0 : Vis (defScope s_law_reached) "_law_ways" := .inl (by nofun)
theorem vis_law_reached_1 : Vis (defScope s_law_reached) "_law_shut" := .inl (by nofun)
theorem vis_law_reached_2 : Vis (defScope s_law_reached) "_law_there" := .inl (by nofun)
theorem loc_law_reached_2 : Loc (defScope s_law_reached) "_law_there" := .inl (by nofun)
theorem vis_law_reached_3 : Vis (defScope s_law_reached) "_law_waiting" := .inl (by nofun)
theorem loc_law_reached_3 : Loc (defScope s_law_reached) "_law_waiting" := .inl (by nofun)
theorem vis_law_reached_4 : Vis (defScope s_law_reached) "_law_block" := .inl (by nofun)
theorem loc_law_reached_4 : Loc (defScope s_law_reached) "_law_block" := .inl (by nofun)
theorem vis_law_reached_5 : Vis (defScope s_law_reached) "_law_other" := .inl (by nofun)
theorem loc_law_reached_5 : Loc (defScope s_law_reached) "_law_other" := .inl (by nofun)
theorem gl_law_reached_list : (defScope s_law_reached).names.lookup ("list" : Str) = some .globalImplicit := by nofun
theorem vis_law_whole_0 : Vis (defScope s_law_whole) "_law_found" := .inl (by nofun)
theorem gl_law_whole_isinstance : (defScope s_law_whole).names.lookup ("isinstance" : Str) = some .globalImplicit := by nofun
theorem gl_law_whole_int : (defScope s_law_whole).names.lookup ("int" : Str) = some .globalImplicit := by nofun
theorem gl_law_whole_bool : (defScope s_law_whole).names.lookup ("bool" : Str) = some .globalImplicit := by nofun
theorem vis_law_0 : Vis (defScope s_law) "_law_script" := .inl (by nofun)
theorem vis_law_1 : Vis (defScope s_law) "_law_ways" := .inr (.inl (by nofun))
theorem loc_law_1 : Loc (defScope s_law) "_law_ways" := .inr (by nofun)
theorem vis_law_2 : Vis (defScope s_law) "_law_handed" := .inl (by nofun)
theorem vis_law_3 : Vis (defScope s_law) "_law_found" := .inl (by nofun)
theorem loc_law_3 : Loc (defScope s_law) "_law_found" := .inl (by nofun)
theorem vis_law_4 : Vis (defScope s_law) "_law_there" := .inl (by nofun)
theorem loc_law_4 : Loc (defScope s_law) "_law_there" := .inl (by nofun)
theorem vis_law_5 : Vis (defScope s_law) "_law_less" := .inl (by nofun)
theorem vis_law_6 : Vis (defScope s_law) "_law_block" := .inl (by nofun)
theorem loc_law_6 : Loc (defScope s_law) "_law_block" := .inl (by nofun)
theorem vis_law_7 : Vis (defScope s_law) "_law_gate" := .inl (by nofun)
theorem loc_law_7 : Loc (defScope s_law) "_law_gate" := .inl (by nofun)
theorem vis_law_8 : Vis (defScope s_law) "_law_other" := .inl (by nofun)
theorem loc_law_8 : Loc (defScope s_law) "_law_other" := .inl (by nofun)
theorem vis_law_9 : Vis (defScope s_law) "_law_copy" := .inl (by nofun)
theorem loc_law_9 : Loc (defScope s_law) "_law_copy" := .inl (by nofun)
theorem gl_law_law_ways_by : (defScope s_law).names.lookup ("_law_ways_by" : Str) = some .globalImplicit := by nofun
theorem gl_law_gates : (defScope s_law).names.lookup ("gates" : Str) = some .globalImplicit := by nofun
theorem gl_law_isinstance : (defScope s_law).names.lookup ("isinstance" : Str) = some .globalImplicit := by nofun
theorem gl_law_list : (defScope s_law).names.lookup ("list" : Str) = some .globalImplicit := by nofun
theorem gl_law_len : (defScope s_law).names.lookup ("len" : Str) = some .globalImplicit := by nofun
theorem gl_law_law_reached : (defScope s_law).names.lookup ("_law_reached" : Str) = some .globalImplicit := by nofun
theorem gl_law_range : (defScope s_law).names.lookup ("range" : Str) = some .globalImplicit := by nofun
theorem gl_law_law_whole : (defScope s_law).names.lookup ("_law_whole" : Str) = some .globalImplicit := by nofun
section
variable {P : Program} {w : World} {K : PySem.W.Frag} {mg : Str -> Option Value} {base : Heap}
theorem sc_law_cell_at : FnScope ["_law_script", "_law_k"] ["_law_script", "_law_k"] (defScope s_law_cell_at) := ⟨rfl, rfl, rfl, by nofun, rfl, by nofun, by nofun⟩
theorem body_law_cell_at {X : Cx} (T : Tx X.K X.mg) (B : Bd X ["_law_script", "_law_k"] (defScope s_law_cell_at) 0) (hF : TopF X) (hsc : X.env.scope = defScope s_law_cell_at) : JB X (defBody s_law_cell_at) b_law_cell_at :=
 have v0 {p : Pos} : JE X (.Name "_law_script" p) (eVar 0) := B.jv 0 rfl vis_law_cell_at_0 nk_law_script
 have v1 {p : Pos} : JE X (.Name "_law_k" p) (eVar 1) := B.jv 1 rfl vis_law_cell_at_1 nk_law_k
 (jb_cons (js_if (jt_cmp cp_lt v1 (je_blt rfl (by nofun) (by nofun) call_lenW lenW_i (B.gl _ gl_law_cell_at_len) T.n_len PySem.boot_len (ja_c rfl v0 ja_nil))) (jb_one (js_ret (B.ixV v0 v1))) jb_nil) (jb_one (js_ret je_int)))
theorem ok_law_cell_at (T : Tx K mg) : FnOk P w K mg base (CXW P w) 1 T.a_law_cell_at T.d_law_cell_at ["_law_script", "_law_k"] (spM K mg 2 (fM b_law_cell_at 2 2)) := fun_ilT rfl rfl T.F_law_cell_at sc_law_cell_at fun {X} h1 h2 h3 h4 h5 B hF hsc => by subst h3 h4; exact body_law_cell_at T B hF hsc
theorem sc_law_ways_by : FnScope ["_law_script", "_law_many", "_law_near", "_law_ways", "_law_block", "_law_cell", "_law_goals", "_law_k", "_law_goal"] ["_law_script"] (defScope s_law_ways_by) := ⟨rfl, rfl, rfl, by nofun, rfl, by nofun, by nofun⟩
theorem body_law_ways_by {X : Cx} (T : Tx X.K X.mg) (B : Bd X ["_law_script", "_law_many", "_law_near", "_law_ways", "_law_block", "_law_cell", "_law_goals", "_law_k", "_law_goal"] (defScope s_law_ways_by) 1) (hF : TopF X) (hsc : X.env.scope = defScope s_law_ways_by) : JB X (defBody s_law_ways_by) b_law_ways_by :=
 have v0 {p : Pos} : JE X (.Name "_law_script" p) (eVar 0) := B.jv 0 rfl vis_law_ways_by_0 nk_law_script
 have v1 {p : Pos} : JE X (.Name "_law_many" p) (eVar 1) := B.jv 1 rfl vis_law_ways_by_1 nk_law_many
 have v2 {p : Pos} : JE X (.Name "_law_near" p) (eVar 2) := B.jv 2 rfl vis_law_ways_by_2 nk_law_near
 have v3 {p : Pos} : JE X (.Name "_law_ways" p) (eVar 3) := B.jv 3 rfl vis_law_ways_by_3 nk_law_ways
 have v4 {p : Pos} : JE X (.Name "_law_block" p) (eVar 4) := B.jv 4 rfl vis_law_ways_by_4 nk_law_block
 have v5 {p : Pos} : JE X (.Name "_law_cell" p) (eVar 5) := B.jv 5 rfl vis_law_ways_by_5 nk_law_cell
 have v6 {p : Pos} : JE X (.Name "_law_goals" p) (eVar 6) := B.jv 6 rfl vis_law_ways_by_6 nk_law_goals
 have v7 {p : Pos} : JE X (.Name "_law_k" p) (eVar 7) := B.jv 7 rfl vis_law_ways_by_7 nk_law_k
 have v8 {p : Pos} : JE X (.Name "_law_goal" p) (eVar 8) := B.jv 8 rfl vis_law_ways_by_8 nk_law_goal
 (jb_cons (B.jset 1 rfl loc_law_ways_by_1 rfl (je_add je_int (je_mod (je_cal rfl (by nofun) (ok_law_cell_at T) fM_len (B.room.mono (by decide)) (B.gl _ gl_law_ways_by_law_cell_at) T.m_law_cell_at T.F_law_cell_at.kp T.b_law_cell_at (ja_c rfl v0 (ja_c rfl je_int ja_nil))) je_int))) (jb_cons (js_if (jt_cmp B.eq (je_mod (je_div (je_cal rfl (by nofun) (ok_law_cell_at T) fM_len (B.room.mono (by decide)) (B.gl _ gl_law_ways_by_law_cell_at) T.m_law_cell_at T.F_law_cell_at.kp T.b_law_cell_at (ja_c rfl v0 (ja_c rfl je_int ja_nil))) je_int) je_int) je_int) (jb_one (B.jset 1 rfl loc_law_ways_by_1 rfl (je_add je_int (je_mod (je_div (je_cal rfl (by nofun) (ok_law_cell_at T) fM_len (B.room.mono (by decide)) (B.gl _ gl_law_ways_by_law_cell_at) T.m_law_cell_at T.F_law_cell_at.kp T.b_law_cell_at (ja_c rfl v0 (ja_c rfl je_int ja_nil))) je_int) je_int)))) jb_nil) (jb_cons (js_if (jt_cmp B.eq (je_mod (je_div (je_cal rfl (by nofun) (ok_law_cell_at T) fM_len (B.room.mono (by decide)) (B.gl _ gl_law_ways_by_law_cell_at) T.m_law_cell_at T.F_law_cell_at.kp T.b_law_cell_at (ja_c rfl v0 (ja_c rfl je_int ja_nil))) je_int) je_int) je_int) (jb_one (B.jset 1 rfl loc_law_ways_by_1 rfl (je_add je_int (je_mod (je_div (je_cal rfl (by nofun) (ok_law_cell_at T) fM_len (B.room.mono (by decide)) (B.gl _ gl_law_ways_by_law_cell_at) T.m_law_cell_at T.F_law_cell_at.kp T.b_law_cell_at (ja_c rfl v0 (ja_c rfl je_int ja_nil))) je_int) je_int)))) jb_nil) (jb_cons (B.jset 2 rfl loc_law_ways_by_2 rfl (je_mod (je_cal rfl (by nofun) (ok_law_cell_at T) fM_len (B.room.mono (by decide)) (B.gl _ gl_law_ways_by_law_cell_at) T.m_law_cell_at T.F_law_cell_at.kp T.b_law_cell_at (ja_c rfl v0 (ja_c rfl je_int ja_nil))) je_int)) (jb_cons (B.jset 3 rfl loc_law_ways_by_3 rfl (je_lst ja_nil)) (jb_cons (B.jfor (ji_range1 (B.gl _ gl_law_ways_by_range) T.n_range rfl (ja_c rfl v1 ja_nil)) (B.jname 4 rfl loc_law_ways_by_4) (jb_cons (B.jset 5 rfl loc_law_ways_by_5 rfl (je_mod (je_mulV (je_add (je_cal rfl (by nofun) (ok_law_cell_at T) fM_len (B.room.mono (by decide)) (B.gl _ gl_law_ways_by_law_cell_at) T.m_law_cell_at T.F_law_cell_at.kp T.b_law_cell_at (ja_c rfl v0 (ja_c rfl (je_add je_int v4) ja_nil))) (je_mulV je_int v4)) je_int) je_int)) (jb_cons (B.jset 6 rfl loc_law_ways_by_6 rfl (je_lst ja_nil)) (jb_cons (B.jfor (ji_range1 (B.gl _ gl_law_ways_by_range) T.n_range rfl (ja_c rfl (B.ixV (je_lst (ja_c rfl je_int (ja_c rfl je_int (ja_c rfl je_int (ja_c rfl je_int (ja_c rfl je_int (ja_c rfl je_int (ja_c rfl je_int ja_nil)))))))) (je_mod v5 je_int)) ja_nil)) (B.jname 7 rfl loc_law_ways_by_7) (jb_cons (B.jset 8 rfl loc_law_ways_by_8 rfl (je_mod (je_div (je_div v5 je_int) (je_add je_int (je_mulV je_int v7))) v1)) (jb_cons (js_if (jt_cmp B.eq v2 je_int) (jb_one (B.jset 8 rfl loc_law_ways_by_8 rfl (je_mod (je_add (je_add v4 je_int) (je_mod (je_div (je_div v5 je_int) (je_add je_int (je_mulV je_int v7))) je_int)) v1))) jb_nil) (jb_one (js_expr rfl (je_mth rfl rfl PySem.F.plainAttrs_list PySem.F.slot_list_append PySem.F.type_list_append mt_append isL_i appendW_i v6 (ja_c rfl v8 ja_nil))))))) (jb_one (js_expr rfl (je_mth rfl rfl PySem.F.plainAttrs_list PySem.F.slot_list_append PySem.F.type_list_append mt_append isL_i appendW_i v3 (ja_c rfl v6 ja_nil)))))))) (jb_one (js_ret v3))))))))
theorem ok_law_ways_by (T : Tx K mg) : FnOk P w K mg base (CXW P w) 2 T.a_law_ways_by T.d_law_ways_by ["_law_script"] (spM K mg 1 (fM b_law_ways_by 9 1)) := fun_ilT rfl rfl T.F_law_ways_by sc_law_ways_by fun {X} h1 h2 h3 h4 h5 B hF hsc => by subst h3 h4; exact body_law_ways_by T B hF hsc
theorem sc_found_from : FnScope ["starts", "further", "found", "queue", "start", "done", "thing", "other"] ["starts", "further"] (defScope s_found_from) := ⟨rfl, rfl, rfl, by nofun, rfl, by nofun, by nofun⟩
theorem body_found_from {X : Cx} (T : Tx X.K X.mg) (B : Bd X ["starts", "further", "found", "queue", "start", "done", "thing", "other"] (defScope s_found_from) 1) (hF : TopF X) (hsc : X.env.scope = defScope s_found_from) : JB X (defBody s_found_from) b_found_from :=
 have v0 {p : Pos} : JE X (.Name "starts" p) (eVar 0) := B.jv 0 rfl vis_found_from_0 nk_starts
 have v2 {p : Pos} : JE X (.Name "found" p) (eVar 2) := B.jv 2 rfl vis_found_from_2 nk_found
 have v3 {p : Pos} : JE X (.Name "queue" p) (eVar 3) := B.jv 3 rfl vis_found_from_3 nk_queue
 have v4 {p : Pos} : JE X (.Name "start" p) (eVar 4) := B.jv 4 rfl vis_found_from_4 nk_start
 have v5 {p : Pos} : JE X (.Name "done" p) (eVar 5) := B.jv 5 rfl vis_found_from_5 nk_done
 have v6 {p : Pos} : JE X (.Name "thing" p) (eVar 6) := B.jv 6 rfl vis_found_from_6 nk_thing
 have v7 {p : Pos} : JE X (.Name "other" p) (eVar 7) := B.jv 7 rfl vis_found_from_7 nk_other
 (jb_cons (B.jset 2 rfl loc_found_from_2 rfl je_dct) (jb_cons (B.jset 3 rfl loc_found_from_3 rfl (je_lst ja_nil)) (jb_cons (B.jfor (ji_both v0) (B.jname 4 rfl loc_found_from_4) (jb_one (js_if (jt_cmp (B.ninV_ (by with_unfolding_all rfl)) v4 v2) (jb_cons (js_asg je_non (B.jg_subV v2 v4)) (jb_one (js_expr rfl (je_mth rfl rfl PySem.F.plainAttrs_list PySem.F.slot_list_append PySem.F.type_list_append mt_append isL_i appendW_i v3 (ja_c rfl v4 ja_nil))))) jb_nil))) (jb_cons (B.jset 5 rfl loc_found_from_5 rfl je_int) (jb_cons (B.jwhile (jt_cmp cp_lt v5 (je_blt rfl (by nofun) (by nofun) call_lenW lenW_i (B.gl _ gl_found_from_len) T.n_len PySem.boot_len (ja_c rfl v3 ja_nil))) (jb_cons (B.jset 6 rfl loc_found_from_6 rfl (B.ixV v3 v5)) (jb_cons (B.jaugA 5 rfl loc_found_from_5 je_int) (jb_one (B.jfor (ji_both (je_app T.lh_aheads ls_aheads B.room (by rw [B.hN]; rfl) (B.vis _ vis_found_from_1) (fun a v cl s H hr => (fun {X} (T : Tx X.K X.mg) (B : Bd X _ _ _) => ((B.ixV (B.jv 1 rfl (.inr (.inr rfl)) nk_ways) (B.jv 0 rfl (.inl rfl) nk_block)) : JE X (lamD s_aheads).bd l_aheads)) (X := lamX X _ _ _ _ a v cl s H) T (Bd.lam B ls_aheads (by nofun) a v cl s H hr)) rfl (ja_c rfl v6 ja_nil) (by nofun) (by nofun))) (B.jname 7 rfl loc_found_from_7) (jb_one (js_if (jt_cmp (B.ninV_ (by with_unfolding_all rfl)) v7 v2) (jb_cons (js_asg v6 (B.jg_subV v2 v7)) (jb_one (js_expr rfl (je_mth rfl rfl PySem.F.plainAttrs_list PySem.F.slot_list_append PySem.F.type_list_append mt_append isL_i appendW_i v3 (ja_c rfl v7 ja_nil))))) jb_nil))))))) (jb_one (js_ret v2)))))))
theorem ok_found_from (T : Tx K mg) : FnOk P w K mg base (CXW P w) 2 T.a_found_from T.d_found_from ["starts", "further"] (spM K mg 2 (fM b_found_from 8 2)) := fun_ilT rfl rfl T.F_found_from sc_found_from fun {X} h1 h2 h3 h4 h5 B hF hsc => by subst h3 h4; exact body_found_from T B hF hsc
theorem sc_aheads : FnScope ["ways"] ["ways"] (defScope s_aheads) := ⟨rfl, rfl, rfl, by nofun, rfl, by nofun, by nofun⟩
theorem ok_aheads (T : Tx K mg) : FnOk P w K mg base (CXW P w) 3 T.a_aheads T.d_aheads ["ways"] (spM K mg 1 f_aheads) := fun_lam (L := lamD s_aheads) T.F_aheads sc_aheads rfl (fun _ => rfl) (by nofun) T.le_aheads T.lk_aheads T.lq_aheads T.ln_aheads T.lm_aheads T.lu_aheads T.lh_aheads (fun _ _ _ => rfl) ls_aheads.only (fun _ => rfl) (fun _ => rfl) (by nofun) (by nofun) (ok_found_from T) T.m_found_from T.F_found_from.kp T.b_found_from rfl fun _ _ _ _ _ _ _ => JE.h (je_lst (ja_c rfl je_int ja_nil))
theorem sc_comes : FnScope ["ways", "told", "block", "further"] ["ways"] (defScope s_comes) := ⟨rfl, rfl, rfl, by nofun, rfl, by nofun, by nofun⟩
theorem body_comes {X : Cx} (T : Tx X.K X.mg) (B : Bd X ["ways", "told", "block", "further"] (defScope s_comes) 3) (hF : TopF X) (hsc : X.env.scope = defScope s_comes) : JB X (defBody s_comes) b_comes :=
 have v0 {p : Pos} : JE X (.Name "ways" p) (eVar 0) := B.jv 0 rfl vis_comes_0 nk_ways
 have v1 {p : Pos} : JE X (.Name "told" p) (eVar 1) := B.jv 1 rfl vis_comes_1 nk_told
 have v2 {p : Pos} : JE X (.Name "block" p) (eVar 2) := B.jv 2 rfl vis_comes_2 nk_block
 have v3 {p : Pos} : JE X (.Name "further" p) (eVar 3) := B.jv 3 rfl vis_comes_3 nk_further
 (jb_cons (js_comp (i := 1) (by rw [B.hN]; exact B.nd) (by rw [B.hN]; rfl) (by rw [hsc]; decide +kernel) B.calm (N' := ["block"]) (Bd.cap B.hN hsc (by nofun)) (ji_both v0) (blkG B T (by nofun) (by nofun) fun {X} B T => (B.jname 0 rfl (.inl rfl))) (blkF B T (by nofun) (by nofun) fun {X} B T => jf_nil) (blkE B T (by nofun) (by nofun) fun {X} B T => (je_lst ja_nil)) (swaps_yes (by rw [hsc]; rfl) (by rw [hsc]; decide +kernel) rfl (by nofun))) (jb_cons (B.jfor (ji_both (je_blt rfl (by nofun) (by nofun) (call_sort B.calm) sortW_i (B.gl _ gl_comes_sorted) T.n_sorted boot_sorted (ja_c rfl (je_cal rfl (by nofun) (ok_aheads T) fLam_len (B.room.mono (by decide)) (B.gl _ gl_comes_aheads) T.m_aheads T.F_aheads.kp T.b_aheads (ja_c rfl v0 ja_nil)) ja_nil))) (B.jname 2 rfl loc_comes_2) (jb_one (B.jfor (ji_both (B.ixV v0 v2)) (B.jname 3 rfl loc_comes_3) (jb_one (js_expr rfl (je_mth rfl rfl PySem.F.plainAttrs_list PySem.F.slot_list_append PySem.F.type_list_append mt_append isL_i appendW_i (B.ixV v1 v3) (ja_c rfl v2 ja_nil))))))) (jb_one (js_ret v1))))
theorem ok_comes (T : Tx K mg) : FnOk P w K mg base (CXW P w) 4 T.a_comes T.d_comes ["ways"] (spM K mg 1 (fM b_comes 4 1)) := fun_ilT rfl rfl T.F_comes sc_comes fun {X} h1 h2 h3 h4 h5 B hF hsc => by subst h3 h4; exact body_comes T B hF hsc
theorem sc_meeting : FnScope ["told", "ranks", "one", "other"] ["told", "ranks", "one", "other"] (defScope s_meeting) := ⟨rfl, rfl, rfl, by nofun, rfl, by nofun, by nofun⟩
theorem body_meeting {X : Cx} (T : Tx X.K X.mg) (B : Bd X ["told", "ranks", "one", "other"] (defScope s_meeting) 0) (hF : TopF X) (hsc : X.env.scope = defScope s_meeting) : JB X (defBody s_meeting) b_meeting :=
 have v0 {p : Pos} : JE X (.Name "told" p) (eVar 0) := B.jv 0 rfl vis_meeting_0 nk_told
 have v1 {p : Pos} : JE X (.Name "ranks" p) (eVar 1) := B.jv 1 rfl vis_meeting_1 nk_ranks
 have v2 {p : Pos} : JE X (.Name "one" p) (eVar 2) := B.jv 2 rfl vis_meeting_2 nk_one
 have v3 {p : Pos} : JE X (.Name "other" p) (eVar 3) := B.jv 3 rfl vis_meeting_3 nk_other
 (jb_cons (B.jwhile (jt_cmp B.ne v2 v3) (jb_one (js_if (jt_cmp cp_gt (B.ixV v1 v2) (B.ixV v1 v3)) (jb_one (B.jset 2 rfl loc_meeting_2 rfl (B.ixV v0 v2))) (jb_one (B.jset 3 rfl loc_meeting_3 rfl (B.ixV v0 v3)))))) (jb_one (js_ret v2)))
theorem ok_meeting (T : Tx K mg) : FnOk P w K mg base (CXW P w) 1 T.a_meeting T.d_meeting ["told", "ranks", "one", "other"] (spM K mg 4 (fM b_meeting 4 4)) := fun_ilT rfl rfl T.F_meeting sc_meeting fun {X} h1 h2 h3 h4 h5 B hF hsc => by subst h3 h4; exact body_meeting T B hF hsc
theorem sc_gate_so_far : FnScope ["told", "ranks", "arrivals", "gate", "block"] ["told", "ranks", "arrivals"] (defScope s_gate_so_far) := ⟨rfl, rfl, rfl, by nofun, rfl, by nofun, by nofun⟩
theorem body_gate_so_far {X : Cx} (T : Tx X.K X.mg) (B : Bd X ["told", "ranks", "arrivals", "gate", "block"] (defScope s_gate_so_far) 1) (hF : TopF X) (hsc : X.env.scope = defScope s_gate_so_far) : JB X (defBody s_gate_so_far) b_gate_so_far :=
 have v0 {p : Pos} : JE X (.Name "told" p) (eVar 0) := B.jv 0 rfl vis_gate_so_far_0 nk_told
 have v1 {p : Pos} : JE X (.Name "ranks" p) (eVar 1) := B.jv 1 rfl vis_gate_so_far_1 nk_ranks
 have v2 {p : Pos} : JE X (.Name "arrivals" p) (eVar 2) := B.jv 2 rfl vis_gate_so_far_2 nk_arrivals
 have v3 {p : Pos} : JE X (.Name "gate" p) (eVar 3) := B.jv 3 rfl vis_gate_so_far_3 nk_gate
 have v4 {p : Pos} : JE X (.Name "block" p) (eVar 4) := B.jv 4 rfl vis_gate_so_far_4 nk_block
 (jb_cons (B.jset 3 rfl loc_gate_so_far_3 rfl je_non) (jb_cons (B.jfor (ji_both v2) (B.jname 4 rfl loc_gate_so_far_4) (jb_one (js_if (jt_w (jw_or (jt_cmp B.eq (B.ixV v1 v4) je_int) (jw_one (jt_cmp cp_isn (B.ixV v0 v4) je_non)))) (jb_one (B.jset 3 rfl loc_gate_so_far_3 rfl (je_if (jt_cmp cp_is v3 je_non) v4 (je_cal rfl (by nofun) (ok_meeting T) fM_len (B.room.mono (by decide)) (B.gl _ gl_gate_so_far_meeting) T.m_meeting T.F_meeting.kp T.b_meeting (ja_c rfl v0 (ja_c rfl v1 (ja_c rfl v3 (ja_c rfl v4 ja_nil)))))))) jb_nil))) (jb_one (js_ret v3))))
theorem ok_gate_so_far (T : Tx K mg) : FnOk P w K mg base (CXW P w) 2 T.a_gate_so_far T.d_gate_so_far ["told", "ranks", "arrivals"] (spM K mg 3 (fM b_gate_so_far 5 3)) := fun_ilT rfl rfl T.F_gate_so_far sc_gate_so_far fun {X} h1 h2 h3 h4 h5 B hF hsc => by subst h3 h4; exact body_gate_so_far T B hF hsc
theorem sc_gates : FnScope ["ways", "near", "ranks", "arrivals", "told", "settled", "block", "gate"] ["ways"] (defScope s_gates) := ⟨rfl, rfl, rfl, by nofun, rfl, by nofun, by nofun⟩
theorem body_gates {X : Cx} (T : Tx X.K X.mg) (B : Bd X ["ways", "near", "ranks", "arrivals", "told", "settled", "block", "gate"] (defScope s_gates) 4) (hF : TopF X) (hsc : X.env.scope = defScope s_gates) : JB X (defBody s_gates) b_gates :=
 have v0 {p : Pos} : JE X (.Name "ways" p) (eVar 0) := B.jv 0 rfl vis_gates_0 nk_ways
 have v1 {p : Pos} : JE X (.Name "near" p) (eVar 1) := B.jv 1 rfl vis_gates_1 nk_near
 have v2 {p : Pos} : JE X (.Name "ranks" p) (eVar 2) := B.jv 2 rfl vis_gates_2 nk_ranks
 have v3 {p : Pos} : JE X (.Name "arrivals" p) (eVar 3) := B.jv 3 rfl vis_gates_3 nk_arrivals
 have v4 {p : Pos} : JE X (.Name "told" p) (eVar 4) := B.jv 4 rfl vis_gates_4 nk_told
 have v5 {p : Pos} : JE X (.Name "settled" p) (eVar 5) := B.jv 5 rfl vis_gates_5 nk_settled
 have v6 {p : Pos} : JE X (.Name "block" p) (eVar 6) := B.jv 6 rfl vis_gates_6 nk_block
 have v7 {p : Pos} : JE X (.Name "gate" p) (eVar 7) := B.jv 7 rfl vis_gates_7 nk_gate
 (jb_cons (B.jset 1 rfl loc_gates_1 rfl (je_typ rfl (by nofun) (by nofun) (call_listV B.calm) listV_i (B.gl _ gl_gates_list) T.n_list PyProof.Rows.boot_list (ja_c rfl (je_cal rfl (by nofun) (ok_aheads T) fLam_len (B.room.mono (by decide)) (B.gl _ gl_gates_aheads) T.m_aheads T.F_aheads.kp T.b_aheads (ja_c rfl v0 ja_nil)) ja_nil))) (jb_cons (B.jset 2 rfl loc_gates_2 rfl (je_typ rfl (by nofun) (by nofun) (call_dict B.calm B.room.units) dictW_i (B.gl _ gl_gates_dict) T.n_dict PyProof.Rows.boot_dict (ja_c rfl (je_comp B.calm (N' := ["rank", "block"]) (Bd.cap B.hN hsc (by nofun)) (ji_enum (B.gl _ gl_gates_enumerate) T.n_enumerate rfl (ja_c rfl v1 ja_nil)) (blkG B T (by nofun) (by nofun) fun {X} B T => (jg_tup B.calm (jgs_cons (B.jname 0 rfl (.inl rfl)) (jgs_cons (B.jname 1 rfl (.inl rfl)) jgs_nil)))) (blkF B T (by nofun) (by nofun) fun {X} B T => jf_nil) (blkE B T (by nofun) (by nofun) fun {X} B T => (je_tup (ja_c rfl (B.jv 1 rfl (.inl rfl) nk_block) (ja_c rfl (B.jv 0 rfl (.inl rfl) nk_rank) ja_nil))))) ja_nil))) (jb_cons (B.jset 3 rfl loc_gates_3 rfl (je_cal rfl (by nofun) (ok_comes T) fM_len (B.room.mono (by decide)) (B.gl _ gl_gates_comes) T.m_comes T.F_comes.kp T.b_comes (ja_c rfl v0 ja_nil))) (jb_cons (js_comp (i := 4) (by rw [B.hN]; exact B.nd) (by rw [B.hN]; rfl) (by rw [hsc]; decide +kernel) B.calm (N' := ["block"]) (Bd.cap B.hN hsc (by nofun)) (ji_both v0) (blkG B T (by nofun) (by nofun) fun {X} B T => (B.jname 0 rfl (.inl rfl))) (blkF B T (by nofun) (by nofun) fun {X} B T => jf_nil) (blkE B T (by nofun) (by nofun) fun {X} B T => je_non) (swaps_yes (by rw [hsc]; rfl) (by rw [hsc]; decide +kernel) rfl (by nofun))) (jb_cons (B.jset 5 rfl loc_gates_5 rfl je_bl) (jb_cons (B.jwhile (jt_not (jt_tru rfl v5)) (jb_cons (B.jset 5 rfl loc_gates_5 rfl je_bl) (jb_one (B.jfor (ji_both (je_sl v1 (jo_some je_int) jo_none)) (B.jname 6 rfl loc_gates_6) (jb_cons (B.jset 7 rfl loc_gates_7 rfl (je_cal rfl (by nofun) (ok_gate_so_far T) fM_len (B.room.mono (by decide)) (B.gl _ gl_gates_gate_so_far) T.m_gate_so_far T.F_gate_so_far.kp T.b_gate_so_far (ja_c rfl v4 (ja_c rfl v2 (ja_c rfl (B.ixV v3 v6) ja_nil))))) (jb_one (js_if (jt_cmp B.ne (B.ixV v4 v6) v7) (jb_cons (js_asg v7 (B.jg_subV v4 v6)) (jb_one (B.jset 5 rfl loc_gates_5 rfl je_bl))) jb_nil))))))) (jb_one (js_ret v4))))))))
theorem ok_gates (T : Tx K mg) : FnOk P w K mg base (CXW P w) 5 T.a_gates T.d_gates ["ways"] (spM K mg 1 (fM b_gates 8 1)) := fun_ilT rfl rfl T.F_gates sc_gates fun {X} h1 h2 h3 h4 h5 B hF hsc => by subst h3 h4; exact body_gates T B hF hsc
theorem sc_law_reached : FnScope ["_law_ways", "_law_shut", "_law_there", "_law_waiting", "_law_block", "_law_other"] ["_law_ways", "_law_shut"] (defScope s_law_reached) := ⟨rfl, rfl, rfl, by nofun, rfl, by nofun, by nofun⟩
theorem body_law_reached {X : Cx} (T : Tx X.K X.mg) (B : Bd X ["_law_ways", "_law_shut", "_law_there", "_law_waiting", "_law_block", "_law_other"] (defScope s_law_reached) 0) (hF : TopF X) (hsc : X.env.scope = defScope s_law_reached) : JB X (defBody s_law_reached) b_law_reached :=
 have v0 {p : Pos} : JE X (.Name "_law_ways" p) (eVar 0) := B.jv 0 rfl vis_law_reached_0 nk_law_ways
 have v1 {p : Pos} : JE X (.Name "_law_shut" p) (eVar 1) := B.jv 1 rfl vis_law_reached_1 nk_law_shut
 have v2 {p : Pos} : JE X (.Name "_law_there" p) (eVar 2) := B.jv 2 rfl vis_law_reached_2 nk_law_there
 have v3 {p : Pos} : JE X (.Name "_law_waiting" p) (eVar 3) := B.jv 3 rfl vis_law_reached_3 nk_law_waiting
 have v4 {p : Pos} : JE X (.Name "_law_block" p) (eVar 4) := B.jv 4 rfl vis_law_reached_4 nk_law_block
 have v5 {p : Pos} : JE X (.Name "_law_other" p) (eVar 5) := B.jv 5 rfl vis_law_reached_5 nk_law_other
 (jb_cons (B.jset 2 rfl loc_law_reached_2 rfl je_dct) (jb_cons (js_if (jt_cmp B.ne v1 je_int) (jb_one (js_asg je_bl (B.jg_subV v2 je_int))) jb_nil) (jb_cons (B.jset 3 rfl loc_law_reached_3 rfl (je_typ rfl (by nofun) (by nofun) (call_listV B.calm) listV_i (B.gl _ gl_law_reached_list) T.n_list PyProof.Rows.boot_list (ja_c rfl v2 ja_nil))) (jb_cons (B.jwhile (jt_cmp B.ne v3 (je_lst ja_nil)) (jb_cons (B.jset 4 rfl loc_law_reached_4 rfl (je_mth0 PySem.F.plainAttrs_list PySem.F.slot_list_pop PySem.F.type_list_pop mt_pop isL_i popW_i v3)) (jb_one (B.jfor (ji_both (B.ixV v0 v4)) (B.jname 5 rfl loc_law_reached_5) (jb_one (js_if (jt_w (jw_and (jt_cmp B.ne v5 v1) (jw_one (jt_cmp (B.ninV_ (by with_unfolding_all rfl)) v5 v2)))) (jb_cons (js_asg je_bl (B.jg_subV v2 v5)) (jb_one (js_expr rfl (je_mth rfl rfl PySem.F.plainAttrs_list PySem.F.slot_list_append PySem.F.type_list_append mt_append isL_i appendW_i v3 (ja_c rfl v5 ja_nil))))) jb_nil)))))) (jb_one (js_ret v2))))))
theorem ok_law_reached (T : Tx K mg) : FnOk P w K mg base (CXW P w) 1 T.a_law_reached T.d_law_reached ["_law_ways", "_law_shut"] (spM K mg 2 (fM b_law_reached 6 2)) := fun_ilT rfl rfl T.F_law_reached sc_law_reached fun {X} h1 h2 h3 h4 h5 B hF hsc => by subst h3 h4; exact body_law_reached T B hF hsc
theorem sc_law_whole : FnScope ["_law_found"] ["_law_found"] (defScope s_law_whole) := ⟨rfl, rfl, rfl, by nofun, rfl, by nofun, by nofun⟩
theorem body_law_whole {X : Cx} (T : Tx X.K X.mg) (B : Bd X ["_law_found"] (defScope s_law_whole) 0) (hF : TopF X) (hsc : X.env.scope = defScope s_law_whole) : JB X (defBody s_law_whole) b_law_whole :=
 have v0 {p : Pos} : JE X (.Name "_law_found" p) (eVar 0) := B.jv 0 rfl vis_law_whole_0 nk_law_found
 (jb_one (js_ret (je_and (je_is kits_int PyProof.Rows.boot_int (by nofun) (by nofun) rfl (B.gl _ gl_law_whole_isinstance) T.n_isinstance (B.gl _ gl_law_whole_int) T.n_int v0) (je_one (je_not (je_is kits_bool PyProof.Rows.boot_bool (by nofun) (by nofun) rfl (B.gl _ gl_law_whole_isinstance) T.n_isinstance (B.gl _ gl_law_whole_bool) T.n_bool v0))))))
theorem ok_law_whole (T : Tx K mg) : FnOk P w K mg base (CXW P w) 1 T.a_law_whole T.d_law_whole ["_law_found"] (spM K mg 1 (fM b_law_whole 1 1)) := fun_ilT rfl rfl T.F_law_whole sc_law_whole fun {X} h1 h2 h3 h4 h5 B hF hsc => by subst h3 h4; exact body_law_whole T B hF hsc
theorem sc_law : FnScope ["_law_script", "_law_ways", "_law_handed", "_law_found", "_law_there", "_law_less", "_law_block", "_law_gate", "_law_other", "_law_copy"] ["_law_script"] (defScope s_law) := ⟨rfl, rfl, rfl, by nofun, rfl, by nofun, by nofun⟩
theorem body_law {X : Cx} (T : Tx X.K X.mg) (B : Bd X ["_law_script", "_law_ways", "_law_handed", "_law_found", "_law_there", "_law_less", "_law_block", "_law_gate", "_law_other", "_law_copy"] (defScope s_law) 5) (hF : TopF X) (hsc : X.env.scope = defScope s_law) : JB X (defBody s_law) b_law :=
 have v0 {p : Pos} : JE X (.Name "_law_script" p) (eVar 0) := B.jv 0 rfl vis_law_0 nk_law_script
 have v1 {p : Pos} : JE X (.Name "_law_ways" p) (eVar 1) := B.jv 1 rfl vis_law_1 nk_law_ways
 have v2 {p : Pos} : JE X (.Name "_law_handed" p) (eVar 2) := B.jv 2 rfl vis_law_2 nk_law_handed
 have v3 {p : Pos} : JE X (.Name "_law_found" p) (eVar 3) := B.jv 3 rfl vis_law_3 nk_law_found
 have v4 {p : Pos} : JE X (.Name "_law_there" p) (eVar 4) := B.jv 4 rfl vis_law_4 nk_law_there
 have v5 {p : Pos} : JE X (.Name "_law_less" p) (eVar 5) := B.jv 5 rfl vis_law_5 nk_law_less
 have v6 {p : Pos} : JE X (.Name "_law_block" p) (eVar 6) := B.jv 6 rfl vis_law_6 nk_law_block
 have v7 {p : Pos} : JE X (.Name "_law_gate" p) (eVar 7) := B.jv 7 rfl vis_law_7 nk_law_gate
 have v8 {p : Pos} : JE X (.Name "_law_other" p) (eVar 8) := B.jv 8 rfl vis_law_8 nk_law_other
 have v9 {p : Pos} : JE X (.Name "_law_copy" p) (eVar 9) := B.jv 9 rfl vis_law_9 nk_law_copy
 (jb_cons (B.jset 1 rfl loc_law_1 rfl (je_cal rfl (by nofun) (ok_law_ways_by T) fM_len (B.room.mono (by decide)) (B.gl _ gl_law_law_ways_by) T.m_law_ways_by T.F_law_ways_by.kp T.b_law_ways_by (ja_c rfl v0 ja_nil))) (jb_cons (js_comp (i := 2) (by rw [B.hN]; exact B.nd) (by rw [B.hN]; rfl) (by rw [hsc]; decide +kernel) B.calm (N' := ["_law_one"]) (Bd.cap B.hN hsc (by nofun)) (ji_both v1) (blkG B T (by nofun) (by nofun) fun {X} B T => (B.jname 0 rfl (.inl rfl))) (blkF B T (by nofun) (by nofun) fun {X} B T => jf_nil) (blkE B T (by nofun) (by nofun) fun {X} B T => (je_typ rfl (by nofun) (by nofun) (call_listV B.calm) listV_i (B.gl _ rfl) T.n_list PyProof.Rows.boot_list (ja_c rfl (B.jv 0 rfl (.inl rfl) nk_law_one) ja_nil))) (swaps_yes (by rw [hsc]; rfl) (by rw [hsc]; decide +kernel) rfl (by nofun))) (jb_cons (B.jset 3 rfl loc_law_3 rfl (je_cal rfl (by nofun) (ok_gates T) fM_len (B.room.mono (by decide)) (B.gl _ gl_law_gates) T.m_gates T.F_gates.kp T.b_gates (ja_c rfl v2 ja_nil))) (jb_cons (js_if (jt_w (jw_or (jt_not (jt_tru rfl (je_is kits_list PyProof.Rows.boot_list (by nofun) (by nofun) rfl (B.gl _ gl_law_isinstance) T.n_isinstance (B.gl _ gl_law_list) T.n_list v3))) (jw_or (jt_cmp B.ne (je_blt rfl (by nofun) (by nofun) call_lenW lenW_i (B.gl _ gl_law_len) T.n_len PySem.boot_len (ja_c rfl v3 ja_nil)) (je_blt rfl (by nofun) (by nofun) call_lenW lenW_i (B.gl _ gl_law_len) T.n_len PySem.boot_len (ja_c rfl v1 ja_nil))) (jw_one (jt_cmp B.ne v2 v1))))) (jb_one (js_ret je_bl)) jb_nil) (jb_cons (B.jset 4 rfl loc_law_4 rfl (je_cal rfl (by nofun) (ok_law_reached T) fM_len (B.room.mono (by decide)) (B.gl _ gl_law_law_reached) T.m_law_reached T.F_law_reached.kp T.b_law_reached (ja_c rfl v1 (ja_c rfl je_non ja_nil)))) (jb_cons (js_comp (i := 5) (by rw [B.hN]; exact B.nd) (by rw [B.hN]; rfl) (by rw [hsc]; decide +kernel) B.calm (N' := ["_law_block", "_law_ways"]) (Bd.cap B.hN hsc (by nofun)) (ji_range1 (B.gl _ gl_law_range) T.n_range rfl (ja_c rfl (je_blt rfl (by nofun) (by nofun) call_lenW lenW_i (B.gl _ gl_law_len) T.n_len PySem.boot_len (ja_c rfl v1 ja_nil)) ja_nil)) (blkG B T (by nofun) (by nofun) fun {X} B T => (B.jname 0 rfl (.inl rfl))) (blkF B T (by nofun) (by nofun) fun {X} B T => jf_nil) (blkE B T (by nofun) (by nofun) fun {X} B T => (je_cal rfl (by nofun) (ok_law_reached T) fM_len (B.room.mono (by decide)) (B.gl _ rfl) T.m_law_reached T.F_law_reached.kp T.b_law_reached (ja_c rfl (B.jv 1 rfl (.inr (.inr rfl)) nk_law_ways) (ja_c rfl (B.jv 0 rfl (.inl rfl) nk_law_block) ja_nil)))) (swaps_yes (by rw [hsc]; rfl) (by rw [hsc]; decide +kernel) rfl (by nofun))) (jb_cons (B.jfor (ji_range1 (B.gl _ gl_law_range) T.n_range rfl (ja_c rfl (je_blt rfl (by nofun) (by nofun) call_lenW lenW_i (B.gl _ gl_law_len) T.n_len PySem.boot_len (ja_c rfl v1 ja_nil)) ja_nil)) (B.jname 6 rfl loc_law_6) (jb_cons (B.jset 7 rfl loc_law_7 rfl (B.ixV v3 v6)) (jb_one (js_if (jt_w (jw_or (jt_cmp B.eq v6 je_int) (jw_one (jt_cmp (B.ninV_ (by with_unfolding_all rfl)) v6 v4)))) (jb_one (js_if (jt_cmp cp_isn v7 je_non) (jb_one (js_ret je_bl)) jb_nil)) (jb_cons (js_if (jt_w (jw_or (jt_not (jt_tru rfl (je_cal rfl (by nofun) (ok_law_whole T) fM_len (B.room.mono (by decide)) (B.gl _ gl_law_law_whole) T.m_law_whole T.F_law_whole.kp T.b_law_whole (ja_c rfl v7 ja_nil)))) (jw_or (jt_cmp B.eq v7 v6) (jw_or (jt_cmp (B.ninV_ (by with_unfolding_all rfl)) v7 v4) (jw_one (jt_cmp (B.inV_ (by with_unfolding_all rfl)) v6 (B.ixV v5 v7))))))) (jb_one (js_ret je_bl)) jb_nil) (jb_one (B.jfor (ji_range1 (B.gl _ gl_law_range) T.n_range rfl (ja_c rfl (je_blt rfl (by nofun) (by nofun) call_lenW lenW_i (B.gl _ gl_law_len) T.n_len PySem.boot_len (ja_c rfl v1 ja_nil)) ja_nil)) (B.jname 8 rfl loc_law_8) (jb_one (js_if (jt_w (jw_and (jt_cmp B.ne v8 v6) (jw_and (jt_cmp B.ne v8 v7) (jw_and (jt_cmp (B.ninV_ (by with_unfolding_all rfl)) v6 (B.ixV v5 v8)) (jw_one (jt_cmp (B.inV_ (by with_unfolding_all rfl)) v7 (B.ixV v5 v8))))))) (jb_one (js_ret je_bl)) jb_nil))))))))) (jb_cons (B.jset 9 rfl loc_law_9 rfl (je_typ rfl (by nofun) (by nofun) (call_listV B.calm) listV_i (B.gl _ gl_law_list) T.n_list PyProof.Rows.boot_list (ja_c rfl v3 ja_nil))) (jb_cons (js_expr rfl (je_mth rfl rfl PySem.F.plainAttrs_list PySem.F.slot_list_append PySem.F.type_list_append mt_append isL_i appendW_i v3 (ja_c rfl je_int ja_nil))) (jb_one (js_ret (je_and (je_cmp B.eq (je_cal rfl (by nofun) (ok_gates T) fM_len (B.room.mono (by decide)) (B.gl _ gl_law_gates) T.m_gates T.F_gates.kp T.b_gates (ja_c rfl v2 ja_nil)) v9) (je_one (je_cmp B.eq v2 v1))))))))))))))
theorem ok_law (T : Tx K mg) : FnOk P w K mg base (CXW P w) 6 T.a_law T.d_law ["_law_script"] (spM K mg 1 (fM b_law 10 1)) := fun_ilT rfl rfl T.F_law sc_law fun {X} h1 h2 h3 h4 h5 B hF hsc => by subst h3 h4; exact body_law T B hF hsc
end
theorem all_mk {l : PySem.W.OpenLaw} {w : World} {K : PySem.W.Frag} {h : Heap} {mg : Str -> Option Value} {fa : Addr} (KX : K.In h) (G : h.Ns mainGlobals mg) (hfa : mg "law" = some (.ref fa))
  {f_law_cell_at_ : Addr} {od_law_cell_at an_law_cell_at : Option Addr} {sl_law_cell_at : Array (Option Value)} {oc_law_cell_at kV_law_cell_at dc_law_cell_at pm_law_cell_at cd_law_cell_at ct_law_cell_at : Value}
  {f_law_ways_by_ : Addr} {od_law_ways_by an_law_ways_by : Option Addr} {sl_law_ways_by : Array (Option Value)} {oc_law_ways_by kV_law_ways_by dc_law_ways_by pm_law_ways_by cd_law_ways_by ct_law_ways_by : Value}
  {f_found_from_ : Addr} {od_found_from an_found_from : Option Addr} {sl_found_from : Array (Option Value)} {oc_found_from kV_found_from dc_found_from pm_found_from cd_found_from ct_found_from : Value}
  {f_aheads_ : Addr} {od_aheads an_aheads : Option Addr} {sl_aheads : Array (Option Value)} {oc_aheads kV_aheads dc_aheads pm_aheads cd_aheads ct_aheads : Value}
  {f_comes_ : Addr} {od_comes an_comes : Option Addr} {sl_comes : Array (Option Value)} {oc_comes kV_comes dc_comes pm_comes cd_comes ct_comes : Value}
  {f_meeting_ : Addr} {od_meeting an_meeting : Option Addr} {sl_meeting : Array (Option Value)} {oc_meeting kV_meeting dc_meeting pm_meeting cd_meeting ct_meeting : Value}
  {f_gate_so_far_ : Addr} {od_gate_so_far an_gate_so_far : Option Addr} {sl_gate_so_far : Array (Option Value)} {oc_gate_so_far kV_gate_so_far dc_gate_so_far pm_gate_so_far cd_gate_so_far ct_gate_so_far : Value}
  {f_gates_ : Addr} {od_gates an_gates : Option Addr} {sl_gates : Array (Option Value)} {oc_gates kV_gates dc_gates pm_gates cd_gates ct_gates : Value}
  {f_law_reached_ : Addr} {od_law_reached an_law_reached : Option Addr} {sl_law_reached : Array (Option Value)} {oc_law_reached kV_law_reached dc_law_reached pm_law_reached cd_law_reached ct_law_reached : Value}
  {f_law_whole_ : Addr} {od_law_whole an_law_whole : Option Addr} {sl_law_whole : Array (Option Value)} {oc_law_whole kV_law_whole dc_law_whole pm_law_whole cd_law_whole ct_law_whole : Value}
  {f_law_ : Addr} {od_law an_law : Option Addr} {sl_law : Array (Option Value)} {oc_law kV_law dc_law pm_law cd_law ct_law : Value}
  {wc_aheads wP_aheads : Addr} {wo_aheads : Obj}
  (a_law_cell_at : PySem.W.nsIn K mainGlobals "_law_cell_at" = some (some (.ref f_law_cell_at_)))
  (l_law_cell_at : K.lookup f_law_cell_at_ = some ⟨oc_law_cell_at, od_law_cell_at, .func (PySem.W.fnOf "_law_cell_at" "_law_cell_at" (defArgs s_law_cell_at) (defBody s_law_cell_at) (defScope s_law_cell_at) .none kV_law_cell_at dc_law_cell_at pm_law_cell_at an_law_cell_at cd_law_cell_at ct_law_cell_at), sl_law_cell_at⟩)
  (c_law_cell_at : PySem.W.codeIn K cd_law_cell_at "_law_cell_at" = true)
  (k_law_cell_at : PySem.W.keepIn K (.ref f_law_cell_at_) = true)
  (a_law_ways_by : PySem.W.nsIn K mainGlobals "_law_ways_by" = some (some (.ref f_law_ways_by_)))
  (l_law_ways_by : K.lookup f_law_ways_by_ = some ⟨oc_law_ways_by, od_law_ways_by, .func (PySem.W.fnOf "_law_ways_by" "_law_ways_by" (defArgs s_law_ways_by) (defBody s_law_ways_by) (defScope s_law_ways_by) .none kV_law_ways_by dc_law_ways_by pm_law_ways_by an_law_ways_by cd_law_ways_by ct_law_ways_by), sl_law_ways_by⟩)
  (c_law_ways_by : PySem.W.codeIn K cd_law_ways_by "_law_ways_by" = true)
  (k_law_ways_by : PySem.W.keepIn K (.ref f_law_ways_by_) = true)
  (a_found_from : PySem.W.nsIn K mainGlobals "found_from" = some (some (.ref f_found_from_)))
  (l_found_from : K.lookup f_found_from_ = some ⟨oc_found_from, od_found_from, .func (PySem.W.fnOf "found_from" "found_from" (defArgs s_found_from) (defBody s_found_from) (defScope s_found_from) .none kV_found_from dc_found_from pm_found_from an_found_from cd_found_from ct_found_from), sl_found_from⟩)
  (c_found_from : PySem.W.codeIn K cd_found_from "found_from" = true)
  (k_found_from : PySem.W.keepIn K (.ref f_found_from_) = true)
  (a_aheads : PySem.W.nsIn K mainGlobals "aheads" = some (some (.ref f_aheads_)))
  (l_aheads : K.lookup f_aheads_ = some ⟨oc_aheads, od_aheads, .func (PySem.W.fnOf "aheads" "aheads" (defArgs s_aheads) (defBody s_aheads) (defScope s_aheads) .none kV_aheads dc_aheads pm_aheads an_aheads cd_aheads ct_aheads), sl_aheads⟩)
  (c_aheads : PySem.W.codeIn K cd_aheads "aheads" = true)
  (k_aheads : PySem.W.keepIn K (.ref f_aheads_) = true)
  (a_comes : PySem.W.nsIn K mainGlobals "comes" = some (some (.ref f_comes_)))
  (l_comes : K.lookup f_comes_ = some ⟨oc_comes, od_comes, .func (PySem.W.fnOf "comes" "comes" (defArgs s_comes) (defBody s_comes) (defScope s_comes) .none kV_comes dc_comes pm_comes an_comes cd_comes ct_comes), sl_comes⟩)
  (c_comes : PySem.W.codeIn K cd_comes "comes" = true)
  (k_comes : PySem.W.keepIn K (.ref f_comes_) = true)
  (a_meeting : PySem.W.nsIn K mainGlobals "meeting" = some (some (.ref f_meeting_)))
  (l_meeting : K.lookup f_meeting_ = some ⟨oc_meeting, od_meeting, .func (PySem.W.fnOf "meeting" "meeting" (defArgs s_meeting) (defBody s_meeting) (defScope s_meeting) .none kV_meeting dc_meeting pm_meeting an_meeting cd_meeting ct_meeting), sl_meeting⟩)
  (c_meeting : PySem.W.codeIn K cd_meeting "meeting" = true)
  (k_meeting : PySem.W.keepIn K (.ref f_meeting_) = true)
  (a_gate_so_far : PySem.W.nsIn K mainGlobals "gate_so_far" = some (some (.ref f_gate_so_far_)))
  (l_gate_so_far : K.lookup f_gate_so_far_ = some ⟨oc_gate_so_far, od_gate_so_far, .func (PySem.W.fnOf "gate_so_far" "gate_so_far" (defArgs s_gate_so_far) (defBody s_gate_so_far) (defScope s_gate_so_far) .none kV_gate_so_far dc_gate_so_far pm_gate_so_far an_gate_so_far cd_gate_so_far ct_gate_so_far), sl_gate_so_far⟩)
  (c_gate_so_far : PySem.W.codeIn K cd_gate_so_far "gate_so_far" = true)
  (k_gate_so_far : PySem.W.keepIn K (.ref f_gate_so_far_) = true)
  (a_gates : PySem.W.nsIn K mainGlobals "gates" = some (some (.ref f_gates_)))
  (l_gates : K.lookup f_gates_ = some ⟨oc_gates, od_gates, .func (PySem.W.fnOf "gates" "gates" (defArgs s_gates) (defBody s_gates) (defScope s_gates) .none kV_gates dc_gates pm_gates an_gates cd_gates ct_gates), sl_gates⟩)
  (c_gates : PySem.W.codeIn K cd_gates "gates" = true)
  (k_gates : PySem.W.keepIn K (.ref f_gates_) = true)
  (a_law_reached : PySem.W.nsIn K mainGlobals "_law_reached" = some (some (.ref f_law_reached_)))
  (l_law_reached : K.lookup f_law_reached_ = some ⟨oc_law_reached, od_law_reached, .func (PySem.W.fnOf "_law_reached" "_law_reached" (defArgs s_law_reached) (defBody s_law_reached) (defScope s_law_reached) .none kV_law_reached dc_law_reached pm_law_reached an_law_reached cd_law_reached ct_law_reached), sl_law_reached⟩)
  (c_law_reached : PySem.W.codeIn K cd_law_reached "_law_reached" = true)
  (k_law_reached : PySem.W.keepIn K (.ref f_law_reached_) = true)
  (a_law_whole : PySem.W.nsIn K mainGlobals "_law_whole" = some (some (.ref f_law_whole_)))
  (l_law_whole : K.lookup f_law_whole_ = some ⟨oc_law_whole, od_law_whole, .func (PySem.W.fnOf "_law_whole" "_law_whole" (defArgs s_law_whole) (defBody s_law_whole) (defScope s_law_whole) .none kV_law_whole dc_law_whole pm_law_whole an_law_whole cd_law_whole ct_law_whole), sl_law_whole⟩)
  (c_law_whole : PySem.W.codeIn K cd_law_whole "_law_whole" = true)
  (k_law_whole : PySem.W.keepIn K (.ref f_law_whole_) = true)
  (a_law : PySem.W.nsIn K mainGlobals "law" = some (some (.ref f_law_)))
  (l_law : K.lookup f_law_ = some ⟨oc_law, od_law, .func (PySem.W.fnOf "law" "law" (defArgs s_law) (defBody s_law) (defScope s_law) .none kV_law dc_law pm_law an_law cd_law ct_law), sl_law⟩)
  (c_law : PySem.W.codeIn K cd_law "law" = true)
  (k_law : PySem.W.keepIn K (.ref f_law_) = true)
  (w1_aheads : cd_aheads = .ref wc_aheads) (w2_aheads : K.lookup wc_aheads = some wo_aheads) (w3_aheads : codeTab wo_aheads = some wP_aheads) (w4_aheads : (wc_aheads == wP_aheads) = false) (w5_aheads : lamTabs K = [(("aheads" : Str), wc_aheads, wP_aheads)])
  (z_bool : PySem.W.nsIn K mainGlobals "bool" = some none)
  (z_dict : PySem.W.nsIn K mainGlobals "dict" = some none)
  (z_enumerate : PySem.W.nsIn K mainGlobals "enumerate" = some none)
  (z_int : PySem.W.nsIn K mainGlobals "int" = some none)
  (z_isinstance : PySem.W.nsIn K mainGlobals "isinstance" = some none)
  (z_len : PySem.W.nsIn K mainGlobals "len" = some none)
  (z_list : PySem.W.nsIn K mainGlobals "list" = some none)
  (z_range : PySem.W.nsIn K mainGlobals "range" = some none)
  (z_sorted : PySem.W.nsIn K mainGlobals "sorted" = some none)
  : ∃ fd : FuncData, (∀ (s : Shared) (v : Value), BindsTo s fd ⟨[v], []⟩ [("_law_script", v)]) /\ ∀ base : Heap, K.In base -> base.Ns mainGlobals mg -> FnOk l.prog w K mg base (CXW l.prog w) 6 fa fd ["_law_script"] (spM K mg 1 f_law) := by
 have e := hfa.symm.trans (PySem.W.mg_of KX G a_law)
 cases e
 have F_law_cell_at := fun_mk (st := s_law_cell_at) l_law_cell_at c_law_cell_at k_law_cell_at
 have F_law_ways_by := fun_mk (st := s_law_ways_by) l_law_ways_by c_law_ways_by k_law_ways_by
 have F_found_from := fun_mk (st := s_found_from) l_found_from c_found_from k_found_from
 have F_aheads := fun_mk (st := s_aheads) l_aheads c_aheads k_aheads
 have F_comes := fun_mk (st := s_comes) l_comes c_comes k_comes
 have F_meeting := fun_mk (st := s_meeting) l_meeting c_meeting k_meeting
 have F_gate_so_far := fun_mk (st := s_gate_so_far) l_gate_so_far c_gate_so_far k_gate_so_far
 have F_gates := fun_mk (st := s_gates) l_gates c_gates k_gates
 have F_law_reached := fun_mk (st := s_law_reached) l_law_reached c_law_reached k_law_reached
 have F_law_whole := fun_mk (st := s_law_whole) l_law_whole c_law_whole k_law_whole
 have F_law := fun_mk (st := s_law) l_law c_law k_law
 let T : Tx K mg := {
  a_law_cell_at := f_law_cell_at_, d_law_cell_at := _, F_law_cell_at := F_law_cell_at, m_law_cell_at := PySem.W.mg_of KX G a_law_cell_at, b_law_cell_at := F_law_cell_at.binds (ps := ["_law_script", "_law_k"]) (fun _ _ _ _ _ _ us hl => by obtain ⟨_, _, rfl⟩ := len2 us hl; rfl),
  a_law_ways_by := f_law_ways_by_, d_law_ways_by := _, F_law_ways_by := F_law_ways_by, m_law_ways_by := PySem.W.mg_of KX G a_law_ways_by, b_law_ways_by := F_law_ways_by.binds (ps := ["_law_script"]) (fun _ _ _ _ _ _ us hl => by obtain ⟨_, rfl⟩ := len1 us hl; rfl),
  a_found_from := f_found_from_, d_found_from := _, F_found_from := F_found_from, m_found_from := PySem.W.mg_of KX G a_found_from, b_found_from := F_found_from.binds (ps := ["starts", "further"]) (fun _ _ _ _ _ _ us hl => by obtain ⟨_, _, rfl⟩ := len2 us hl; rfl),
  a_aheads := f_aheads_, d_aheads := _, F_aheads := F_aheads, m_aheads := PySem.W.mg_of KX G a_aheads, b_aheads := F_aheads.binds (ps := ["ways"]) (fun _ _ _ _ _ _ us hl => by obtain ⟨_, rfl⟩ := len1 us hl; rfl),
  a_comes := f_comes_, d_comes := _, F_comes := F_comes, m_comes := PySem.W.mg_of KX G a_comes, b_comes := F_comes.binds (ps := ["ways"]) (fun _ _ _ _ _ _ us hl => by obtain ⟨_, rfl⟩ := len1 us hl; rfl),
  a_meeting := f_meeting_, d_meeting := _, F_meeting := F_meeting, m_meeting := PySem.W.mg_of KX G a_meeting, b_meeting := F_meeting.binds (ps := ["told", "ranks", "one", "other"]) (fun _ _ _ _ _ _ us hl => by obtain ⟨_, _, _, _, rfl⟩ := len4 us hl; rfl),
  a_gate_so_far := f_gate_so_far_, d_gate_so_far := _, F_gate_so_far := F_gate_so_far, m_gate_so_far := PySem.W.mg_of KX G a_gate_so_far, b_gate_so_far := F_gate_so_far.binds (ps := ["told", "ranks", "arrivals"]) (fun _ _ _ _ _ _ us hl => by obtain ⟨_, _, _, rfl⟩ := len3 us hl; rfl),
  a_gates := f_gates_, d_gates := _, F_gates := F_gates, m_gates := PySem.W.mg_of KX G a_gates, b_gates := F_gates.binds (ps := ["ways"]) (fun _ _ _ _ _ _ us hl => by obtain ⟨_, rfl⟩ := len1 us hl; rfl),
  a_law_reached := f_law_reached_, d_law_reached := _, F_law_reached := F_law_reached, m_law_reached := PySem.W.mg_of KX G a_law_reached, b_law_reached := F_law_reached.binds (ps := ["_law_ways", "_law_shut"]) (fun _ _ _ _ _ _ us hl => by obtain ⟨_, _, rfl⟩ := len2 us hl; rfl),
  a_law_whole := f_law_whole_, d_law_whole := _, F_law_whole := F_law_whole, m_law_whole := PySem.W.mg_of KX G a_law_whole, b_law_whole := F_law_whole.binds (ps := ["_law_found"]) (fun _ _ _ _ _ _ us hl => by obtain ⟨_, rfl⟩ := len1 us hl; rfl),
  a_law := fa, d_law := _, F_law := F_law, m_law := PySem.W.mg_of KX G a_law, b_law := F_law.binds (ps := ["_law_script"]) (fun _ _ _ _ _ _ us hl => by obtain ⟨_, rfl⟩ := len1 us hl; rfl),
  lc_aheads := wc_aheads, lP_aheads := wP_aheads, lo_aheads := wo_aheads, le_aheads := w1_aheads, lk_aheads := w2_aheads, lq_aheads := w3_aheads, ln_aheads := (fun z => absurd (z ▸ w4_aheads : (wP_aheads == wP_aheads) = false) (by simp)), lm_aheads := (by rw [w5_aheads]; exact List.mem_singleton_self _), lu_aheads := (fun p hp _ => by rw [w5_aheads] at hp; rw [List.mem_singleton.mp hp]), lh_aheads := ((lamIn_of F_aheads a_aheads).trans rfl),
  n_bool := PySem.W.mg_none_of KX G z_bool,
  n_dict := PySem.W.mg_none_of KX G z_dict,
  n_enumerate := PySem.W.mg_none_of KX G z_enumerate,
  n_int := PySem.W.mg_none_of KX G z_int,
  n_isinstance := PySem.W.mg_none_of KX G z_isinstance,
  n_len := PySem.W.mg_none_of KX G z_len,
  n_list := PySem.W.mg_none_of KX G z_list,
  n_range := PySem.W.mg_none_of KX G z_range,
  n_sorted := PySem.W.mg_none_of KX G z_sorted }
 exact ⟨PySem.W.fnOf "law" "law" (defArgs s_law) (defBody s_law) (defScope s_law) .none kV_law dc_law pm_law an_law cd_law ct_law, fun s v => .of_eq rfl, fun base _ _ => ok_law T⟩
theorem walk_law {l : PySem.W.OpenLaw} {q : Program} {loose : List Str} {XP : (Str -> Option Value) -> Heap -> Prop} {YP : World -> Heap -> Prop} {d : DefRec} {K : Params -> PySem.W.Frag} (good : ∀ ns : List Int, ns.length <= 63 -> ∃ ph', f_law [.fl (ns.map W.int)] [] = .ok (.bl true) ph') (hn : l.most = some 63) (hdf : d.params.defaults = [])
  (hY : ∀ (w : World) (h : Heap), YP w h -> (K w.params).In h) (hK : ∀ w : World, PySem.W.noTabs (K w.params) = true) (hT : ∀ (w : World) (h : Heap), YP w h -> ∀ p ∈ lamTabs (K w.params), PySem.W.CodeHd h p.2.1 p.2.2 /\ h.get? p.2.2 = some (PySem.W.tabObj #[]))
  (F : ∀ (w : World) (mg : Str -> Option Value) (fa : Addr) (h : Heap), (K w.params).In h -> h.Ns mainGlobals mg -> mg d.name = some (.ref fa) -> ∃ fd : FuncData, (∀ (s : Shared) (u : Value), BindsTo s fd ⟨[u], []⟩ [("_law_script", u)]) /\ ∀ base : Heap, (K w.params).In base -> base.Ns mainGlobals mg -> FnOk l.prog w (K w.params) mg base (CXW l.prog w) 6 fa fd ["_law_script"] (spM (K w.params) mg 1 f_law)) :
  PySem.W.WalkO q loose XP YP l.row.toRowW d [] (fun f vs => PySem.call f vs) := walk_il 6 good hn hdf ⟨rfl, by decide, by decide⟩ hY hK hT F
open PySem L2
theorem mulC_r {a b : Int} (h1 : -(2 ^ 64) < b) (h2 : b < 2 ^ 64) : mulC a b = true := by
 unfold mulC
 rw [decide_eq_true h1, decide_eq_true h2]
 simp
theorem mulC_l {a b : Int} (h1 : -(2 ^ 64) < a) (h2 : a < 2 ^ 64) : mulC a b = true := by
 unfold mulC
 rw [decide_eq_true h1, decide_eq_true h2]
 simp
theorem Ex.set {a b : PH} (h : Ex a b) {i : Nat} (hi : a.length <= i) (o : PO) : Ex a (b.set i o) := by
 obtain ⟨m, rfl⟩ := h
 exact ⟨m.set (i - a.length) o, by rw [List.set_append_right _ _ hi]⟩
theorem set_ne {ph : PH} {i j : Nat} {o : PO} (h : i ≠ j) : (ph.set i o)[j]? = ph[j]? := List.getElem?_set_ne h
theorem set_eq {ph : PH} {i : Nat} {o o' : PO} (h : ph[i]? = some o) : (ph.set i o')[i]? = some o' := List.getElem?_set_self (List.getElem?_eq_some_iff.mp h).1
theorem lt_of {ph : PH} {i : Nat} {o : PO} (h : ph[i]? = some o) : i < ph.length := (List.getElem?_eq_some_iff.mp h).1
theorem sFor_ok {im : IM} {g : GM} {b : SM} {σ : PSt} {ph ph1 : PH} {items : List W} {chk : PH -> Bool} {r : Out Fl} (h : im σ ph = .ok (items, chk) ph1) (h2 : forG chk g b items σ ph1 = r) : sFor im g b σ ph = r := by
 unfold sFor
 rw [bnd_ok h]
 exact h2
theorem bseq {a b : SM} {k : Fl -> Mo W} {σ σ1 : PSt} {ph ph1 : PH} {P : Out W -> Prop} (h : a σ ph = .ok (.nx σ1) ph1) (h2 : P (bnd (b σ1) k ph1)) : P (bnd (sSeq a b σ) k ph) := by
 have e : bnd (sSeq a b σ) k ph = bnd (b σ1) k ph1 := by
  rw [sSeq_ap, bnd_assoc, bnd_ok h]
 rw [e]
 exact h2
def iw (l : List Nat) : List W := l.map fun x : Nat => W.int (x : Int)
theorem iw_len (l : List Nat) : (iw l).length = l.length := by simp [iw]
theorem iw_app (l m : List Nat) : iw (l ++ m) = iw l ++ iw m := by simp [iw]
theorem iw_get {l : List Nat} {j : Nat} {w : W} (h : (iw l)[j]? = some w) : ∃ x, l[j]? = some x /\ w = .int (x : Int) := by
 unfold iw at h
 rw [List.getElem?_map] at h
 obtain ⟨x, e, rfl⟩ := Option.map_eq_some_iff.mp h
 exact ⟨x, e, rfl⟩
theorem iw_at {l : List Nat} {j x : Nat} (h : l[j]? = some x) : atI (iw l) (j : Int) = some (.int (x : Int)) := by
 have := (List.getElem?_eq_some_iff.mp h).1
 rw [atI_nat _ _ (by rw [iw_len]; exact this)]
 unfold iw
 rw [List.getElem?_map, h]; rfl
def Wy (ph : PH) (i : Nat) (G : List (List Nat)) : Prop := ∃ rs : List Nat, ph[i]? = some (.lst (rs.map W.ref)) /\ rs.length = G.length /\ ∀ (k r : Nat) g, rs[k]? = some r -> G[k]? = some g -> ph[r]? = some (.lst (iw g))
theorem Wy.mono {ph ph' : PH} {i : Nat} {G : List (List Nat)} (h : Wy ph i G) (x : Ex ph ph') : Wy ph' i G := by
 obtain ⟨rs, h1, h2, h3⟩ := h
 exact ⟨rs, x.get h1, h2, fun k r g a b => x.get (h3 k r g a b)⟩
structure Ok (G : List (List Nat)) : Prop where
 pos : 0 < G.length
 top : G.length <= 61
 lt : ∀ g ∈ G, ∀ x ∈ g, x < G.length
 few : ∀ g ∈ G, g.length <= 3
theorem cell_at (ns : List Int) (k : Nat) (ph : PH) : f_law_cell_at [.fl (ns.map W.int), .int (k : Int)] ph = .ok (.int (ns.getD k 0)) ph := by
 unfold f_law_cell_at b_law_cell_at
 try simp only [EVA, Nat.reduceSub, List.reduceReplicate, List.set_cons_zero, List.set_cons_succ, if_true, if_false, ↓reduceIte, String.reduceEq, reduceCtorEq, lenF]
 by_cases h : k < ns.length
 ·have e : atI (ns.map W.int) (k : Int) = some (.int (ns.getD k 0)) := by
   rw [atI_nat _ _ (by simpa using h)]; simp [h]
  rw [ixF e]
  simp [h, pur, fEnd, bnd]
 ·have e : ns.getD k 0 = 0 := by simp [Nat.le_of_not_lt h]
  simp [h, pur, fEnd, bnd, e]
theorem cellF (ns : List Int) (k : Nat) : f_law_cell_at [.fl (ns.map W.int), .int (k : Int)] = pur (.int (ns.getD k 0)) := funext fun ph => cell_at ns k ph
theorem cellF_0 (ns : List Int) : f_law_cell_at [.fl (ns.map W.int), .int 0] = pur (.int (ns.getD 0 0)) := cellF ns 0
theorem cellF_1 (ns : List Int) : f_law_cell_at [.fl (ns.map W.int), .int 1] = pur (.int (ns.getD 1 0)) := cellF ns 1
theorem nat_of {a n : Int} (h : 0 < n) : ∃ v : Nat, (v : Int) < n /\ a.fmod n = (v : Int) := by
 obtain ⟨h1, h2⟩ := fmod_range a n h
 exact ⟨(a.fmod n).toNat, by omega, by omega⟩
theorem goal1 {scr o8 : Option W} {wi : W} {n near b cell : Int} {gi k : Nat} {ph : PH} {ws : List W} (hn : 0 < n) (hk : k < 3) (h : ph[gi]? = some (.lst ws)) (hz : ws.length < 100) :
  ∃ v : Nat, (v : Int) < n /\ lb_law_ways_by_1 [scr, some (.int n), some (.int near), some wi, some (.int b), some (.int cell), some (.ref gi), some (.int (k : Int)), o8] ph =
   .ok (.nx [scr, some (.int n), some (.int near), some wi, some (.int b), some (.int cell), some (.ref gi), some (.int (k : Int)), some (.int (v : Int))]) (ph.set gi (.lst (ws ++ [.int (v : Int)]))) := by
 have m1 : mulC 60 (k : Int) = true := mulC_l (by decide) (by decide)
 have m2 : mulC 11 (k : Int) = true := mulC_l (by decide) (by decide)
 have d1 : (1 : Int) + 60 * (k : Int) ≠ 0 := by omega
 have d2 : (1 : Int) + 11 * (k : Int) ≠ 0 := by omega
 have d3 : ((1 : Int) + 60 * (k : Int)).natAbs < 2 ^ 64 := by omega
 have d4 : ((1 : Int) + 11 * (k : Int)).natAbs < 2 ^ 64 := by omega
 have hn0 : n ≠ 0 := by omega
 unfold lb_law_ways_by_1
 try simp only [EVA, Nat.reduceSub, List.reduceReplicate, List.set_cons_zero, List.set_cons_succ, if_true, if_false, ↓reduceIte, String.reduceEq, reduceCtorEq, l_mod hn0, l_mod (show (4 : Int) ≠ 0 by decide), l_div (show (7 : Int) ≠ 0 by decide) (by decide), l_mul m1, l_mul m2, l_div d1 d3, l_div d2 d4]
 obtain ⟨v1, g1, e1⟩ := nat_of (a := ((cell.fdiv 7).fdiv (1 + 60 * (k : Int)))) hn
 obtain ⟨v2, g2, e2⟩ := nat_of (a := b + 1 + ((cell.fdiv 7).fdiv (1 + 11 * (k : Int))).fmod 4) hn
 rw [e1, e2]
 by_cases h0 : near = 0
 ·refine ⟨v2, g2, ?_⟩
  simp only [decide_eq_true h0, if_true]
  rw [bnd_ok (chk_ref h), bnd_ok (append_ref h (Nat.lt_of_lt_of_le hz (by decide)) _)]
  rfl
 ·refine ⟨v1, g1, ?_⟩
  simp only [decide_eq_false h0, Bool.false_eq_true, if_false]
  rw [bnd_ok (chk_ref h), bnd_ok (append_ref h (Nat.lt_of_lt_of_le hz (by decide)) _)]
  rfl
theorem goals {scr : Option W} {wi : W} {n near b cell : Int} {gi m : Nat} {ph : PH} {o7 o8 : Option W} (hn : 0 < n) (hm : m <= 3) (h : ph[gi]? = some (.lst [])) :
  ∃ (g : List Nat) (o7' o8' : Option W), g.length = m /\ (∀ x ∈ g, (x : Int) < n) /\ forG (fun _ => true) (gN 7) lb_law_ways_by_1 (rngW 0 m) [scr, some (.int n), some (.int near), some wi, some (.int b), some (.int cell), some (.ref gi), o7, o8] ph =
   .ok (.nx [scr, some (.int n), some (.int near), some wi, some (.int b), some (.int cell), some (.ref gi), o7', o8']) (ph.set gi (.lst (iw g))) := by
 obtain ⟨σ', H, e, g, o7', o8', h1, h2, rfl, rfl⟩ := forG_inv (chk := fun _ => true) (g := gN 7) (b := lb_law_ways_by_1)
  (fun j σ H => ∃ (g : List Nat) (o7' o8' : Option W), g.length = j /\ (∀ x ∈ g, (x : Int) < n) /\ σ = [scr, some (.int n), some (.int near), some wi, some (.int b), some (.int cell), some (.ref gi), o7', o8'] /\ H = ph.set gi (.lst (iw g)))
  (rngW 0 m) [scr, some (.int n), some (.int near), some wi, some (.int b), some (.int cell), some (.ref gi), o7, o8] ph (fun _ _ _ _ => rfl)
  (fun j x σ H hj hI => by
   obtain ⟨g, a7, a8, h1, h2, rfl, rfl⟩ := hI
   obtain ⟨hj1, rfl⟩ := rngW_get hj
   rw [Int.zero_add]
   have hs := set_eq (o' := .lst (iw g)) h
   obtain ⟨v, hv, e⟩ := goal1 (scr := scr) (o8 := a8) (wi := wi) (near := near) (b := b) (cell := cell) (k := j) hn (by omega) hs (by rw [iw_len]; omega)
   refine ⟨_, _, rfl, _, _, e, _, .inl rfl, g ++ [v], _, _, by simp [h1], fun x hx => ?_, rfl, ?_⟩
   ·rcases List.mem_append.mp hx with z | z
    ·exact h2 x z
    ·rw [List.mem_singleton.mp z]; exact hv
   ·rw [iw_app, List.set_set]; rfl)
  ⟨[], o7, o8, rfl, fun _ z => (nomatch z), rfl, by
   show ph = ph.set gi (.lst [])
   exact (List.ext_getElem? fun i => by
    by_cases hi : gi = i
    ·subst hi; rw [set_eq h, h]
    ·rw [set_ne hi])⟩
 rw [rngW_len] at h1
 exact ⟨g, o7', o8', h1, h2, e⟩
structure Mk (ph0 : PH) (wi : Nat) (n : Int) (j : Nat) (H : PH) (rs : List Nat) (G : List (List Nat)) : Prop where
 at_ : H[wi]? = some (.lst (rs.map W.ref))
 lr : rs.length = j
 lg : G.length = j
 ne : ∀ r ∈ rs, wi < r
 con : ∀ (k r : Nat) g, rs[k]? = some r -> G[k]? = some g -> H[r]? = some (.lst (iw g))
 lt : ∀ g ∈ G, ∀ x ∈ g, (x : Int) < n
 few : ∀ g ∈ G, g.length <= 3
 ex : Ex ph0 H
theorem block1 {ns : List Int} {n near : Int} {wi j : Nat} {o5 o6 o7 o8 : Option W} {ph0 H : PH} {rs : List Nat} {G : List (List Nat)} (hn : 0 < n) (hj : j < 61) (hw : ph0.length <= wi) (m : Mk ph0 wi n j H rs G) :
  ∃ (p5 p6 p7 p8 : Option W) (H' : PH) (rs' : List Nat) (G' : List (List Nat)), lb_law_ways_by_2 [some (.fl (ns.map W.int)), some (.int n), some (.int near), some (.ref wi), some (.int (j : Int)), o5, o6, o7, o8] H =
   .ok (.nx [some (.fl (ns.map W.int)), some (.int n), some (.int near), some (.ref wi), some (.int (j : Int)), p5, p6, p7, p8]) H' /\ Mk ph0 wi n (j + 1) H' rs' G' := by
 have m1 : mulC 7919 (j : Int) = true := mulC_l (by decide) (by decide)
 unfold lb_law_ways_by_2
 have ec : f_law_cell_at [.fl (ns.map W.int), .int (2 + (j : Int))] H = .ok (.int (ns.getD (2 + j) 0)) H := by
  have := cell_at ns (2 + j) H
  rw [show ((2 + j : Nat) : Int) = 2 + (j : Int) by omega] at this
  exact this
 try simp only [EVA, Nat.reduceSub, List.reduceReplicate, List.set_cons_zero, List.set_cons_succ, if_true, if_false, ↓reduceIte, String.reduceEq, reduceCtorEq, l_mul m1, l_mod (show (2147483647 : Int) ≠ 0 by decide), l_mod (show (7 : Int) ≠ 0 by decide)]
 rw [bnd_ok ec]
 have m2 : mulC (ns.getD (2 + j) 0 + 7919 * (j : Int)) 48271 = true := mulC_r (by decide) (by decide)
 try simp only [EVA, Nat.reduceSub, List.reduceReplicate, List.set_cons_zero, List.set_cons_succ, if_true, if_false, ↓reduceIte, String.reduceEq, reduceCtorEq, l_mul m1, l_mul m2, l_mod (show (2147483647 : Int) ≠ 0 by decide), l_mod (show (7 : Int) ≠ 0 by decide)]
 rw [bnd_new _ _ _ (small (by simp))]
 generalize ((ns.getD (2 + j) 0 + 7919 * (j : Int)) * 48271).fmod 2147483647 = cell
 have hwl : wi < H.length := lt_of m.at_
 obtain ⟨H1, eH1⟩ : ∃ H1, H1 = H ++ [PO.lst []] ++ [PO.lst [.int 0, .int 1, .int 1, .int 2, .int 2, .int 2, .int 3]] := ⟨_, rfl⟩
 have x1 : Ex H H1 := by rw [eH1]; exact (Ex.one _ _).trans (Ex.one _ _)
 have hgi : H1[H.length]? = some (.lst []) := by rw [eH1]; exact (Ex.one _ _).get (get_new _ _)
 have hm : ∃ m : Nat, m <= 3 /\ iR1 (aCons (eOp ixV (eLst (aCons (eC (.int (0))) (aCons (eC (.int (1))) (aCons (eC (.int (1))) (aCons (eC (.int (2))) (aCons (eC (.int (2))) (aCons (eC (.int (2))) (aCons (eC (.int (3))) aNil)))))))) (eOp modW (eVar 5) (eC (.int (7))))) aNil)
   [some (.fl (ns.map W.int)), some (.int n), some (.int near), some (.ref wi), some (.int (j : Int)), some (.int cell), some (.ref H.length), o7, o8] (H ++ [PO.lst []]) = .ok (rngW 0 m, fun _ => true) H1 := by
  have key : ∃ m : Nat, m <= 3 /\ (aCons (eOp ixV (eLst (aCons (eC (.int (0))) (aCons (eC (.int (1))) (aCons (eC (.int (1))) (aCons (eC (.int (2))) (aCons (eC (.int (2))) (aCons (eC (.int (2))) (aCons (eC (.int (3))) aNil)))))))) (eOp modW (eVar 5) (eC (.int (7))))) aNil)
   [some (.fl (ns.map W.int)), some (.int n), some (.int near), some (.ref wi), some (.int (j : Int)), some (.int cell), some (.ref H.length), o7, o8] (H ++ [PO.lst []]) = .ok [.int (m : Int)] H1 := by
   try simp only [EVA, Nat.reduceSub, List.reduceReplicate, List.set_cons_zero, List.set_cons_succ, if_true, if_false, ↓reduceIte, String.reduceEq, reduceCtorEq, l_mod (show (7 : Int) ≠ 0 by decide)]
   rw [bnd_new _ _ _ (small (by simp)), <- eH1]
   have q := fmod_range cell 7 (by decide)
   generalize cell.fmod 7 = d at q
   have hc : H1[(H ++ [PO.lst []]).length]? = some (.lst [.int 0, .int 1, .int 1, .int 2, .int 2, .int 2, .int 3]) := by rw [eH1]; exact get_new _ _
   have : d = 0 \/ d = 1 \/ d = 2 \/ d = 3 \/ d = 4 \/ d = 5 \/ d = 6 := by omega
   rcases this with rfl | rfl | rfl | rfl | rfl | rfl | rfl
   ·exact ⟨0, by omega, by rw [bnd_ok (ixv_ref hc (by rfl))]; rfl⟩
   ·exact ⟨1, by omega, by rw [bnd_ok (ixv_ref hc (by rfl))]; rfl⟩
   ·exact ⟨1, by omega, by rw [bnd_ok (ixv_ref hc (by rfl))]; rfl⟩
   ·exact ⟨2, by omega, by rw [bnd_ok (ixv_ref hc (by rfl))]; rfl⟩
   ·exact ⟨2, by omega, by rw [bnd_ok (ixv_ref hc (by rfl))]; rfl⟩
   ·exact ⟨2, by omega, by rw [bnd_ok (ixv_ref hc (by rfl))]; rfl⟩
   ·exact ⟨3, by omega, by rw [bnd_ok (ixv_ref hc (by rfl))]; rfl⟩
  obtain ⟨m, h1, h2⟩ := key
  exact ⟨m, h1, by rw [iR1_ap h2 (by omega) (by omega)]; rfl⟩
 obtain ⟨mm, hmm, em⟩ := hm
 obtain ⟨g, o7', o8', g1, g2, eg⟩ := goals (scr := some (.fl (ns.map W.int))) (wi := .ref wi) (near := near) (b := (j : Int)) (cell := cell) (o7 := o7) (o8 := o8) hn hmm hgi
 rw [bnd_ok (sFor_ok em eg)]
 have hne : H.length ≠ wi := by omega
 have h2 : (H1.set H.length (.lst (iw g)))[wi]? = some (.lst (rs.map W.ref)) := by rw [set_ne hne]; exact x1.get m.at_
 have hlr := m.lr
 ac_nf
 rw [bnd_ok (chk_ref h2), bnd_ok (append_ref h2 (by rw [List.length_map, hlr]; exact Nat.lt_of_lt_of_le hj (by decide)) _)]
 refine ⟨_, _, _, _, _, rs ++ [H.length], G ++ [g], rfl, ?_⟩
 refine ⟨?_, by simp [hlr], by simp [m.lg], fun r hr => ?_, fun k r g' hr hg => ?_, fun g' hg => ?_, fun g' hg => ?_, ?_⟩
 ·rw [set_eq h2]; simp
 ·rcases List.mem_append.mp hr with z | z
  ·exact m.ne r z
  ·rw [List.mem_singleton.mp z]; exact hwl
 ·by_cases hk : k < j
  ·rw [List.getElem?_append_left (by omega)] at hr
   rw [List.getElem?_append_left (by rw [m.lg]; exact hk)] at hg
   have hc := m.con k r g' hr hg
   have hrw := m.ne r (List.mem_of_getElem? hr)
   have hrl := lt_of hc
   rw [set_ne (by omega), set_ne (by omega)]
   exact x1.get hc
  ·have hk' : k = j := by
    have := (List.getElem?_eq_some_iff.mp hr).1
    simp at this
    omega
   subst hk'
   rw [<- hlr, List.getElem?_concat_length] at hr
   rw [<- m.lg, List.getElem?_concat_length] at hg
   cases hr
   cases hg
   rw [set_ne (Ne.symm hne)]
   exact set_eq hgi
 ·rcases List.mem_append.mp hg with z | z
  ·exact m.lt g' z
  ·rw [List.mem_singleton.mp z]; exact g2
 ·rcases List.mem_append.mp hg with z | z
  ·exact m.few g' z
  ·rw [List.mem_singleton.mp z]; omega
 ·have hl := m.ex.len
  exact Ex.set (Ex.set (m.ex.trans x1) (by omega) _) hw _
def WaysOut (ph : PH) (r : Out W) : Prop := ∃ (i : Nat) (G : List (List Nat)) (ph' : PH), r = .ok (.ref i) ph' /\ Ex ph ph' /\ Wy ph' i G /\ Ok G
theorem ways_main (ns : List Int) (ph : PH) (n near : Int) (h0 : 0 < n) (h1 : n <= 61) : WaysOut ph (bnd (sSeq (sAsg (eLst aNil) (gN 3)) (sSeq (sFor (iR1 (aCons (eVar 1) aNil)) (gN 4) lb_law_ways_by_2) (sRet (eVar 3))) [some (.fl (ns.map W.int)), some (.int n), some (.int near), none, none, none, none, none, none]) fEnd ph) := by
 have ei : iR1 (aCons (eVar 1) aNil) [some (.fl (ns.map W.int)), some (.int n), some (.int near), some (.ref ph.length), none, none, none, none, none] (ph ++ [PO.lst []]) = .ok (rngW 0 n.toNat, fun _ => true) (ph ++ [PO.lst []]) := iR1_ap rfl (by omega) (by omega)
 obtain ⟨σ', H, e, rs, G, p4, p5, p6, p7, p8, rfl, hI⟩ := forG_inv (chk := fun _ => true) (g := gN 4) (b := lb_law_ways_by_2)
  (fun j σ H => ∃ rs G p4 p5 p6 p7 p8, σ = [some (.fl (ns.map W.int)), some (.int n), some (.int near), some (.ref ph.length), p4, p5, p6, p7, p8] /\ Mk ph ph.length n j H rs G)
  (rngW 0 n.toNat) _ _ (fun _ _ _ _ => rfl)
  (fun j x σ H hj hI => by
   obtain ⟨rs, G, p4, p5, p6, p7, p8, rfl, m⟩ := hI
   obtain ⟨hj1, rfl⟩ := rngW_get hj
   rw [Int.zero_add]
   obtain ⟨q5, q6, q7, q8, H', rs', G', e, m'⟩ := block1 (ns := ns) (near := near) (o5 := p5) (o6 := p6) (o7 := p7) (o8 := p8) h0 (by omega) (Nat.le_refl _) m
   exact ⟨_, _, rfl, _, _, e, _, .inl rfl, rs', G', _, _, _, _, _, rfl, m'⟩)
  ⟨[], [], _, _, _, _, _, rfl, get_new _ _, rfl, rfl, fun _ z => (nomatch z), fun k r g z => by simp at z, fun _ z => (nomatch z), fun _ z => (nomatch z), Ex.one _ _⟩
 refine bseq (P := WaysOut ph) rfl (bseq (sFor_ok ei e) ?_)
 rw [rngW_len] at hI
 refine ⟨ph.length, G, H, rfl, hI.ex, ⟨rs, hI.at_, by rw [hI.lr, hI.lg], hI.con⟩, by rw [hI.lg]; omega, by rw [hI.lg]; omega, fun g hg x hx => ?_, hI.few⟩
 have := hI.lt g hg x hx
 rw [hI.lg]
 omega
theorem ways_by (ns : List Int) (ph : PH) : WaysOut ph (f_law_ways_by [.fl (ns.map W.int)] ph) := by
 have q1 := fmod_range (ns.getD 0 0) 9 (by decide)
 have q2 := fmod_range ((ns.getD 0 0).fdiv 81) 8 (by decide)
 have q3 := fmod_range ((ns.getD 0 0).fdiv 162) 11 (by decide)
 unfold f_law_ways_by b_law_ways_by
 rw [fM_1]
 refine bseq (σ1 := [some (.fl (ns.map W.int)), some (.int (1 + (ns.getD 0 0).fmod 9)), none, none, none, none, none, none, none]) (ph1 := ph) ?_ ?_
 ·try simp only [EVA, Nat.reduceSub, List.reduceReplicate, List.set_cons_zero, List.set_cons_succ, if_true, if_false, ↓reduceIte, String.reduceEq, reduceCtorEq, cellF_0, l_mod (show (9 : Int) ≠ 0 by decide)]
 obtain ⟨n1, g1, e1⟩ : ∃ n1 : Int, (0 < n1 /\ n1 <= 61) /\ n1 = if ((ns.getD 0 0).fdiv 9).fmod 9 = 1 then 10 + ((ns.getD 0 0).fdiv 81).fmod 8 else 1 + (ns.getD 0 0).fmod 9 := ⟨_, by split <;> omega, rfl⟩
 refine bseq (σ1 := [some (.fl (ns.map W.int)), some (.int n1), none, none, none, none, none, none, none]) (ph1 := ph) ?_ ?_
 ·rw [e1]
  by_cases hz : ((ns.getD 0 0).fdiv 9).fmod 9 = 1
  all_goals try simp only [EVA, Nat.reduceSub, List.reduceReplicate, List.set_cons_zero, List.set_cons_succ, if_true, if_false, ↓reduceIte, String.reduceEq, reduceCtorEq, cellF_0, l_mod (show (9 : Int) ≠ 0 by decide), l_mod (show (8 : Int) ≠ 0 by decide), l_div (show (9 : Int) ≠ 0 by decide) (by decide), l_div (show (81 : Int) ≠ 0 by decide) (by decide)]
  ·simp only [hz, decide_true, if_true]
  ·simp only [hz, decide_false, Bool.false_eq_true, if_false]
 obtain ⟨n2, g2, e2⟩ : ∃ n2 : Int, (0 < n2 /\ n2 <= 61) /\ n2 = if ((ns.getD 0 0).fdiv 9).fmod 18 = 2 then 18 + ((ns.getD 0 0).fdiv 162).fmod 11 else n1 := ⟨_, by split <;> omega, rfl⟩
 refine bseq (σ1 := [some (.fl (ns.map W.int)), some (.int n2), none, none, none, none, none, none, none]) (ph1 := ph) ?_ ?_
 ·rw [e2]
  by_cases hz : ((ns.getD 0 0).fdiv 9).fmod 18 = 2
  all_goals try simp only [EVA, Nat.reduceSub, List.reduceReplicate, List.set_cons_zero, List.set_cons_succ, if_true, if_false, ↓reduceIte, String.reduceEq, reduceCtorEq, cellF_0, l_mod (show (18 : Int) ≠ 0 by decide), l_mod (show (11 : Int) ≠ 0 by decide), l_div (show (9 : Int) ≠ 0 by decide) (by decide), l_div (show (162 : Int) ≠ 0 by decide) (by decide)]
  ·simp only [hz, decide_true, if_true]
  ·simp only [hz, decide_false, Bool.false_eq_true, if_false]
 refine bseq (σ1 := [some (.fl (ns.map W.int)), some (.int n2), some (.int ((ns.getD 1 0).fmod 3)), none, none, none, none, none, none]) (ph1 := ph) ?_ ?_
 ·try simp only [EVA, Nat.reduceSub, List.reduceReplicate, List.set_cons_zero, List.set_cons_succ, if_true, if_false, ↓reduceIte, String.reduceEq, reduceCtorEq, cellF_1, l_mod (show (3 : Int) ≠ 0 by decide)]
 exact ways_main ns ph n2 _ g2.1 g2.2
structure Nd where
 k : Nat
 p : Option Nat
 d : Nat
def pw : Option Nat -> W
 | none => .non
 | some q => .int (q : Int)
def ndD (L : List Nd) : List (W × W) := L.map fun x => (W.int (x.k : Int), pw x.p)
abbrev ks (L : List Nd) : List Nat := L.map (·.k)
theorem okI (L : List Nd) (k : Int) : okKey (ndD L) (.int k) = true := by
 unfold okKey ndD
 rw [Bool.or_eq_true]
 left
 simp [keyK, isT]
theorem dget_nd (L : List Nd) (k : Nat) : dgetW (ndD L) (.int (k : Int)) = (L.find? fun y => decide (y.k = k)).map fun y => pw y.p := by
 unfold dgetW ndD
 rw [List.find?_map]
 rw [Option.map_map]
 have : ((fun p : W × W => decide (p.1 = W.int (k : Int))) ∘ fun x : Nd => (W.int (x.k : Int), pw x.p)) = fun y : Nd => decide (y.k = k) := by
  funext y
  simp only [Function.comp]
  by_cases h : y.k = k
  ·simp [h]
  ·have h2 : ¬ W.int (y.k : Int) = W.int (k : Int) := fun z => h (by have := W.int.inj z; omega)
   simp [h, h2]
 rw [this]
 rfl
theorem in_nd (L : List Nd) (k : Nat) : (dgetW (ndD L) (.int (k : Int))).isSome = decide (k ∈ ks L) := by
 rw [dget_nd, Option.isSome_map]
 by_cases h : k ∈ ks L
 ·obtain ⟨x, hx, rfl⟩ := List.mem_map.mp h
  rw [decide_eq_true h, List.find?_isSome]
  exact ⟨x, hx, by simp⟩
 ·rw [decide_eq_false h]
  cases e : L.find? (fun y => decide (y.k = k)) with
  | none => rfl
  | some x =>
   have h1 := List.find?_some e
   have h2 := List.mem_of_find?_eq_some e
   exact absurd (List.mem_map.mpr ⟨x, h2, by simpa using h1⟩) h
theorem put_nd (L : List Nd) (x : Nd) (h : x.k ∉ ks L) : dputW (ndD L) (.int (x.k : Int)) (pw x.p) = ndD (L ++ [x]) := by
 unfold dputW
 have : ((ndD L).any fun q => decide (q.1 = W.int (x.k : Int))) = false := by
  rw [List.any_eq_false]
  intro q hq
  unfold ndD at hq
  obtain ⟨r, hr, rfl⟩ := List.mem_map.mp hq
  rw [decide_eq_true_eq]
  intro z
  have := W.int.inj z
  exact h (List.mem_map.mpr ⟨r, hr, by omega⟩)
 rw [this]
 unfold ndD
 simp
structure Ba (G : List (List Nat)) (L : List Nd) : Prop where
 zero : L[0]? = some ⟨0, none, 0⟩
 nd : (ks L).Nodup
 lt : ∀ x ∈ L, x.k < G.length
 par : ∀ (i : Nat) (x : Nd), L[i]? = some x -> i ≠ 0 -> ∃ j y g, j < i /\ L[j]? = some y /\ x.p = some y.k /\ x.d = y.d + 1 /\ G[y.k]? = some g /\ x.k ∈ g
 mono : ∀ (i j : Nat) (x y : Nd), i <= j -> L[i]? = some x -> L[j]? = some y -> x.d <= y.d
structure Bf (G : List (List Nat)) (L : List Nd) (c : Nat) : Prop extends Ba G L where
 bound : ∀ t, L[c]? = some t -> ∀ x ∈ L, x.d <= t.d + 1
 closed : ∀ j y g, j < c -> L[j]? = some y -> G[y.k]? = some g -> ∀ o ∈ g, ∃ x ∈ L, x.k = o /\ x.d <= y.d + 1
structure Bi (G : List (List Nat)) (L : List Nd) (c : Nat) (t : Nd) (g : List Nat) (m : Nat) : Prop extends Ba G L where
 at_ : L[c]? = some t
 hg : G[t.k]? = some g
 bound : ∀ x ∈ L, x.d <= t.d + 1
 closed : ∀ j y g, j < c -> L[j]? = some y -> G[y.k]? = some g -> ∀ o ∈ g, ∃ x ∈ L, x.k = o /\ x.d <= y.d + 1
 part : ∀ o ∈ g.take m, o ∈ ks L
theorem Bf.start (G : List (List Nat)) (h : 0 < G.length) : Bf G [⟨0, none, 0⟩] 0 := by
 have one : ∀ {i : Nat} {x : Nd}, [(⟨0, none, 0⟩ : Nd)][i]? = some x -> i = 0 /\ x = ⟨0, none, 0⟩ := fun {i x} e => by
  cases i with
  | zero => cases e; exact ⟨rfl, rfl⟩
  | succ i => cases e
 refine ⟨⟨rfl, by simp, fun x hx => ?_, fun i x e n => absurd (one e).1 n, fun i j x y _ e1 e2 => ?_⟩, fun t _ x hx => ?_, fun j y g hj => absurd hj (Nat.not_lt_zero _)⟩
 ·rw [List.mem_singleton.mp hx]; exact h
 ·rw [(one e1).2, (one e2).2]; exact Nat.le_refl _
 ·rw [List.mem_singleton.mp hx]; exact Nat.zero_le _
theorem Bf.enter {G : List (List Nat)} {L : List Nd} {c : Nat} {t : Nd} {g : List Nat} (b : Bf G L c) (h : L[c]? = some t) (hg : G[t.k]? = some g) : Bi G L c t g 0 :=
 ⟨b.toBa, h, hg, b.bound t h, b.closed, fun o ho => by simp at ho⟩
theorem Bi.leave {G : List (List Nat)} {L : List Nd} {c : Nat} {t : Nd} {g : List Nat} (b : Bi G L c t g g.length) : Bf G L (c + 1) := by
 refine ⟨b.toBa, fun t' e x hx => ?_, fun j y g' hj e hg o ho => ?_⟩
 ·have := b.mono c (c + 1) t t' (Nat.le_succ _) b.at_ e
  have := b.bound x hx
  omega
 ·by_cases hjc : j < c
  ·exact b.closed j y g' hjc e hg o ho
  ·have : j = c := by omega
   subst this
   rw [b.at_] at e
   cases e
   rw [b.hg] at hg
   cases hg
   obtain ⟨x, hx, rfl⟩ := List.mem_map.mp (b.part o (by rw [List.take_length]; exact ho))
   exact ⟨x, hx, rfl, b.bound x hx⟩
theorem take_mem {g : List Nat} {m o o' : Nat} (e : g[m]? = some o) (h : o' ∈ g.take (m + 1)) : o' ∈ g.take m \/ o' = o := by
 rw [List.take_succ, e] at h
 rcases List.mem_append.mp h with z | z
 ·exact .inl z
 ·exact .inr (by simpa using z)
theorem Bi.skip {G : List (List Nat)} {L : List Nd} {c m o : Nat} {t : Nd} {g : List Nat} (b : Bi G L c t g m) (e : g[m]? = some o) (h : o ∈ ks L) : Bi G L c t g (m + 1) :=
 ⟨b.toBa, b.at_, b.hg, b.bound, b.closed, fun o' ho => (take_mem e ho).elim (b.part o') fun z => z ▸ h⟩
theorem app_get {L : List Nd} {x y : Nd} {i : Nat} (h : (L ++ [x])[i]? = some y) : L[i]? = some y \/ (i = L.length /\ y = x) := by
 by_cases hi : i < L.length
 ·rw [List.getElem?_append_left hi] at h
  exact .inl h
 ·have := (List.getElem?_eq_some_iff.mp h).1
  simp at this
  have : i = L.length := by omega
  subst this
  rw [List.getElem?_concat_length] at h
  cases h
  exact .inr ⟨rfl, rfl⟩
theorem app_old {L : List Nd} {x y : Nd} {i : Nat} (h : L[i]? = some y) : (L ++ [x])[i]? = some y := by
 rw [List.getElem?_append_left (List.getElem?_eq_some_iff.mp h).1]
 exact h
theorem Bi.add {G : List (List Nat)} {L : List Nd} {c m o : Nat} {t : Nd} {g : List Nat} (b : Bi G L c t g m) (e : g[m]? = some o) (h : o ∉ ks L) (ho : o < G.length) : Bi G (L ++ [⟨o, some t.k, t.d + 1⟩]) c t g (m + 1) := by
 have hcl : c < L.length := (List.getElem?_eq_some_iff.mp b.at_).1
 refine ⟨⟨app_old b.zero, ?_, fun x hx => ?_, fun i x ei ni => ?_, fun i j x y hij e1 e2 => ?_⟩, app_old b.at_, b.hg, fun x hx => ?_, fun j y g' hj ej hg o' ho' => ?_, fun o' ho' => ?_⟩
 ·unfold ks
  rw [List.map_append, List.nodup_append]
  refine ⟨b.nd, by simp, fun a ha c hc => ?_⟩
  have : c = o := by simpa using hc
  rintro rfl
  exact h (this ▸ ha)
 ·rcases List.mem_append.mp hx with z | z
  ·exact b.lt x z
  ·rw [List.mem_singleton.mp z]; exact ho
 ·rcases app_get ei with z | ⟨rfl, rfl⟩
  ·obtain ⟨j, y, g', h1, h2, h3⟩ := b.par i x z ni
   exact ⟨j, y, g', h1, app_old h2, h3⟩
  ·exact ⟨c, t, g, hcl, app_old b.at_, rfl, rfl, b.hg, List.mem_of_getElem? e⟩
 ·rcases app_get e1 with z1 | ⟨rfl, rfl⟩
  ·rcases app_get e2 with z2 | ⟨rfl, rfl⟩
   ·exact b.mono i j x y hij z1 z2
   ·exact b.bound x (List.mem_of_getElem? z1)
  ·rcases app_get e2 with z2 | ⟨rfl, rfl⟩
   ·have := (List.getElem?_eq_some_iff.mp z2).1
    omega
   ·exact Nat.le_refl _
 ·rcases List.mem_append.mp hx with z | z
  ·exact b.bound x z
  ·rw [List.mem_singleton.mp z]; exact Nat.le_refl _
 ·have hjl : j < L.length := by omega
  have ej' : L[j]? = some y := by
   rcases app_get ej with z | ⟨z, _⟩
   ·exact z
   ·omega
  obtain ⟨x, hx, h3⟩ := b.closed j y g' hj ej' hg o' ho'
  exact ⟨x, List.mem_append_left _ hx, h3⟩
 ·unfold ks
  rw [List.map_append]
  rcases take_mem e ho' with z | rfl
  ·exact List.mem_append_left _ (b.part o' z)
  ·exact List.mem_append_right _ (by simp)
theorem nodup_len : ∀ {n : Nat} {S : List Nat}, S.Nodup -> (∀ x ∈ S, x < n) -> S.length <= n
 | 0, S, _, h => by
  cases S with
  | nil => simp
  | cons x S => exact absurd (h x (by simp)) (by omega)
 | n + 1, S, hd, h => by
  by_cases hm : n ∈ S
  ·have := nodup_len (n := n) (hd.erase n) fun x hx => by
    have := h x (hd.mem_erase_iff.mp hx).2
    have : x ≠ n := (hd.mem_erase_iff.mp hx).1
    omega
   rw [List.length_erase_of_mem hm] at this
   omega
  ·have := nodup_len (n := n) hd fun x hx => by
    have := h x hx
    have : x ≠ n := fun z => hm (z ▸ hx)
    omega
   omega
theorem Ba.len {G : List (List Nat)} {L : List Nd} (b : Ba G L) : L.length <= G.length := by
 have := nodup_len b.nd (n := G.length) fun x hx => by obtain ⟨y, hy, rfl⟩ := List.mem_map.mp hx; exact b.lt y hy
 simpa using this
theorem ix_wy {ph : PH} {wi b : Nat} {G : List (List Nat)} {g : List Nat} (h : Wy ph wi G) (e : G[b]? = some g) : ∃ r, (∀ ph', Ex ph ph' -> lift (ixV (.ref wi) (.int (b : Int))) ph' = .ok (.ref r) ph') /\ ph[r]? = some (.lst (iw g)) := by
 obtain ⟨rs, h1, h2, h3⟩ := h
 have hb : b < rs.length := by rw [h2]; exact (List.getElem?_eq_some_iff.mp e).1
 obtain ⟨r, hr⟩ : ∃ r, rs[b]? = some r := ⟨rs[b], by simp [hb]⟩
 refine ⟨r, fun ph' x => ixv_ref (x.get h1) ?_, h3 b r g hr e⟩
 rw [atI_nat _ _ (by rw [List.length_map]; exact hb), List.getElem?_map, hr]
 rfl
structure Fd (ph H : PH) (di qi : Nat) (L : List Nd) : Prop where
 ex : Ex ph H
 ld : ph.length <= di
 lq : ph.length <= qi
 ne : di ≠ qi
 d : H[di]? = some (.dct (ndD L))
 q : H[qi]? = some (.lst (iw (ks L)))
theorem Fd.add {ph H : PH} {di qi : Nat} {L : List Nd} (f : Fd ph H di qi L) (x : Nd) : Fd ph ((H.set di (.dct (ndD (L ++ [x])))).set qi (.lst (iw (ks (L ++ [x]))))) di qi (L ++ [x]) := by
 refine ⟨Ex.set (Ex.set f.ex f.ld _) f.lq _, f.ld, f.lq, f.ne, ?_, ?_⟩
 ·rw [set_ne (Ne.symm f.ne)]; exact set_eq f.d
 ·exact set_eq (by rw [set_ne f.ne]; exact f.q)
theorem put1 {ph H : PH} {di qi : Nat} {L : List Nd} {x : Nd} (f : Fd ph H di qi L) (hx : x.k ∉ ks L) (hl : L.length < 100) :
  lift (setV (.ref di) (.int (x.k : Int)) (pw x.p)) H = .ok () (H.set di (.dct (ndD (L ++ [x])))) /\ lift (chkT (isL (.ref qi))) (H.set di (.dct (ndD (L ++ [x])))) = .ok () (H.set di (.dct (ndD (L ++ [x])))) /\
   lift (appendW (.ref qi) [.int (x.k : Int)]) (H.set di (.dct (ndD (L ++ [x])))) = .ok .non ((H.set di (.dct (ndD (L ++ [x])))).set qi (.lst (iw (ks (L ++ [x]))))) := by
 have h2 : (H.set di (.dct (ndD (L ++ [x]))))[qi]? = some (.lst (iw (ks L))) := by rw [set_ne f.ne]; exact f.q
 refine ⟨?_, chk_ref h2, ?_⟩
 ·rw [setv_dct f.d (okI L _) (by unfold ndD; rw [List.length_map]; exact Nat.lt_of_lt_of_le hl (by decide)), put_nd L x hx]
 ·rw [append_ref h2 (by rw [iw_len, List.length_map]; exact Nat.lt_of_lt_of_le hl (by decide))]
  simp [ks, iw]
theorem nin_fd {ph H : PH} {di qi : Nat} {L : List Nd} (f : Fd ph H di qi L) (k : Nat) : lift (ninV (.int (k : Int)) (.ref di)) H = .ok (.bl (!decide (k ∈ ks L))) H := by
 rw [ninv_dct f.d (okI L _), in_nd]
theorem inner1 {s0 s1 s4 s5 : Option W} {ph H : PH} {di qi c m o : Nat} {L : List Nd} {t : Nd} {g : List Nat} {G : List (List Nat)} (f : Fd ph H di qi L) (b : Bi G L c t g m) (e : g[m]? = some o) (hG : Ok G) (ho : o < G.length) :
  ∃ H' L', lb_found_from_2 [s0, s1, some (.ref di), some (.ref qi), s4, s5, some (.int (t.k : Int)), some (.int (o : Int))] H = .ok (.nx [s0, s1, some (.ref di), some (.ref qi), s4, s5, some (.int (t.k : Int)), some (.int (o : Int))]) H' /\ Fd ph H' di qi L' /\ Bi G L' c t g (m + 1) := by
 have hl : L.length < 100 := by have := b.len; have := hG.top; omega
 unfold lb_found_from_2
 by_cases h : o ∈ ks L
 ·refine ⟨H, L, ?_, f, b.skip e h⟩
  ac_nf
  rw [bnd_ok (nin_fd f o)]
  simp only [decide_eq_true h]
  ac_nf
 ·obtain ⟨p1, p2, p3⟩ := put1 (x := ⟨o, some t.k, t.d + 1⟩) f h hl
  dsimp only [pw] at p1 p3
  refine ⟨_, _, ?_, f.add ⟨o, some t.k, t.d + 1⟩, b.add e h ho⟩
  ac_nf
  rw [bnd_ok (nin_fd f o)]
  simp only [decide_eq_false h]
  ac_nf
  rw [bnd_ok p1]
  ac_nf
  rw [bnd_ok p2, bnd_ok p3]
  rfl
theorem further_s {H : PH} {wi tk r : Nat} {s0 s2 s3 s4 s5 s7 : Option W} (h : lift (ixV (.ref wi) (.int (tk : Int))) H = .ok (.ref r) H) :
  eApp "aheads" l_aheads 1 (aCons (eVar 6) aNil) [s0, some (.fn "aheads" [.ref wi]), s2, s3, s4, s5, some (.int (tk : Int)), s7] H = .ok (.ref r) H := by
 have e2 : l_aheads [some (.int (tk : Int)), some (.ref wi)] H = .ok (.ref r) H := by
  unfold l_aheads
  ac_nf
  exact h
 unfold eApp
 simp only [List.getElem?_cons_succ, List.getElem?_cons_zero, appW, if_true]
 ac_nf
 unfold fLm noEx
 simp only [e2]
theorem outer1 {s0 s4 s6 s7 : Option W} {ph H : PH} {wi di qi c : Nat} {L : List Nd} {t : Nd} {G : List (List Nat)} (hw : Wy ph wi G) (hG : Ok G) (f : Fd ph H di qi L) (b : Bf G L c) (hc : L[c]? = some t) :
  ∃ H' L' s6' s7', lb_found_from_3 [s0, some (.fn "aheads" [.ref wi]), some (.ref di), some (.ref qi), s4, some (.int (c : Int)), s6, s7] H =
   .ok (.nx [s0, some (.fn "aheads" [.ref wi]), some (.ref di), some (.ref qi), s4, some (.int ((c + 1 : Nat) : Int)), s6', s7']) H' /\ Fd ph H' di qi L' /\ Bf G L' (c + 1) /\ c < L'.length := by
 have ht : t.k < G.length := b.lt t (List.mem_of_getElem? hc)
 obtain ⟨g, hg⟩ : ∃ g, G[t.k]? = some g := ⟨G[t.k], by simp [ht]⟩
 obtain ⟨r, hr, hrg⟩ := ix_wy hw hg
 have hq : atI (iw (ks L)) (c : Int) = some (.int (t.k : Int)) := iw_at (by unfold ks; rw [List.getElem?_map, hc]; rfl)
 unfold lb_found_from_3
 ac_nf
 rw [bnd_ok (ixv_ref f.q hq)]
 try simp only [EVA, Nat.reduceSub, List.reduceReplicate, List.set_cons_zero, List.set_cons_succ, if_true, if_false, ↓reduceIte, String.reduceEq, reduceCtorEq, l_augA]
 have hgm : g ∈ G := List.mem_of_getElem? hg
 obtain ⟨σ', H', e, L', s7', rfl, f', b'⟩ := forG_inv (chk := fun p => decide (p[r]? = some (.lst (iw g)))) (g := gN 7) (b := lb_found_from_2)
  (fun m σ H => ∃ L' s7', σ = [s0, some (.fn "aheads" [.ref wi]), some (.ref di), some (.ref qi), s4, some (.int ((c : Int) + 1)), some (.int (t.k : Int)), s7'] /\ Fd ph H di qi L' /\ Bi G L' c t g m)
  (iw g) [s0, some (.fn "aheads" [.ref wi]), some (.ref di), some (.ref qi), s4, some (.int ((c : Int) + 1)), some (.int (t.k : Int)), s7] H
  (fun m σ H ⟨_, _, _, f, _⟩ => decide_eq_true (f.ex.get hrg))
  (fun m x σ H hm ⟨L', s7', e, f, b⟩ => by
   subst e
   obtain ⟨o, ho, rfl⟩ := iw_get hm
   obtain ⟨H', L2, e1, f1, b1⟩ := inner1 (s0 := s0) (s1 := some (.fn "aheads" [.ref wi])) (s4 := s4) (s5 := some (.int ((c : Int) + 1))) f b ho hG (hG.lt g hgm o (List.mem_of_getElem? ho))
   exact ⟨_, _, rfl, _, _, e1, _, .inl rfl, L2, _, rfl, f1, b1⟩)
  ⟨L, s7, rfl, f, b.enter hc hg⟩
 rw [iw_len] at b'
 refine ⟨H', L', some (.int (t.k : Int)), s7', ?_, f', b'.leave, (List.getElem?_eq_some_iff.mp b'.at_).1⟩
 rw [sFor_ok (iBoth_ref (further_s (hr H f.ex)) (f.ex.get hrg)) e]
 rfl
def Found (ph : PH) (G : List (List Nat)) (r : Out W) : Prop := ∃ di ph' L, r = .ok (.ref di) ph' /\ Ex ph ph' /\ ph'[di]? = some (.dct (ndD L)) /\ Bf G L L.length
theorem found_s {ph : PH} {wi si : Nat} {G : List (List Nat)} (hw : Wy ph wi G) (hG : Ok G) (hs : ph[si]? = some (.lst [.int 0])) : Found ph G (f_found_from [.ref si, .fn "aheads" [.ref wi]] ph) := by
 unfold f_found_from b_found_from
 rw [fM_2]
 refine bseq (P := Found ph G) (σ1 := [some (.ref si), some (.fn "aheads" [.ref wi]), some (.ref ph.length), none, none, none, none, none]) (ph1 := ph ++ [.dct []]) rfl ?_
 refine bseq (σ1 := [some (.ref si), some (.fn "aheads" [.ref wi]), some (.ref ph.length), some (.ref (ph ++ [PO.dct []]).length), none, none, none, none]) (ph1 := ph ++ [.dct []] ++ [.lst []]) rfl ?_
 have f0 : Fd ph (ph ++ [.dct []] ++ [.lst []]) ph.length (ph ++ [PO.dct []]).length [] := ⟨(Ex.one _ _).trans (Ex.one _ _), Nat.le_refl _, by simp, by simp, (Ex.one _ _).get (get_new _ _), get_new _ _⟩
 generalize hqi : (ph ++ [PO.dct []]).length = qi at f0
 generalize (ph ++ [.dct []] ++ [.lst []]) = H0 at f0
 have f1 := f0.add ⟨0, none, 0⟩
 obtain ⟨p1, p2, p3⟩ := put1 (x := ⟨0, none, 0⟩) f0 (by simp) (by simp)
 dsimp only [pw] at p1 p3
 rw [show ((0 : Nat) : Int) = 0 from rfl] at p1 p3
 have hs0 : H0[si]? = some (.lst [.int 0]) := f0.ex.get hs
 have e1 : forG (fun p => decide (p[si]? = some (.lst [W.int 0]))) (gN 4) lb_found_from_1 [.int 0] [some (.ref si), some (.fn "aheads" [.ref wi]), some (.ref ph.length), some (.ref qi), none, none, none, none] H0 =
   .ok (.nx [some (.ref si), some (.fn "aheads" [.ref wi]), some (.ref ph.length), some (.ref qi), some (.int 0), none, none, none]) ((H0.set ph.length (.dct (ndD ([] ++ [⟨0, none, 0⟩])))).set qi (.lst (iw (ks ([] ++ [⟨0, none, 0⟩]))))) := by
  unfold forG
  simp only [hs0, decide_true, if_true]
  unfold lb_found_from_1
  have n0 := nin_fd f0 0
  rw [show ((0 : Nat) : Int) = 0 from rfl] at n0
  ac_nf
  rw [bnd_ok n0]
  ac_nf
  simp only [List.map_nil, List.not_mem_nil, decide_false, Bool.not_false, if_true]
  rw [bnd_ok p1]
  ac_nf
  rw [bnd_ok p2, bnd_ok p3]
  have hs1 := f1.ex.get hs
  unfold forG
  rw [if_pos (decide_eq_true hs1)]
 refine bseq (sFor_ok (iBoth_ref rfl hs0) e1) ?_
 refine bseq (σ1 := [some (.ref si), some (.fn "aheads" [.ref wi]), some (.ref ph.length), some (.ref qi), some (.int 0), some (.int 0), none, none]) rfl ?_
 generalize ((H0.set ph.length (.dct (ndD ([] ++ [⟨0, none, 0⟩])))).set qi (.lst (iw (ks ([] ++ [⟨0, none, 0⟩]))))) = H1 at f1
 obtain ⟨σ', H', e, L, s6, s7, c, rfl, f, b, hcl⟩ := while_inv (t := eT (eOp ltW (eVar 5) (eCallB lenW (aCons (eVar 3) aNil)))) (b := lb_found_from_3)
  (fun k σ H => ∃ L s6 s7 c, σ = [some (.ref si), some (.fn "aheads" [.ref wi]), some (.ref ph.length), some (.ref qi), some (.int 0), some (.int ((c : Nat) : Int)), s6, s7] /\ Fd ph H ph.length qi L /\ Bf G L c /\ k + c = G.length /\ c <= L.length)
  (fun σ H => ∃ L s6 s7 c, σ = [some (.ref si), some (.fn "aheads" [.ref wi]), some (.ref ph.length), some (.ref qi), some (.int 0), some (.int ((c : Nat) : Int)), s6, s7] /\ Fd ph H ph.length qi L /\ Bf G L c /\ c = L.length)
  (fun k σ H ⟨L, s6, s7, c, e, f, b, hk, hcl⟩ => by
   subst e
   have et : eT (eOp ltW (eVar 5) (eCallB lenW (aCons (eVar 3) aNil))) [some (.ref si), some (.fn "aheads" [.ref wi]), some (.ref ph.length), some (.ref qi), some (.int 0), some (.int ((c : Nat) : Int)), s6, s7] H = .ok (decide (c < L.length)) H := by
    ac_nf
    rw [bnd_ok (len_ref f.q)]
    ac_nf
    rw [iw_len, List.length_map]
    congr 1
    simp
   by_cases h : c < L.length
   ·right
    obtain ⟨t, ht⟩ : ∃ t, L[c]? = some t := ⟨L[c], by simp [h]⟩
    obtain ⟨H', L', s6', s7', e1, f1, b1, hc1⟩ := outer1 (s0 := some (.ref si)) (s4 := some (.int 0)) (s6 := s6) (s7 := s7) hw hG f b ht
    have := b.len
    refine ⟨H, by rw [et, decide_eq_true h], _, H', e1, _, .inl rfl, k - 1, by omega, L', s6', s7', c + 1, rfl, f1, b1, by omega, hc1⟩
   ·left
    exact ⟨H, by rw [et, decide_eq_false h], L, s6, s7, c, rfl, f, b, by omega⟩)
  G.length _ H1 ⟨[] ++ [⟨0, none, 0⟩], none, none, 0, rfl, f1, Bf.start G hG.pos, by omega, Nat.zero_le _⟩
 refine bseq e ?_
 exact ⟨ph.length, H', L, rfl, f.ex, f.d, hcl ▸ b⟩
def EntW (H : PH) (i lo hi : Nat) (e : Option (List W)) (w : W) : Prop := match e with
 | none => w = .non
 | some c => ∃ r, w = .ref r /\ lo <= r /\ r < hi /\ r ≠ i /\ H[r]? = some (.lst c)
structure TbW (H : PH) (i lo hi : Nat) (ws : List W) (E : List (Option (List W))) : Prop where
 at_ : H[i]? = some (.lst ws)
 len : ws.length = E.length
 li : lo <= i
 ih : i < hi
 ent : ∀ (k : Nat) w e, ws[k]? = some w -> E[k]? = some e -> EntW H i lo hi e w
 inj : ∀ (k k' r : Nat), ws[k]? = some (.ref r) -> ws[k']? = some (.ref r) -> k = k'
def Tb (H : PH) (i lo hi : Nat) (E : List (Option (List W))) : Prop := ∃ ws, TbW H i lo hi ws E
theorem EntW.mono {H H' : PH} {i lo hi lo' hi' : Nat} {e : Option (List W)} {w : W} (h : EntW H i lo hi e w) (k : ∀ j, lo <= j -> j < hi -> H'[j]? = H[j]?) (h1 : lo' <= lo) (h2 : hi <= hi') : EntW H' i lo' hi' e w := by
 cases e with
 | none => exact h
 | some c => obtain ⟨r, e1, e2, e3, e4, e5⟩ := h; exact ⟨r, e1, by omega, by omega, e4, by rw [k r e2 e3]; exact e5⟩
theorem Tb.mono {H H' : PH} {i lo hi : Nat} {E : List (Option (List W))} (t : Tb H i lo hi E) (k : ∀ j, lo <= j -> j < hi -> H'[j]? = H[j]?) : Tb H' i lo hi E := by
 obtain ⟨ws, t⟩ := t
 exact ⟨ws, by rw [k i t.li t.ih]; exact t.at_, t.len, t.li, t.ih, fun j w e a b => (t.ent j w e a b).mono k (Nat.le_refl _) (Nat.le_refl _), t.inj⟩
theorem ex_eq {H H' : PH} (x : Ex H H') {hi : Nat} (h : hi <= H.length) : ∀ j, j < hi -> H'[j]? = H[j]? := fun j hj => by
 obtain ⟨m, rfl⟩ := x
 rw [List.getElem?_append_left (by omega)]
theorem Tb.ex {H H' : PH} {i lo hi : Nat} {E : List (Option (List W))} (t : Tb H i lo hi E) (x : Ex H H') (h : hi <= H.length) : Tb H' i lo hi E := t.mono fun j _ hj => ex_eq x h j hj
theorem Tb.get {H : PH} {i lo hi k : Nat} {E : List (Option (List W))} {e : Option (List W)} (t : Tb H i lo hi E) (h : E[k]? = some e) : ∃ w, lift (ixV (.ref i) (.int (k : Int))) H = .ok w H /\ EntW H i lo hi e w := by
 obtain ⟨ws, t⟩ := t
 have hk : k < ws.length := by rw [t.len]; exact (List.getElem?_eq_some_iff.mp h).1
 obtain ⟨w, hw⟩ : ∃ w, ws[k]? = some w := ⟨ws[k], by simp [hk]⟩
 exact ⟨w, ixv_ref t.at_ (by rw [atI_nat _ _ hk]; exact hw), t.ent k w e hw h⟩
theorem Tb.put {H : PH} {i lo hi k : Nat} {E : List (Option (List W))} {c : List W} (t : Tb H i lo hi E) (h : E[k]? = some (some c)) : ∃ r, lift (ixV (.ref i) (.int (k : Int))) H = .ok (.ref r) H /\ H[r]? = some (.lst c) /\ lo <= r /\ r < hi /\ r ≠ i /\ ∀ c', Tb (H.set r (.lst c')) i lo hi (E.set k (some c')) := by
 obtain ⟨ws, t⟩ := t
 have hk : k < ws.length := by rw [t.len]; exact (List.getElem?_eq_some_iff.mp h).1
 obtain ⟨w, hw⟩ : ∃ w, ws[k]? = some w := ⟨ws[k], by simp [hk]⟩
 obtain ⟨r, rfl, h1, h2, h3, h4⟩ := t.ent k w _ hw h
 refine ⟨r, ixv_ref t.at_ (by rw [atI_nat _ _ hk]; exact hw), h4, h1, h2, h3, fun c' => ⟨ws, by rw [set_ne h3]; exact t.at_, by rw [List.length_set]; exact t.len, t.li, t.ih, fun j w' e a b => ?_, t.inj⟩⟩
 by_cases hj : j = k
 ·subst hj
  rw [hw] at a
  cases a
  rw [List.getElem?_set_self (by rw [<- t.len]; exact hk)] at b
  cases b
  exact ⟨r, rfl, h1, h2, h3, set_eq h4⟩
 ·rw [List.getElem?_set_ne (Ne.symm hj)] at b
  have q := t.ent j w' e a b
  cases e with
  | none => exact q
  | some c2 =>
   obtain ⟨r', rfl, q1, q2, q3, q4⟩ := q
   refine ⟨r', rfl, q1, q2, q3, ?_⟩
   rw [set_ne (fun z => hj (t.inj j k r (by rw [z]; exact a) hw))]
   exact q4
theorem app_at {α : Type} {l : List α} {x y : α} {i : Nat} (h : (l ++ [x])[i]? = some y) : (i < l.length /\ l[i]? = some y) \/ (i = l.length /\ y = x) := by
 by_cases hi : i < l.length
 ·rw [List.getElem?_append_left hi] at h
  exact .inl ⟨hi, h⟩
 ·have := (List.getElem?_eq_some_iff.mp h).1
  simp at this
  have : i = l.length := by omega
  subst this
  rw [List.getElem?_concat_length] at h
  cases h
  exact .inr ⟨rfl, rfl⟩
theorem comp_tb {α : Type} (as : List α) (h : α -> W) {im : IM} {cap : List (Option Nat)} {g : GM} {e : EM} {σ : PSt} {ph ph0 : PH} {chk : PH -> Bool} (him : im σ ph0 = .ok (as.map h, chk) ph) (hck : ∀ ph', Ex ph ph' -> chk ph' = true) (hz : as.length <= 1000)
    (P : Nat -> Option (List W) -> Prop) (S : PSt -> Prop) (h0 : S (capP cap σ))
    (step : ∀ j x, as[j]? = some x -> ∀ σ H, S σ -> Ex ph H -> ph.length < H.length -> ∃ σ1, g (h x) σ H = .ok σ1 H /\ S σ1 /\ ∃ w H2 c, e σ1 H = .ok w H2 /\ Ex H H2 /\ P j c /\ EntW H2 ph.length H.length H2.length c w) :
    ∃ ph' E, eComp im cap g cTrue e σ ph0 = .ok (.ref ph.length) ph' /\ Ex ph ph' /\ E.length = as.length /\ (∀ j c, E[j]? = some c -> P j c) /\ Tb ph' ph.length ph.length ph'.length E := by
  rw [eComp_ap, bnd_ok him]
  obtain ⟨acc', σ', ph', ec, hS, x1, x2, x3, x5, E, x6, x7, x4⟩ := compG_run (chk := chk) (g := g) (c := cTrue) (e := e) ph.length
    (fun k acc σ H => S σ /\ Ex ph H /\ H[ph.length]? = some (.lst acc) /\ acc.length = k /\ (∀ (a b r : Nat), acc[a]? = some (.ref r) -> acc[b]? = some (.ref r) -> a = b) /\
      ∃ E : List (Option (List W)), E.length = k /\ (∀ (j : Nat) c, E[j]? = some c -> P j c) /\ ∀ (j : Nat) w c, acc[j]? = some w -> E[j]? = some c -> EntW H ph.length ph.length H.length c w)
    (as.map h) 0 [] (capP cap σ) (ph ++ [.lst []]) (fun j acc σ H hI => hck _ hI.2.1)
    (fun j y acc σ H hj hI => by
      rw [Nat.zero_add] at hI ⊢
      obtain ⟨hS, x1, x2, x3, x5, E, x6, x7, x4⟩ := hI
      rw [List.getElem?_map] at hj
      obtain ⟨x, hx, rfl⟩ := Option.map_eq_some_iff.mp hj
      have hjl := (List.getElem?_eq_some_iff.mp hx).1
      have hpl := lt_of x2
      obtain ⟨σ1, e1, hS1, w, H2, c, e2, y1, hP, y2⟩ := step j x hx σ H hS x1 hpl
      have y1l := y1.len
      have old : ∀ k, ph.length < k -> (H2.set ph.length (.lst (acc ++ [w])))[k]? = H2[k]? := fun k hk => set_ne (by omega)
      have fresh : ∀ {a r : Nat}, acc[a]? = some (.ref r) -> w = .ref r -> False := fun {a r} ha hw => by
        have hal := (List.getElem?_eq_some_iff.mp ha).1
        obtain ⟨ca, hca⟩ : ∃ ca, E[a]? = some ca := ⟨E[a]'(by omega), by simp⟩
        have q := x4 a _ ca ha hca
        subst hw
        cases ca with
        | none => cases q
        | some c0 =>
          obtain ⟨r', q1, q2, q3, _⟩ := q
          cases q1
          cases c with
          | none => cases y2
          | some c2 =>
            obtain ⟨r', z1, z2, _⟩ := y2
            cases z1
            omega
      refine ⟨σ1, H, e1, true, H, rfl, .inr ⟨rfl, w, H2, e2, y1.get x2, Nat.lt_of_lt_of_le (by omega : acc.length < 1001) (by decide), hS1, Ex.set (x1.trans y1) (Nat.le_refl _) _, set_eq (y1.get x2), by simp [x3], fun a b r ha hb => ?_, E ++ [c], by simp [x6], fun i c' hc' => ?_, fun i w' c' hw' hc' => ?_⟩⟩
      · rcases app_at ha with ⟨_, ha1⟩ | ⟨ha0, ha1⟩
        · rcases app_at hb with ⟨_, hb1⟩ | ⟨hb0, hb1⟩
          · exact x5 a b r ha1 hb1
          · exact (fresh ha1 hb1.symm).elim
        · rcases app_at hb with ⟨_, hb1⟩ | ⟨hb0, hb1⟩
          · exact (fresh hb1 ha1.symm).elim
          · rw [ha0, hb0]
      · rcases app_at hc' with ⟨_, z⟩ | ⟨z0, z⟩
        · exact x7 i c' z
        · rw [z, z0, x6]; exact hP
      · rw [List.length_set]
        rcases app_at hw' with ⟨hi, hw1⟩ | ⟨hi, hw1⟩
        · rcases app_at hc' with ⟨_, hc1⟩ | ⟨z, _⟩
          · have q := x4 i w' c' hw1 hc1
            cases c' with
            | none => exact q
            | some c0 =>
              obtain ⟨r, q1, q2, q3, q4, q5⟩ := q
              refine ⟨r, q1, q2, by omega, q4, ?_⟩
              rw [old r (by omega)]
              exact y1.get q5
          · omega
        · rcases app_at hc' with ⟨z, _⟩ | ⟨_, hc1⟩
          · omega
          · rw [hw1, hc1]
            cases c with
            | none => exact y2
            | some c0 =>
              obtain ⟨r, q1, q2, q3, q4, q5⟩ := y2
              exact ⟨r, q1, by omega, q3, q4, by rw [old r (by omega)]; exact q5⟩)
    ⟨h0, Ex.one _ _, get_new _ _, rfl, fun a b r z => by simp at z, [], rfl, fun j c z => by simp at z, fun j w c z => by simp at z⟩
  rw [Nat.zero_add, List.length_map] at x3 x6
  exact ⟨ph', E, bnd_ok ec, x1, x6, x7, acc', x2, by rw [x3, x6], Nat.le_refl _, lt_of x2, x4, x5⟩
theorem noEx_ok {α : Type} {m : Mo α} {ph ph' : PH} {a : α} (h : m ph = .ok a ph') : noEx m ph = .ok a ph' := by
 unfold noEx
 rw [h]
theorem aheads_s {ph : PH} {wi : Nat} {G : List (List Nat)} (hw : Wy ph wi G) (hG : Ok G) : Found ph G (f_aheads [.ref wi] ph) := by
 show Found ph G (bnd (noEx ((eLst (aCons (eC (.int (0))) aNil)) [some (.ref wi)])) (fun w1 => noEx (f_found_from [w1, .fn "aheads" [.ref wi]])) ph)
 have e1 : noEx ((eLst (aCons (eC (.int (0))) aNil)) [some (.ref wi)]) ph = .ok (.ref ph.length) (ph ++ [.lst [.int 0]]) := rfl
 rw [bnd_ok e1]
 obtain ⟨di, ph', L, e, x, h1, h2⟩ := found_s (hw.mono (Ex.one ph (.lst [.int 0]))) hG (get_new ph (.lst [.int 0]))
 exact ⟨di, ph', L, noEx_ok e, (Ex.one _ _).trans x, h1, h2⟩
theorem rng_map (n : Nat) : rngW 0 n = (List.range n).map fun i : Nat => W.int (i : Int) := by
 unfold rngW
 apply List.map_congr_left
 intro i _
 simp
theorem len_wy {ph : PH} {wi : Nat} {G : List (List Nat)} (h : Wy ph wi G) : lift (lenW [.ref wi]) ph = .ok (.int (G.length : Int)) ph := by
 obtain ⟨rs, h1, h2, _⟩ := h
 rw [len_ref h1, List.length_map, h2]
def addO (E : List (List Nat)) (o b : Nat) : List (List Nat) := match E[o]? with
 | some c => E.set o (c ++ [b])
 | none => E
def addG (E : List (List Nat)) (b : Nat) (g : List Nat) : List (List Nat) := g.foldl (fun E o => addO E o b) E
def EE (E : List (List Nat)) : List (Option (List W)) := E.map fun l => some (iw l)
theorem addO_len (E : List (List Nat)) (o b : Nat) : (addO E o b).length = E.length := by
 unfold addO
 split
 ·rw [List.length_set]
 ·rfl
theorem EE_get {E : List (List Nat)} {k : Nat} {c : List Nat} (h : E[k]? = some c) : (EE E)[k]? = some (some (iw c)) := by
 unfold EE
 rw [List.getElem?_map, h]
 rfl
def Sm (E : List (List Nat)) (N : Nat) : Prop := ∀ l ∈ E, l.length <= N
theorem Sm.add {E : List (List Nat)} {N o b : Nat} (h : Sm E N) : Sm (addO E o b) (N + 1) := fun l hl => by
 unfold addO at hl
 split at hl
 ·rename_i c hc
  rcases List.mem_or_eq_of_mem_set hl with z | z
  ·exact Nat.le_succ_of_le (h l z)
  ·rw [z]
   have := h c (List.mem_of_getElem? hc)
   simp
   omega
 ·exact Nat.le_succ_of_le (h l hl)
theorem app_tb {H ph : PH} {i lo hi o b : Nat} {E : List (List Nat)} {N : Nat} (t : Tb H i lo hi (EE E)) (ho : o < E.length) (hN : Sm E N) (hN2 : N < 1000) (x : Ex ph H) (hl : ph.length <= lo) : ∃ r H', lift (ixV (.ref i) (.int (o : Int))) H = .ok (.ref r) H /\ lift (chkT (isL (.ref r))) H = .ok () H /\ lift (appendW (.ref r) [.int (b : Int)]) H = .ok .non H' /\
  Tb H' i lo hi (EE (addO E o b)) /\ Ex ph H' /\ H'.length = H.length /\ ∀ j, (j < lo \/ hi <= j) -> H'[j]? = H[j]? := by
 obtain ⟨c, hc⟩ : ∃ c, E[o]? = some c := ⟨E[o], by simp [ho]⟩
 obtain ⟨r, h1, h2, h3, h4, h5, h6⟩ := t.put (EE_get hc)
 have hz := hN c (List.mem_of_getElem? hc)
 refine ⟨r, _, h1, chk_ref h2, append_ref h2 (by rw [iw_len]; exact Nat.lt_of_lt_of_le (by omega : c.length < 1000) (by decide)) _, ?_, Ex.set x (by omega) _, by rw [List.length_set], fun j hj => set_ne (by omega)⟩
 have := h6 (iw (c ++ [b]))
 rw [iw_app] at this
 unfold addO
 simp only [hc]
 unfold EE at this ⊢
 rw [List.map_set, iw_app]
 exact this
def up (L : List Nat) (n : Nat) : List Nat := (List.range n).filter fun k => decide (k ∈ L)
theorem up_srt {L : List Nat} {n : Nat} (hn : L.Nodup) (hl : ∀ x ∈ L, x < n) : srtI (L.map fun k : Nat => (k : Int)) = (up L n).map fun k : Nat => (k : Int) := by
 refine (srtI_of (List.Perm.map _ ?_) ?_).symm
 ·refine (List.perm_ext_iff_of_nodup (List.Pairwise.filter _ List.nodup_range) hn).mpr fun a => ?_
  rw [List.mem_filter, List.mem_range, decide_eq_true_eq]
  exact ⟨fun h => h.2, fun h => ⟨hl a h, h⟩⟩
 ·exact List.Pairwise.map _ (fun a b h => by omega) (List.Pairwise.filter _ List.pairwise_lt_range)
theorem sort_s {H : PH} {di : Nat} {G : List (List Nat)} {L : List Nd} (b : Ba G L) (hG : Ok G) (hd : H[di]? = some (.dct (ndD L))) : lift (sortW [.ref di]) H = .ok (.ref H.length) (H ++ [.lst (iw (up (ks L) G.length))]) := by
 have h1 : keysA (ndD L) = some (L.map fun x => W.int (x.k : Int)) := by
  unfold keysA
  have : ((ndD L).all fun p => !isT p.1) = true := by
   rw [List.all_eq_true]
   intro p hp
   unfold ndD at hp
   obtain ⟨x, _, rfl⟩ := List.mem_map.mp hp
   rfl
  rw [if_pos this]
  unfold ndD
  rw [List.map_map]
  rfl
 have h2 : mapO inW1 (L.map fun x => W.int (x.k : Int)) = some (L.map fun x => (x.k : Int)) := mapO_map inW1 (fun x : Nd => W.int (x.k : Int)) (fun x : Nd => (x.k : Int)) (fun _ => rfl) L
 have hl := b.len
 have ht := hG.top
 have h3 : sortW [.ref di] H = some (.ref H.length, H ++ [.lst (iw (up (ks L) G.length))]) := by
  unfold sortW
  simp only [dct_d hd, h1, Option.bind_some, h2]
  rw [if_pos (by rw [List.length_map]; omega)]
  have e : (L.map fun x => (x.k : Int)) = (ks L).map fun k : Nat => (k : Int) := by unfold ks; rw [List.map_map]; rfl
  rw [e, up_srt b.nd (fun x hx => by obtain ⟨y, hy, rfl⟩ := List.mem_map.mp hx; exact b.lt y hy)]
  unfold iw
  rw [List.map_map]
  rfl
 unfold lift
 rw [h3]
theorem take_next {α : Type} {l : List α} {m : Nat} {o : α} (e : l[m]? = some o) : l.take (m + 1) = l.take m ++ [o] := by
 rw [List.take_succ, e]
 rfl
def gOf (G : List (List Nat)) (b : Nat) : List Nat := G[b]?.getD []
def fillT (G E : List (List Nat)) (bs : List Nat) : List (List Nat) := bs.foldl (fun E b => addG E b (gOf G b)) E
theorem addG_snoc (E : List (List Nat)) (b o : Nat) (g : List Nat) : addG E b (g ++ [o]) = addO (addG E b g) o b := by unfold addG; rw [List.foldl_append]; rfl
theorem addG_len (E : List (List Nat)) (b : Nat) : ∀ g : List Nat, (addG E b g).length = E.length := by
 intro g
 induction g generalizing E with
 | nil => rfl
 | cons o g ih => exact (ih (addO E o b)).trans (addO_len E o b)
theorem fillT_snoc (G E : List (List Nat)) (b : Nat) (bs : List Nat) : fillT G E (bs ++ [b]) = addG (fillT G E bs) b (gOf G b) := by unfold fillT; rw [List.foldl_append]; rfl
theorem fillT_len (G : List (List Nat)) : ∀ (bs : List Nat) (E : List (List Nat)), (fillT G E bs).length = E.length := by
 intro bs
 induction bs with
 | nil => intro E; rfl
 | cons b bs ih => intro E; exact (ih _).trans (addG_len E b _)
structure Keep (ph H0 H : PH) (i lo hi : Nat) (E : List (List Nat)) (N : Nat) : Prop where
 t : Tb H i lo hi (EE E)
 sm : Sm E N
 ex : Ex ph H
 out : ∀ j, (j < lo \/ hi <= j) -> H[j]? = H0[j]?
 ln : H.length = H0.length
theorem Keep.add {ph H0 H : PH} {i lo hi o b N : Nat} {E : List (List Nat)} (k : Keep ph H0 H i lo hi E N) (ho : o < E.length) (hN : N < 1000) (hl : ph.length <= lo) : ∃ r H', lift (ixV (.ref i) (.int (o : Int))) H = .ok (.ref r) H /\ lift (chkT (isL (.ref r))) H = .ok () H /\ lift (appendW (.ref r) [.int (b : Int)]) H = .ok .non H' /\ Keep ph H0 H' i lo hi (addO E o b) (N + 1) := by
 obtain ⟨r, H', h1, h2, h3, h4, h5, h6, h7⟩ := app_tb (b := b) k.t ho k.sm hN k.ex hl
 exact ⟨r, H', h1, h2, h3, h4, k.sm.add, h5, fun j hj => (h7 j hj).trans (k.out j hj), h6.trans k.ln⟩
theorem EE_rep {n : Nat} {E : List (Option (List W))} (hl : E.length = n) (h : ∀ (j : Nat) c, E[j]? = some c -> c = some []) : E = EE (List.replicate n []) := by
 apply List.ext_getElem?
 intro j
 unfold EE
 rw [List.getElem?_map, List.getElem?_replicate]
 by_cases hj : j < n
 ·obtain ⟨c, hc⟩ : ∃ c, E[j]? = some c := ⟨E[j]'(by omega), by simp⟩
  rw [hc, h j c hc, if_pos hj]
  rfl
 ·rw [if_neg hj, List.getElem?_eq_none (by omega)]
  rfl
theorem empties {ph : PH} {wi : Nat} {G : List (List Nat)} {m : EM} {σ : PSt} (hw : Wy ph wi G) (hG : Ok G) (hm : m σ ph = .ok (.ref wi) ph) : ∃ ph', eComp (iBoth m) [none] (gN 0) cTrue (eLst aNil) σ ph = .ok (.ref ph.length) ph' /\ Ex ph ph' /\ Tb ph' ph.length ph.length ph'.length (EE (List.replicate G.length [])) := by
 obtain ⟨rs, h1, h2, h3⟩ := hw
 have ht := hG.top
 obtain ⟨ph', E, e, x, hE, hP, t⟩ := comp_tb rs W.ref (cap := [none]) (g := gN 0) (e := eLst aNil) (iBoth_ref hm h1) (fun p x => decide_eq_true (x.get h1)) (by omega) (fun _ c => c = some []) (fun σ => ∃ o, σ = [o]) ⟨none, rfl⟩
  (fun j r hj σ H hS y hlt => by
   obtain ⟨o, rfl⟩ := hS
   refine ⟨_, rfl, ⟨_, rfl⟩, .ref H.length, H ++ [.lst []], some [], rfl, Ex.one _ _, rfl, H.length, rfl, Nat.le_refl _, by simp, by omega, get_new _ _⟩)
 refine ⟨ph', e, x, ?_⟩
 rw [<- EE_rep (by rw [hE, h2]) hP]
 exact t
theorem Sm.rep (n : Nat) : Sm (List.replicate n []) 0 := fun l hl => by rw [List.eq_of_mem_replicate hl]; exact Nat.le_refl _
theorem comes_in {ph H0 H : PH} {wi ti lo hi b N : Nat} {G E : List (List Nat)} {o3 : Option W} (hG : Ok G) (hw : Wy ph wi G) (hb : b < G.length) (k : Keep ph H0 H ti lo hi E N) (hE : E.length = G.length) (hN : N + 3 < 1000) (hl : ph.length <= lo) :
  ∃ H' o3' N', lb_comes_2 [some (.ref wi), some (.ref ti), some (.int (b : Int)), o3] H = .ok (.nx [some (.ref wi), some (.ref ti), some (.int (b : Int)), o3']) H' /\ N' <= N + 3 /\ Keep ph H0 H' ti lo hi (addG E b (gOf G b)) N' := by
 obtain ⟨g, hg⟩ : ∃ g, G[b]? = some g := ⟨G[b], by simp [hb]⟩
 have hgo : gOf G b = g := by unfold gOf; rw [hg]; rfl
 have hgm := List.mem_of_getElem? hg
 obtain ⟨r, hr, hrg⟩ := ix_wy hw hg
 have hf := hG.few g hgm
 obtain ⟨σ', H', e, o3', rfl, k'⟩ := forG_inv (chk := fun p => decide (p[r]? = some (.lst (iw g)))) (g := gN 3) (b := lb_comes_1)
  (fun m σ H => ∃ o3', σ = [some (.ref wi), some (.ref ti), some (.int (b : Int)), o3'] /\ Keep ph H0 H ti lo hi (addG E b (g.take m)) (N + m))
  (iw g) [some (.ref wi), some (.ref ti), some (.int (b : Int)), o3] H (fun m σ H ⟨_, _, k⟩ => decide_eq_true (k.ex.get hrg))
  (fun m x σ H hm ⟨o3', e, k⟩ => by
   subst e
   obtain ⟨o, ho, rfl⟩ := iw_get hm
   have hml := (List.getElem?_eq_some_iff.mp ho).1
   obtain ⟨r2, H', h1, h2, h3, k'⟩ := k.add (o := o) (b := b) (by rw [addG_len, hE]; exact hG.lt g hgm o (List.mem_of_getElem? ho)) (by omega) hl
   rw [<- addG_snoc, <- take_next ho] at k'
   refine ⟨_, _, rfl, .nx [some (.ref wi), some (.ref ti), some (.int (b : Int)), some (.int (o : Int))], H', ?_, _, .inl rfl, some (.int (o : Int)), rfl, k'⟩
   unfold lb_comes_1
   ac_nf
   rw [bnd_ok h1, bnd_ok h2, bnd_ok h3]
   rfl)
  ⟨o3, rfl, by rw [List.take_zero]; exact k⟩
 rw [iw_len, List.take_length] at k'
 rw [hgo]
 refine ⟨H', o3', N + g.length, ?_, by omega, k'⟩
 unfold lb_comes_2
 rw [sFor_ok (iBoth_ref (i := r) (by
  rw [eOp_ap]
  show lift (ixV (.ref wi) (.int (b : Int))) H = _
  exact hr H k.ex) (k.ex.get hrg)) e]
theorem comes_s {ph : PH} {wi : Nat} {G : List (List Nat)} (hw : Wy ph wi G) (hG : Ok G) : ∃ (i : Nat) (L : List Nd) (ph' : PH), f_comes [.ref wi] ph = .ok (.ref i) ph' /\ Ex ph ph' /\ Bf G L L.length /\ Tb ph' i ph.length ph'.length (EE (fillT G (List.replicate G.length []) (up (ks L) G.length))) /\ Sm (fillT G (List.replicate G.length []) (up (ks L) G.length)) 900 := by
 obtain ⟨H1, e1, x1, t1⟩ := empties (m := eVar 0) (σ := [some (.ref wi), none, none, none]) hw hG rfl
 obtain ⟨di, H2, L, e2, x2, hd, b⟩ := aheads_s (hw.mono x1) hG
 have e3 := sort_s b.toBa hG hd
 have ht := hG.top
 generalize hup : up (ks L) G.length = bs at e3
 have hbs : ∀ x ∈ bs, x < G.length := fun x hx => by
  rw [<- hup] at hx
  unfold up at hx
  exact List.mem_range.mp (List.mem_filter.mp hx).1
 have hbl : bs.length <= 61 := by
  rw [<- hup]
  unfold up
  have := List.length_filter_le (fun k => decide (k ∈ ks L)) (List.range G.length)
  rw [List.length_range] at this
  omega
 have x3 : Ex H2 (H2 ++ [.lst (iw bs)]) := Ex.one _ _
 have l1 := x1.len
 have l2 := x2.len
 have k0 : Keep ph (H2 ++ [.lst (iw bs)]) (H2 ++ [.lst (iw bs)]) ph.length ph.length H1.length (List.replicate G.length []) 0 :=
  ⟨(t1.ex x2 (Nat.le_refl _)).ex x3 (by omega), Sm.rep _, (x1.trans x2).trans x3, fun _ _ => rfl, rfl⟩
 have hq : (H2 ++ [PO.lst (iw bs)])[H2.length]? = some (.lst (iw bs)) := get_new _ _
 obtain ⟨σ', H', e4, o2, o3, N, rfl, hN, k⟩ := forG_inv (chk := fun p => decide (p[H2.length]? = some (.lst (iw bs)))) (g := gN 2) (b := lb_comes_2)
  (fun j σ H => ∃ o2 o3 N, σ = [some (.ref wi), some (.ref ph.length), o2, o3] /\ N <= 3 * j /\ Keep ph (H2 ++ [.lst (iw bs)]) H ph.length ph.length H1.length (fillT G (List.replicate G.length []) (bs.take j)) N)
  (iw bs) [some (.ref wi), some (.ref ph.length), none, none] (H2 ++ [.lst (iw bs)])
  (fun j σ H ⟨_, _, _, _, _, k⟩ => decide_eq_true (by rw [k.out _ (.inr l2)]; exact hq))
  (fun j x σ H hj ⟨o2, o3, N, e, hN, k⟩ => by
   subst e
   obtain ⟨bb, hb, rfl⟩ := iw_get hj
   have hjl := (List.getElem?_eq_some_iff.mp hb).1
   obtain ⟨H', o3', N', e, hN', k'⟩ := comes_in (o3 := o3) hG hw (hbs bb (List.mem_of_getElem? hb)) k (by rw [fillT_len, List.length_replicate]) (by omega) (Nat.le_refl _)
   rw [<- fillT_snoc, <- take_next hb] at k'
   exact ⟨_, _, rfl, _, _, e, _, .inl rfl, _, o3', N', rfl, by omega, k'⟩)
  ⟨none, none, 0, rfl, Nat.le_refl _, k0⟩
 rw [iw_len] at hN k
 rw [List.take_length] at k
 have kl := k.ln
 refine ⟨ph.length, L, H', ?_, k.ex, b, ?_, fun l hl => Nat.le_trans (k.sm l (by rw [<- hup]; exact hl)) (by omega)⟩
 ·unfold f_comes b_comes
  rw [fM_1]
  refine bseq (P := fun r => r = .ok (.ref ph.length) H') (σ1 := [some (.ref wi), some (.ref ph.length), none, none]) (ph1 := H1) ?_ ?_
  ·exact (bnd_ok e1).trans rfl
  ·refine bseq (P := fun r => r = .ok (.ref ph.length) H') (sFor_ok (iBoth_ref (i := H2.length) ?_ hq) e4) rfl
   ac_nf
   rw [bnd_ok e2]
   ac_nf
   exact e3
 ·rw [hup]
  obtain ⟨ws, t⟩ := k.t
  have hh : H1.length <= H'.length := by rw [kl]; simp; omega
  exact ⟨ws, t.at_, t.len, t.li, by have := t.ih; omega, fun k w c hw hc => (t.ent k w c hw hc).mono (fun _ _ _ => rfl) (Nat.le_refl _) hh, t.inj⟩
inductive RX (G : List (List Nat)) (x : Option Nat) : Nat -> Prop where
 | zero (h : x ≠ some 0) : RX G x 0
 | step {b o : Nat} {g : List Nat} (h : RX G x b) (hg : G[b]? = some g) (ho : o ∈ g) (hx : x ≠ some o) : RX G x o
inductive Pt (G : List (List Nat)) (a : Nat) : Nat -> Nat -> Prop where
 | zero {k : Nat} (h : a ≠ 0) : Pt G a k 0
 | step {k b o : Nat} {g : List Nat} (h : Pt G a k b) (hg : G[b]? = some g) (ho : o ∈ g) (hx : o ≠ a) : Pt G a (k + 1) o
section
variable {G : List (List Nat)}
theorem Pt.up {a k x : Nat} (h : Pt G a k x) : Pt G a (k + 1) x := by
 induction h with
 | zero h => exact .zero h
 | step _ hg ho hx ih => exact .step ih hg ho hx
theorem Pt.le {a k m x : Nat} (h : Pt G a k x) (hm : k <= m) : Pt G a m x := by
 induction m with
 | zero => rw [Nat.le_zero.mp hm] at h; exact h
 | succ m ih =>
  by_cases e : k = m + 1
  ·rw [<- e]; exact h
  ·exact (ih (by omega)).up
theorem Pt.ne {a k x : Nat} (h : Pt G a k x) : x ≠ a := by
 cases h with
 | zero h => exact Ne.symm h
 | step _ _ _ hx => exact hx
theorem Pt.rx {a k x : Nat} (h : Pt G a k x) : RX G (some a) x := by
 induction h with
 | zero h => exact .zero fun z => h (Option.some.inj z)
 | step _ hg ho hx ih => exact .step ih hg ho fun z => hx (Option.some.inj z).symm
theorem RX.pt {a x : Nat} (h : RX G (some a) x) : ∃ k, Pt G a k x := by
 induction h with
 | zero h => exact ⟨0, .zero fun z => h (by rw [z])⟩
 | step _ hg ho hx ih =>
  obtain ⟨k, ih⟩ := ih
  exact ⟨k + 1, .step ih hg ho fun z => hx (by rw [z])⟩
theorem RX.none {x : Option Nat} {k : Nat} (h : RX G x k) : RX G none k := by
 induction h with
 | zero h => exact .zero (fun z => nomatch z)
 | step _ hg ho hx ih => exact .step ih hg ho (fun z => nomatch z)
theorem Pt.via {a k x : Nat} (v : Nat) (h : Pt G a k x) : Pt G v k x \/ Pt G a k v := by
 induction h with
 | zero h =>
  by_cases hv : v = 0
  ·subst hv; exact .inr (.zero h)
  ·exact .inl (.zero hv)
 | step h hg ho hx ih =>
  rcases ih with ih | ih
  ·rename_i k b o g
   by_cases hv : o = v
   ·subst hv; exact .inr (.step h hg ho hx)
   ·exact .inl (.step ih hg ho hv)
  ·exact .inr ih.up
theorem enough (n : Nat) : ∃ K, ∀ a x, a < n -> x < n -> RX G (some a) x -> Pt G a K x := by
 have row : ∀ a m, ∃ K, ∀ x, x < m -> RX G (some a) x -> Pt G a K x := fun a m => by
  induction m with
  | zero => exact ⟨0, fun x h => absurd h (Nat.not_lt_zero _)⟩
  | succ m ih =>
   obtain ⟨K, hK⟩ := ih
   by_cases h : RX G (some a) m
   ·obtain ⟨k, hk⟩ := h.pt
    refine ⟨max K k, fun x hx hr => ?_⟩
    by_cases e : x = m
    ·subst e; exact hk.le (Nat.le_max_right _ _)
    ·exact (hK x (by omega) hr).le (Nat.le_max_left _ _)
   ·refine ⟨K, fun x hx hr => ?_⟩
    by_cases e : x = m
    ·subst e; exact absurd hr h
    ·exact hK x (by omega) hr
 have all : ∀ m, ∃ K, ∀ a x, a < m -> x < n -> RX G (some a) x -> Pt G a K x := fun m => by
  induction m with
  | zero => exact ⟨0, fun a x h => absurd h (Nat.not_lt_zero _)⟩
  | succ m ih =>
   obtain ⟨K, hK⟩ := ih
   obtain ⟨K2, hK2⟩ := row m n
   refine ⟨max K K2, fun a x ha hx hr => ?_⟩
   by_cases e : a = m
   ·subst e; exact (hK2 x hx hr).le (Nat.le_max_right _ _)
   ·exact (hK a x (by omega) hx hr).le (Nat.le_max_left _ _)
 exact all n
def Dom (G : List (List Nat)) (d b : Nat) : Prop := ¬ RX G (some d) b
theorem Dom.self (b : Nat) : Dom G b b := fun h => by
 cases h with
 | zero h => exact h rfl
 | step _ _ _ h => exact h rfl
theorem Dom.zero {d : Nat} (h : Dom G d 0) : d = 0 := by
 by_cases z : d = 0
 ·exact z
 ·exact absurd (RX.zero fun y => z (Option.some.inj y)) h
structure Od (G : List (List Nat)) (q : List Nat) : Prop where
 nd : q.Nodup
 zero : q[0]? = some 0
 lt : ∀ b ∈ q, b < G.length
 closed : ∀ b ∈ q, ∀ (g : List Nat), G[b]? = some g -> ∀ o ∈ g, o ∈ q
 par : ∀ b ∈ q, b ≠ 0 -> ∃ p ∈ q, q.idxOf p < q.idxOf b /\ ∃ g, G[p]? = some g /\ b ∈ g
abbrev rk (q : List Nat) (b : Nat) : Nat := q.idxOf b
theorem rk_at {q : List Nat} {b : Nat} (h : b ∈ q) : q[rk q b]? = some b := by
 have := List.idxOf_lt_length_of_mem h
 rw [List.getElem?_eq_getElem this, List.getElem_idxOf]
theorem rk_inj {q : List Nat} {a b : Nat} (ha : a ∈ q) (hb : b ∈ q) (h : rk q a = rk q b) : a = b := by
 have h1 := rk_at ha
 rw [h, rk_at hb] at h1
 exact (Option.some.inj h1).symm
theorem rk_of {q : List Nat} (hn : q.Nodup) {i b : Nat} (h : q[i]? = some b) : rk q b = i := by
 obtain ⟨h1, rfl⟩ := List.getElem?_eq_some_iff.mp h
 exact hn.idxOf_getElem i h1
theorem Od.z {q : List Nat} (o : Od G q) : 0 ∈ q /\ rk q 0 = 0 := ⟨List.mem_of_getElem? o.zero, rk_of o.nd o.zero⟩
theorem Od.pos {q : List Nat} (o : Od G q) {b : Nat} (h : b ∈ q) : rk q b = 0 ↔ b = 0 := ⟨fun z => rk_inj h o.z.1 (z.trans o.z.2.symm), fun z => by rw [z]; exact o.z.2⟩
theorem Od.rx {q : List Nat} (o : Od G q) {x : Option Nat} {k : Nat} (h : RX G x k) : k ∈ q := by
 induction h with
 | zero _ => exact o.z.1
 | step _ hg ho _ ih => exact o.closed _ ih _ hg _ ho
abbrev Tl := List (Option Nat)
inductive Anc (t : Tl) (a : Nat) : Nat -> Prop where
 | refl : Anc t a a
 | up {x y : Nat} (h : t[x]? = some (some y)) (r : Anc t a y) : Anc t a x
theorem Anc.trans {t : Tl} {a b c : Nat} (h : Anc t a b) (k : Anc t b c) : Anc t a c := by
 induction k with
 | refl => exact h
 | up e _ ih => exact .up e ih
def Pr (t : Tl) (b : Nat) : Prop := b = 0 \/ ∃ g, t[b]? = some (some g)
structure Tr (G : List (List Nat)) (q : List Nat) (t : Tl) : Prop where
 len : t.length = G.length
 good : ∀ (b g : Nat), t[b]? = some (some g) -> b ∈ q /\ b ≠ 0 /\ g ∈ q /\ rk q g < rk q b
 pr : ∀ (b g : Nat), t[b]? = some (some g) -> Pr t g
 lp : ∀ (b g : Nat), t[b]? = some (some g) -> ∀ d, d ≠ b -> Dom G d b -> Dom G d g
variable {q : List Nat} {t : Tl}
theorem Tr.rank (T : Tr G q t) {a x : Nat} (h : Anc t a x) (hx : x ∈ q) : a ∈ q /\ rk q a <= rk q x := by
 induction h with
 | refl => exact ⟨hx, Nat.le_refl _⟩
 | up e _ ih =>
  obtain ⟨_, _, h3, h4⟩ := T.good _ _ e
  obtain ⟨i1, i2⟩ := ih h3
  exact ⟨i1, by omega⟩
theorem Tr.dom (T : Tr G q t) {d : Nat} : ∀ (n : Nat) {x : Nat}, rk q x <= n -> x ∈ q -> Pr t x -> Dom G d x -> Anc t d x := by
 intro n
 induction n using Nat.strongRecOn with
 | ind n ih =>
  intro x hn hx hp hd
  rcases hp with rfl | ⟨g, hg⟩
  ·rw [hd.zero]; exact .refl
  ·by_cases e : d = x
   ·subst e; exact .refl
   ·obtain ⟨_, _, h3, h4⟩ := T.good _ _ hg
    exact .up hg (ih (rk q g) (by omega) (Nat.le_refl _) h3 (T.pr _ _ hg) (T.lp _ _ hg d e hd))
structure Mt (G : List (List Nat)) (q : List Nat) (t : Tl) (ps : List Nat) (z : Nat) : Prop where
 mem : z ∈ q
 pr : Pr t z
 anc : ∀ p ∈ ps, Pr t p -> Anc t z p
 dom : ∀ d, (∀ p ∈ ps, Pr t p -> Dom G d p) -> Dom G d z
theorem Tr.move (T : Tr G q t) (o : Od G q) {one other : Nat} (h1 : one ∈ q) (h2 : other ∈ q) (p1 : Pr t one) (p2 : Pr t other) (h : rk q other < rk q one) : ∃ g, t[one]? = some (some g) /\ g ∈ q /\ Pr t g /\ rk q g < rk q one /\ ∀ d, Dom G d one -> Dom G d other -> Dom G d g := by
 rcases p1 with rfl | ⟨g, hg⟩
 ·rw [o.z.2] at h; exact absurd h (Nat.not_lt_zero _)
 ·obtain ⟨_, _, h3, h4⟩ := T.good _ _ hg
  refine ⟨g, hg, h3, T.pr _ _ hg, h4, fun d d1 d2 => ?_⟩
  by_cases e : d = one
  ·subst e
   have := (T.rank (T.dom _ (Nat.le_refl _) h2 p2 d2) h2).2
   omega
  ·exact T.lp _ _ hg d e d1
theorem Tr.low (T : Tr G q t) {v a x : Nat} {w : Option Nat} (h : Anc (t.set v w) a x) (hx : x ∈ q) (hl : rk q x < rk q v) : Anc t a x := by
 induction h with
 | refl => exact .refl
 | up e r0 ih =>
  rename_i x y
  have ne : v ≠ x := fun z => by subst z; exact Nat.lt_irrefl _ hl
  rw [List.getElem?_set_ne ne] at e
  obtain ⟨_, _, h3, h4⟩ := T.good _ _ e
  exact .up e (ih h3 (by omega))
theorem Tr.chain (T : Tr G q t) {v a x g : Nat} (hv : v ∈ q) (hg : g ∈ q) (hr : rk q g < rk q v) (h : Anc (t.set v (some g)) a x) : Anc t a x \/ (Anc t v x /\ Anc t a g) := by
 induction h with
 | refl => exact .inl .refl
 | up e r ih =>
  rename_i x y
  by_cases ne : v = x
  ·subst ne
   have hl : v < t.length := by
    have := (List.getElem?_eq_some_iff.mp e).1
    rw [List.length_set] at this
    exact this
   rw [List.getElem?_set_self hl] at e
   cases e
   exact .inr ⟨.refl, T.low r hg hr⟩
  ·rw [List.getElem?_set_ne ne] at e
   rcases ih with ih | ⟨i1, i2⟩
   ·exact .inl (.up e ih)
   ·exact .inr ⟨.up e i1, i2⟩
theorem Tr.set (T : Tr G q t) (o : Od G q) {v g : Nat} {ps : List Nat} (hv : v ∈ q) (h0 : v ≠ 0) (hp : ∀ p, p ∈ ps ↔ p ∈ q /\ ∃ g, G[p]? = some g /\ v ∈ g) (m : Mt G q t ps g) (par : ∃ p ∈ ps, Pr t p /\ rk q p < rk q v) : Tr G q (t.set v (some g)) /\ rk q g < rk q v := by
 obtain ⟨p, p1, p2, p3⟩ := par
 have hr : rk q g < rk q v := Nat.lt_of_le_of_lt (T.rank (m.anc p p1 p2) ((hp p).mp p1).1).2 p3
 have hvl : v < t.length := by rw [T.len]; exact o.lt v hv
 have keep : ∀ {b : Nat}, Pr t b -> Pr (t.set v (some g)) b := fun {b} h => by
  rcases h with h | ⟨w, h⟩
  ·exact .inl h
  ·by_cases e : v = b
   ·subst e; exact .inr ⟨g, List.getElem?_set_self hvl⟩
   ·exact .inr ⟨w, by rw [List.getElem?_set_ne e]; exact h⟩
 have at_ : ∀ {b w : Nat}, (t.set v (some g))[b]? = some (some w) -> (b = v /\ w = g) \/ t[b]? = some (some w) := fun {b w} h => by
  by_cases e : v = b
  ·subst e
   rw [List.getElem?_set_self hvl] at h
   cases h
   exact .inl ⟨rfl, rfl⟩
  ·rw [List.getElem?_set_ne e] at h
   exact .inr h
 refine ⟨⟨by rw [List.length_set]; exact T.len, fun b w h => ?_, fun b w h => ?_, fun b w h d hd hD => ?_⟩, hr⟩
 ·rcases at_ h with ⟨rfl, rfl⟩ | h
  ·exact ⟨hv, h0, m.mem, hr⟩
  ·exact T.good b w h
 ·rcases at_ h with ⟨rfl, rfl⟩ | h
  ·exact keep m.pr
  ·exact keep (T.pr b w h)
 ·rcases at_ h with ⟨rfl, rfl⟩ | h
  ·refine m.dom d fun p hpm _ hx => ?_
   obtain ⟨_, g', hg', hb⟩ := (hp p).mp hpm
   exact hD (.step hx hg' hb fun z => hd (Option.some.inj z))
  ·exact T.lp b w h d hd hD
def AP (G : List (List Nat)) (q : List Nat) (t : Tl) (k : Nat) : Prop := ∀ a x, x ∈ q -> Anc t a x -> ¬ Pt G a k x
theorem Tr.ap0 (T : Tr G q t) : AP G q t 0 := fun a x hx h hp => by
 cases hp with
 | zero h0 =>
  cases h with
  | refl => exact h0 rfl
  | up e _ => exact (T.good _ _ e).2.1 rfl
theorem Tr.apV (T : Tr G q t) (o : Od G q) {v g k : Nat} {ps : List Nat} (hv : v ∈ q) (h0 : v ≠ 0) (hp : ∀ p, p ∈ ps ↔ p ∈ q /\ ∃ g, G[p]? = some g /\ v ∈ g) (m : Mt G q t ps g) (hr : rk q g < rk q v) (all : ∀ b ∈ q, Pr t b) (ap : AP G q t k) : ∀ a, Anc (t.set v (some g)) a v -> ¬ Pt G a (k + 1) v := fun a h hP => by
 have key : Anc t a g -> False := fun hg => by
  cases hP with
  | zero _ => exact h0 rfl
  | step hb hgb hob hx0 =>
   rename_i b gb
   have hbq := o.rx hb.rx
   exact ap a b hbq (hg.trans (m.anc b ((hp b).mpr ⟨hbq, gb, hgb, hob⟩) (all b hbq))) hb
 rcases T.chain hv m.mem hr h with h1 | ⟨_, h2⟩
 ·cases h with
  | refl => exact hP.ne rfl
  | up e r =>
   rw [List.getElem?_set_self (by rw [T.len]; exact o.lt v hv)] at e
   cases e
   exact key (T.low r m.mem hr)
 ·exact key h2
theorem Tr.apX (T : Tr G q t) (o : Od G q) {v g k : Nat} {ps : List Nat} (hv : v ∈ q) (h0 : v ≠ 0) (hp : ∀ p, p ∈ ps ↔ p ∈ q /\ ∃ g, G[p]? = some g /\ v ∈ g) (m : Mt G q t ps g) (hr : rk q g < rk q v) (all : ∀ b ∈ q, Pr t b) (ap : AP G q t k) : AP G q (t.set v (some g)) k := fun a x hx h hP => by
 rcases T.chain hv m.mem hr h with h1 | ⟨h1, h2⟩
 ·exact ap a x hx h1 hP
 ·have hvl : v < t.length := by rw [T.len]; exact o.lt v hv
  rcases hP.via v with h3 | h3
  ·exact ap v x hx h1 h3
  ·refine T.apV o hv h0 hp m hr all ap a (.up (List.getElem?_set_self hvl) ?_) h3.up
   have : ∀ {y : Nat}, Anc t a y -> y ∈ q -> rk q y < rk q v -> Anc (t.set v (some g)) a y := fun {y} r => by
    induction r with
    | refl => intro _ _; exact .refl
    | up e r0 ih =>
     rename_i y z
     intro hy hl
     obtain ⟨_, _, g3, g4⟩ := T.good _ _ e
     exact .up (by rw [List.getElem?_set_ne (fun w => by subst w; exact Nat.lt_irrefl _ hl)]; exact e) (ih g3 (by omega))
   exact this h2 m.mem hr
theorem Tr.stay (T : Tr G q t) (o : Od G q) {v g g0 K : Nat} {ps : List Nat} (hK : ∀ a x, a < G.length -> x < G.length -> RX G (some a) x -> Pt G a K x) (hv : v ∈ q) (h0 : v ≠ 0) (hp : ∀ p, p ∈ ps ↔ p ∈ q /\ ∃ g, G[p]? = some g /\ v ∈ g) (m : Mt G q t ps g) (hr : rk q g < rk q v) (all : ∀ b ∈ q, Pr t b) (ap : AP G q t K) (hg0 : t[v]? = some (some g0)) : g = g0 := by
 have ad : ∀ {a x : Nat}, x ∈ q -> Anc t a x -> Dom G a x := fun {a x} hx h hR => ap a x hx h (hK a x (o.lt a (T.rank h hx).1) (o.lt x hx) hR)
 obtain ⟨_, _, hq0, hr0⟩ := T.good _ _ hg0
 have d1 : Dom G g v := fun hR => by
  cases hR with
  | zero _ => exact h0 rfl
  | step hb hgb hob hx0 =>
   rename_i b gb
   have hbq := o.rx hb
   exact ad hbq (m.anc b ((hp b).mpr ⟨hbq, gb, hgb, hob⟩) (all b hbq)) hb
 have n1 : g ≠ v := fun z => by subst z; exact Nat.lt_irrefl _ hr
 have n2 : g0 ≠ v := fun z => by subst z; exact Nat.lt_irrefl _ hr0
 have a1 := T.rank (T.dom _ (Nat.le_refl _) hq0 (T.pr _ _ hg0) (T.lp _ _ hg0 g n1 d1)) hq0
 have d2 : Dom G g0 v := ad hv (.up hg0 .refl)
 have d3 : Dom G g0 g := m.dom g0 fun p hpm _ hx => by
  obtain ⟨_, g', hg', hb⟩ := (hp p).mp hpm
  exact d2 (.step hx hg' hb fun z => n2 (Option.some.inj z))
 have a2 := T.rank (T.dom _ (Nat.le_refl _) m.mem m.pr d3) m.mem
 exact rk_inj m.mem hq0 (by omega)
structure Fin (G : List (List Nat)) (q : List Nat) (t : Tl) : Prop where
 tr : Tr G q t
 all : ∀ b ∈ q, Pr t b
 fix : ∀ (b g : Nat), t[b]? = some (some g) -> ∀ p ∈ q, ∀ gp, G[p]? = some gp -> b ∈ gp -> Anc t g p
theorem Fin.none (F : Fin G q t) (o : Od G q) {d v : Nat} (h : RX G (some d) v) : ¬ Anc t d v := by
 induction h with
 | zero h =>
  intro hA
  cases hA with
  | refl => exact h rfl
  | up e _ => exact (F.tr.good _ _ e).2.1 rfl
 | step hb hg ho hx ih =>
  intro hA
  cases hA with
  | refl => exact hx rfl
  | up e r => exact ih (r.trans (F.fix _ _ e _ (o.rx hb) _ hg ho))
theorem Fin.gate (F : Fin G q t) (o : Od G q) {b g : Nat} (h : t[b]? = some (some g)) : Dom G g b := fun hR => F.none o hR (.up h .refl)
theorem Fin.same {q' : List Nat} {t' : Tl} (F : Fin G q t) (o : Od G q) (F' : Fin G q' t') (o' : Od G q') (hq : ∀ k, k ∈ q ↔ k ∈ q') : t = t' := by
 apply List.ext_getElem?
 intro b
 by_cases hb : b < G.length
 ·obtain ⟨x, hx⟩ : ∃ x, t[b]? = some x := ⟨t[b]'(by rw [F.tr.len]; exact hb), by simp⟩
  obtain ⟨y, hy⟩ : ∃ y, t'[b]? = some y := ⟨t'[b]'(by rw [F'.tr.len]; exact hb), by simp⟩
  rw [hx, hy]
  cases x with
  | none =>
   cases y with
   | none => rfl
   | some g =>
    obtain ⟨h1, h2, _⟩ := F'.tr.good _ _ hy
    rcases F.all b ((hq b).mpr h1) with z | ⟨w, hw⟩
    ·exact absurd z h2
    ·rw [hx] at hw; cases hw
  | some g =>
   obtain ⟨h1, h2, h3, h4⟩ := F.tr.good _ _ hx
   cases y with
   | none =>
    rcases F'.all b ((hq b).mp h1) with z | ⟨w, hw⟩
    ·exact absurd z h2
    ·rw [hy] at hw; cases hw
   | some g' =>
    obtain ⟨_, _, h3', h4'⟩ := F'.tr.good _ _ hy
    have n1 : g ≠ b := fun z => by subst z; exact Nat.lt_irrefl _ h4
    have n2 : g' ≠ b := fun z => by subst z; exact Nat.lt_irrefl _ h4'
    have d1 := F'.tr.lp _ _ hy g n1 (F.gate o hx)
    have d2 := F.tr.lp _ _ hx g' n2 (F'.gate o' hy)
    have m' : g' ∈ q := (hq g').mpr h3'
    have a1 := F.tr.rank (F.tr.dom _ (Nat.le_refl _) m' (F.all g' m') d1) m'
    have a2 := F.tr.rank (F.tr.dom _ (Nat.le_refl _) h3 (F.all g h3) d2) h3
    rw [rk_inj h3 m' (by omega)]
 ·rw [List.getElem?_eq_none (by rw [F.tr.len]; omega), List.getElem?_eq_none (by rw [F'.tr.len]; omega)]
end
def rkD (q : List Nat) : List (W × W) := q.map fun b : Nat => (W.int (b : Int), W.int (rk q b : Int))
theorem okR (q : List Nat) (k : Int) : okKey (rkD q) (.int k) = true := by
 unfold okKey rkD
 rw [Bool.or_eq_true]
 left
 simp [keyK, isT]
theorem dget_fn (f : Nat -> W) : ∀ {l : List Nat} {b : Nat}, b ∈ l -> dgetW (l.map fun b : Nat => (W.int (b : Int), f b)) (.int (b : Int)) = some (f b)
 | c :: l, b, h => by
  have ih := dget_fn f (l := l) (b := b)
  unfold dgetW at ih ⊢
  rw [List.map_cons, List.find?_cons]
  by_cases e : c = b
  ·subst e; simp
  ·have : decide (W.int (c : Int) = W.int (b : Int)) = false := decide_eq_false fun z => e (by have := W.int.inj z; omega)
   simp only [this]
   exact ih (by rcases List.mem_cons.mp h with z | z; exact absurd z.symm e; exact z)
structure Gt (G : List (List Nat)) (q : List Nat) (t : Tl) (H : PH) (ti ri : Nat) : Prop where
 T : Tr G q t
 o : Od G q
 t : H[ti]? = some (.lst (t.map pw))
 r : H[ri]? = some (.dct (rkD q))
section
variable {G : List (List Nat)} {q : List Nat} {t : Tl} {H : PH} {ti ri : Nat}
theorem Gt.rank (g : Gt G q t H ti ri) {b : Nat} (h : b ∈ q) : lift (ixV (.ref ri) (.int (b : Int))) H = .ok (.int (rk q b : Int)) H := ixv_dct g.r (okR q _) (dget_fn _ h)
theorem Gt.told (g : Gt G q t H ti ri) {b : Nat} {w : Option Nat} (h : t[b]? = some w) : lift (ixV (.ref ti) (.int (b : Int))) H = .ok (pw w) H := by
 have hb := (List.getElem?_eq_some_iff.mp h).1
 exact ixv_ref g.t (by rw [atI_nat _ _ (by rw [List.length_map]; exact hb), List.getElem?_map, h]; rfl)
theorem meet_s (g : Gt G q t H ti ri) {x y : Nat} (hx : x ∈ q) (hy : y ∈ q) (px : Pr t x) (py : Pr t y) : ∃ z : Nat, f_meeting [.ref ti, .ref ri, .int (x : Int), .int (y : Int)] H = .ok (.int (z : Int)) H /\ z ∈ q /\ Pr t z /\ Anc t z x /\ Anc t z y /\ ∀ d, Dom G d x -> Dom G d y -> Dom G d z := by
  obtain ⟨σ', H', e, z, rfl, rfl, hz⟩ := while_inv (t := eT (eOp neW (eVar 2) (eVar 3))) (b := lb_meeting_1)
    (fun k σ H1 => ∃ one other, σ = [some (.ref ti), some (.ref ri), some (.int ((one : Nat) : Int)), some (.int ((other : Nat) : Int))] /\ H = H1 /\ k = rk q one + rk q other /\ one ∈ q /\ other ∈ q /\ Pr t one /\ Pr t other /\ Anc t one x /\ Anc t other y /\ ∀ d, Dom G d x -> Dom G d y -> Dom G d one /\ Dom G d other)
    (fun σ H1 => ∃ z, σ = [some (.ref ti), some (.ref ri), some (.int ((z : Nat) : Int)), some (.int ((z : Nat) : Int))] /\ H = H1 /\ z ∈ q /\ Pr t z /\ Anc t z x /\ Anc t z y /\ ∀ d, Dom G d x -> Dom G d y -> Dom G d z)
    (fun k σ H1 ⟨one, other, e, e2, hk, h1, h2, p1, p2, a1, a2, dm⟩ => by
      subst e
      subst e2
      have et : eT (eOp neW (eVar 2) (eVar 3)) [some (.ref ti), some (.ref ri), some (.int ((one : Nat) : Int)), some (.int ((other : Nat) : Int))] H = .ok (!decide ((one : Int) = (other : Int))) H := by ac_nf
      by_cases eq : one = other
      · left
        subst eq
        exact ⟨H, by rw [et]; simp, one, rfl, rfl, h1, p1, a1, a2, fun d d1 d2 => (dm d d1 d2).1⟩
      · right
        have ne : ¬ (one : Int) = (other : Int) := fun z => eq (by omega)
        refine ⟨H, by rw [et, decide_eq_false ne]; rfl, ?_⟩
        by_cases hr : rk q other < rk q one
        · obtain ⟨w, g1, g2, g3, g4, g5⟩ := g.T.move g.o h1 h2 p1 p2 hr
          refine ⟨.nx [some (.ref ti), some (.ref ri), some (.int (w : Int)), some (.int (other : Int))], H, ?_, _, .inl rfl, rk q w + rk q other, by omega, w, other, rfl, rfl, rfl, g2, h2, g3, p2, (Anc.up g1 .refl).trans a1, a2, fun d d1 d2 => ⟨g5 d (dm d d1 d2).1 (dm d d1 d2).2, (dm d d1 d2).2⟩⟩
          unfold lb_meeting_1
          ac_nf
          rw [bnd_ok (g.rank h1), bnd_ok (g.rank h2)]
          have hi : (rk q other : Int) < (rk q one : Int) := by omega
          ac_nf
          simp only [decide_eq_true hi, if_true]
          rw [bnd_ok (g.told g1)]
          rfl
        · have hne : rk q one ≠ rk q other := fun z => eq (rk_inj h1 h2 z)
          obtain ⟨w, g1, g2, g3, g4, g5⟩ := g.T.move g.o h2 h1 p2 p1 (by omega)
          refine ⟨.nx [some (.ref ti), some (.ref ri), some (.int (one : Int)), some (.int (w : Int))], H, ?_, _, .inl rfl, rk q one + rk q w, by omega, one, w, rfl, rfl, rfl, h1, g2, p1, g3, a1, (Anc.up g1 .refl).trans a2, fun d d1 d2 => ⟨(dm d d1 d2).1, g5 d (dm d d1 d2).2 (dm d d1 d2).1⟩⟩
          unfold lb_meeting_1
          ac_nf
          rw [bnd_ok (g.rank h1), bnd_ok (g.rank h2)]
          have hi : ¬ (rk q other : Int) < (rk q one : Int) := by omega
          ac_nf
          simp only [decide_eq_false hi, Bool.false_eq_true, if_false]
          rw [bnd_ok (g.told g1)]
          rfl)
    (rk q x + rk q y) [some (.ref ti), some (.ref ri), some (.int (x : Int)), some (.int (y : Int))] H ⟨x, y, rfl, rfl, rfl, hx, hy, px, py, .refl, .refl, fun d d1 d2 => ⟨d1, d2⟩⟩
  refine ⟨z, ?_, hz⟩
  unfold f_meeting b_meeting
  rw [fM_4]
  exact bseq (P := fun r => r = .ok (.int (z : Int)) H) e rfl
def Gs (G : List (List Nat)) (q : List Nat) (t : Tl) (ps : List Nat) : Option Nat -> Prop
 | none => ∀ p ∈ ps, ¬ Pr t p
 | some z => Mt G q t ps z
theorem Mt.one {z : Nat} (hz : z ∈ q) (pz : Pr t z) {ps : List Nat} (h : ∀ p ∈ ps, ¬ Pr t p) : Mt G q t (ps ++ [z]) z :=
 ⟨hz, pz, fun p hp pp => by
  rcases List.mem_append.mp hp with y | y
  ·exact absurd pp (h p y)
  ·rw [List.mem_singleton.mp y]; exact .refl, fun d hd => hd z (List.mem_append_right _ (List.mem_singleton_self _)) pz⟩
theorem Mt.two {z w v : Nat} {ps : List Nat} (m : Mt G q t ps z) (pw : Pr t w) (hv : v ∈ q) (pv : Pr t v) (a1 : Anc t v z) (a2 : Anc t v w) (dm : ∀ d, Dom G d z -> Dom G d w -> Dom G d v) : Mt G q t (ps ++ [w]) v :=
 ⟨hv, pv, fun p hp pp => by
  rcases List.mem_append.mp hp with y | y
  ·exact a1.trans (m.anc p y pp)
  ·rw [List.mem_singleton.mp y]; exact a2, fun d hd => dm d (m.dom d fun p hp pp => hd p (List.mem_append_left _ hp) pp) (hd w (List.mem_append_right _ (List.mem_singleton_self _)) pw)⟩
theorem Mt.skip {z w : Nat} {ps : List Nat} (m : Mt G q t ps z) (nw : ¬ Pr t w) : Mt G q t (ps ++ [w]) z :=
 ⟨m.mem, m.pr, fun p hp pp => by
  rcases List.mem_append.mp hp with y | y
  ·exact m.anc p y pp
  ·rw [List.mem_singleton.mp y] at pp; exact absurd pp nw, fun d hd => m.dom d fun p hp pp => hd p (List.mem_append_left _ hp) pp⟩
theorem gate_s (g : Gt G q t H ti ri) {ai : Nat} {ps : List Nat} (ha : H[ai]? = some (.lst (iw ps))) (hp : ∀ p ∈ ps, p ∈ q) : ∃ w, f_gate_so_far [.ref ti, .ref ri, .ref ai] H = .ok (pw w) H /\ Gs G q t ps w := by
  obtain ⟨σ', H', e, w, o4, rfl, rfl, hG⟩ := forG_inv (chk := fun p => decide (p[ai]? = some (.lst (iw ps)))) (g := gN 4) (b := lb_gate_so_far_1)
    (fun j σ H1 => ∃ w o4, σ = [some (.ref ti), some (.ref ri), some (.ref ai), some (pw w), o4] /\ H = H1 /\ Gs G q t (ps.take j) w)
    (iw ps) [some (.ref ti), some (.ref ri), some (.ref ai), some .non, none] H (fun j σ H1 ⟨_, _, _, e, _⟩ => by rw [<- e]; exact decide_eq_true ha)
    (fun j x σ H1 hj ⟨w, o4, e, e2, hG⟩ => by
      subst e
      subst e2
      obtain ⟨b, hb, rfl⟩ := iw_get hj
      have hbq := hp b (List.mem_of_getElem? hb)
      have hbl : b < t.length := by rw [g.T.len]; exact g.o.lt b hbq
      obtain ⟨tb, htb⟩ : ∃ tb, t[b]? = some tb := ⟨t[b], by simp [hbl]⟩
      rw [take_next hb]
      have et : tOrM (eT (eOp eqW (eOp ixV (eVar 1) (eVar 4)) (eC (.int (0))))) (eT (eOp notNW (eOp ixV (eVar 0) (eVar 4)) (eC .non))) [some (.ref ti), some (.ref ri), some (.ref ai), some (pw w), some (.int (b : Int))] H = .ok (decide (b = 0) || !isNon (pw tb)) H := by
        ac_nf
        rw [bnd_ok (g.rank hbq)]
        ac_nf
        by_cases z : b = 0
        · have : (rk q b : Int) = 0 := by rw [(g.o.pos hbq).mpr z]; rfl
          simp only [decide_eq_true this, decide_eq_true z]
          ac_nf
        · have : ¬ (rk q b : Int) = 0 := fun y => z ((g.o.pos hbq).mp (by omega))
          simp only [decide_eq_false this, decide_eq_false z]
          ac_nf
          rw [bnd_ok (g.told htb)]
          ac_nf
      by_cases hP : Pr t b
      · have hc : (decide (b = 0) || !isNon (pw tb)) = true := by
          rcases hP with z | ⟨v, hv⟩
          · rw [decide_eq_true z]; rfl
          · rw [htb] at hv; cases hv; simp [pw, isNon]
        cases w with
        | none =>
          refine ⟨_, _, rfl, .nx [some (.ref ti), some (.ref ri), some (.ref ai), some (pw (some b)), some (.int (b : Int))], H, ?_, _, .inl rfl, some b, _, rfl, rfl, Mt.one hbq hP hG⟩
          unfold lb_gate_so_far_1
          show sIf _ _ _ [some (.ref ti), some (.ref ri), some (.ref ai), some (pw none), some (.int (b : Int))] H = _
          rw [sIf_ap, bnd_ok et, hc]
          unfold pw
          ac_nf
        | some z =>
          have m : Mt G q t (ps.take j) z := hG
          obtain ⟨v, e1, v1, v2, v3, v4, v5⟩ := meet_s g m.mem hbq m.pr hP
          refine ⟨_, _, rfl, .nx [some (.ref ti), some (.ref ri), some (.ref ai), some (pw (some v)), some (.int (b : Int))], H, ?_, _, .inl rfl, some v, _, rfl, rfl, m.two hP v1 v2 v3 v4 v5⟩
          unfold lb_gate_so_far_1
          show sIf _ _ _ [some (.ref ti), some (.ref ri), some (.ref ai), some (pw (some z)), some (.int (b : Int))] H = _
          rw [sIf_ap, bnd_ok et, hc]
          unfold pw
          ac_nf
          rw [bnd_ok e1]
          rfl
      · have hc : (decide (b = 0) || !isNon (pw tb)) = false := by
          have z : ¬ b = 0 := fun y => hP (.inl y)
          cases tb with
          | none => rw [decide_eq_false z]; rfl
          | some v => exact absurd (.inr ⟨v, htb⟩) hP
        refine ⟨_, _, rfl, .nx [some (.ref ti), some (.ref ri), some (.ref ai), some (pw w), some (.int (b : Int))], H, ?_, _, .inl rfl, w, _, rfl, rfl, ?_⟩
        · unfold lb_gate_so_far_1
          show sIf _ _ _ [some (.ref ti), some (.ref ri), some (.ref ai), some (pw w), some (.int (b : Int))] H = _
          rw [sIf_ap, bnd_ok et, hc]
          rfl
        · cases w with
          | none =>
            intro p hpm
            rcases List.mem_append.mp hpm with y | y
            · exact hG p y
            · rw [List.mem_singleton.mp y]; exact hP
          | some z => exact Mt.skip hG hP)
    ⟨none, none, rfl, rfl, fun p hp => by simp at hp⟩
  rw [iw_len, List.take_length] at hG
  refine ⟨w, ?_, hG⟩
  unfold f_gate_so_far b_gate_so_far
  rw [fM_3]
  refine bseq (P := fun r => r = .ok (pw w) H) (σ1 := [some (.ref ti), some (.ref ri), some (.ref ai), some .non, none]) (ph1 := H) rfl ?_
  exact bseq (P := fun r => r = .ok (pw w) H) (sFor_ok (iBoth_ref rfl ha) e) rfl
end
theorem addO_mem {E : List (List Nat)} {o b k x : Nat} {c : List Nat} (h : E[k]? = some c) : ∃ c', (addO E o b)[k]? = some c' /\ (x ∈ c' ↔ x ∈ c \/ (k = o /\ x = b)) := by
 unfold addO
 cases e : E[o]? with
 | none =>
  refine ⟨c, h, ⟨.inl, fun z => z.elim id fun z => ?_⟩⟩
  rw [z.1, e] at h
  cases h
 | some d =>
  simp only
  by_cases hk : o = k
  ·subst hk
   rw [e] at h
   cases h
   refine ⟨c ++ [b], List.getElem?_set_self (List.getElem?_eq_some_iff.mp e).1, ?_⟩
   simp
  ·refine ⟨c, by rw [List.getElem?_set_ne hk]; exact h, ⟨.inl, fun z => z.elim id fun z => absurd z.1.symm hk⟩⟩
theorem addG_mem {b k x : Nat} : ∀ {g : List Nat} {E : List (List Nat)} {c : List Nat}, E[k]? = some c -> ∃ c', (addG E b g)[k]? = some c' /\ (x ∈ c' ↔ x ∈ c \/ (k ∈ g /\ x = b))
 | [], E, c, h => ⟨c, h, by simp⟩
 | o :: g, E, c, h => by
  obtain ⟨c1, h1, e1⟩ := addO_mem (o := o) (b := b) (x := x) h
  obtain ⟨c2, h2, e2⟩ := addG_mem (b := b) (x := x) (g := g) h1
  refine ⟨c2, h2, e2.trans ?_⟩
  rw [e1, List.mem_cons]
  constructor
  ·rintro ((h | ⟨h, h'⟩) | ⟨h, h'⟩)
   ·exact .inl h
   ·exact .inr ⟨.inl h, h'⟩
   ·exact .inr ⟨.inr h, h'⟩
  ·rintro (h | ⟨h | h, h'⟩)
   ·exact .inl (.inl h)
   ·exact .inl (.inr ⟨h, h'⟩)
   ·exact .inr ⟨h, h'⟩
theorem fill_mem {G : List (List Nat)} {k x : Nat} : ∀ {bs : List Nat} {E : List (List Nat)} {c : List Nat}, E[k]? = some c -> ∃ c', (fillT G E bs)[k]? = some c' /\ (x ∈ c' ↔ x ∈ c \/ (x ∈ bs /\ k ∈ gOf G x))
 | [], E, c, h => ⟨c, h, by simp⟩
 | b :: bs, E, c, h => by
  obtain ⟨c1, h1, e1⟩ := addG_mem (b := b) (x := x) (g := gOf G b) h
  obtain ⟨c2, h2, e2⟩ := fill_mem (G := G) (x := x) (bs := bs) h1
  refine ⟨c2, h2, e2.trans ?_⟩
  rw [e1, List.mem_cons]
  constructor
  ·rintro ((h | ⟨h, h'⟩) | ⟨h, h'⟩)
   ·exact .inl h
   ·exact .inr ⟨.inl h', h' ▸ h⟩
   ·exact .inr ⟨.inr h, h'⟩
  ·rintro (h | ⟨h | h, h'⟩)
   ·exact .inl (.inl h)
   ·exact .inl (.inr ⟨h ▸ h', h⟩)
   ·exact .inr ⟨h, h'⟩
theorem bf_rx {G : List (List Nat)} {L : List Nd} (b : Bf G L L.length) (k : Nat) : k ∈ ks L ↔ RX G none k := by
 have r1 : ∀ (i : Nat) x, L[i]? = some x -> RX G none x.k := by
  intro i
  induction i using Nat.strongRecOn with
  | ind i ih =>
   intro x hx
   by_cases h0 : i = 0
   ·subst h0; rw [b.zero] at hx; cases hx; exact .zero (fun z => nomatch z)
   ·obtain ⟨j, y, g, h1, h2, _, _, h5, h6⟩ := b.par i x hx h0
    exact .step (ih j h1 y h2) h5 h6 (fun z => nomatch z)
 constructor
 ·intro h
  obtain ⟨x, hx, rfl⟩ := List.mem_map.mp h
  obtain ⟨j, hj⟩ := List.mem_iff_getElem?.mp hx
  exact r1 j x hj
 ·intro h
  induction h with
  | zero _ => exact List.mem_map.mpr ⟨_, List.mem_of_getElem? b.zero, rfl⟩
  | step _ hg ho _ ih =>
   obtain ⟨y, hy, rfl⟩ := List.mem_map.mp ih
   obtain ⟨j, hj⟩ := List.mem_iff_getElem?.mp hy
   obtain ⟨x, hx, rfl, _⟩ := b.closed j y _ (List.getElem?_eq_some_iff.mp hj).1 hj hg _ ho
   exact List.mem_map_of_mem hx
theorem bf_od {G : List (List Nat)} {L : List Nd} (b : Bf G L L.length) : Od G (ks L) := by
 have at_ : ∀ {i : Nat} {x : Nd}, L[i]? = some x -> (ks L)[i]? = some x.k := fun {i x} h => by unfold ks; rw [List.getElem?_map, h]; rfl
 refine ⟨b.nd, at_ b.zero, fun k hk => ?_, fun k hk g hg o ho => ?_, fun k hk h0 => ?_⟩
 ·obtain ⟨x, hx, rfl⟩ := List.mem_map.mp hk
  exact b.lt x hx
 ·obtain ⟨y, hy, rfl⟩ := List.mem_map.mp hk
  obtain ⟨j, hj⟩ := List.mem_iff_getElem?.mp hy
  obtain ⟨x, hx, rfl, _⟩ := b.closed j y _ (List.getElem?_eq_some_iff.mp hj).1 hj hg _ ho
  exact List.mem_map_of_mem hx
 ·obtain ⟨y, hy, rfl⟩ := List.mem_map.mp hk
  obtain ⟨i, hi⟩ := List.mem_iff_getElem?.mp hy
  have hi0 : i ≠ 0 := fun z => by
   subst z
   rw [b.zero] at hi
   cases hi
   exact h0 rfl
  obtain ⟨j, x, g, h1, h2, _, _, h5, h6⟩ := b.par i y hi hi0
  refine ⟨x.k, List.mem_map_of_mem (List.mem_of_getElem? h2), ?_, g, h5, h6⟩
  have e1 := rk_of b.nd (at_ h2)
  have e2 := rk_of b.nd (at_ hi)
  unfold rk at e1 e2
  rw [e1, e2]
  exact h1
theorem comes_mem {G : List (List Nat)} {q q2 : List Nat} {v : Nat} {c : List Nat} (o : Od G q) (hq : ∀ k, k ∈ q2 ↔ k ∈ q) (hv : v < G.length) (h : (fillT G (List.replicate G.length []) (up q2 G.length))[v]? = some c) (p : Nat) : p ∈ c ↔ p ∈ q /\ ∃ g, G[p]? = some g /\ v ∈ g := by
 obtain ⟨c', h1, e⟩ := fill_mem (G := G) (k := v) (x := p) (bs := up q2 G.length) (E := List.replicate G.length []) (c := []) (by rw [List.getElem?_replicate, if_pos hv])
 rw [h] at h1
 cases h1
 rw [e]
 unfold up
 rw [List.mem_filter, List.mem_range, decide_eq_true_eq, hq]
 constructor
 ·rintro (z | ⟨⟨h1, h2⟩, h3⟩)
  ·cases z
  ·refine ⟨h2, G[p], by simp [h1], ?_⟩
   unfold gOf at h3
   simpa [h1] using h3
 ·rintro ⟨h1, g, h2, h3⟩
  refine .inr ⟨⟨o.lt p h1, h1⟩, ?_⟩
  unfold gOf
  rw [h2]
  exact h3
theorem ne_pw (a b : Option Nat) (H : PH) : lift (neW (pw a) (pw b)) H = .ok (.bl (!decide (a = b))) H := by
 cases a with
 | none =>
  cases b with
  | none => rfl
  | some b => rfl
 | some a =>
  cases b with
  | none => rfl
  | some b =>
   show lift (neW (.int (a : Int)) (.int (b : Int))) H = _
   rw [l_neI]
   have : ((a : Int) = (b : Int)) ↔ (some a = some b) := ⟨fun h => by rw [show a = b by omega], fun h => by rw [Option.some.inj h]⟩
   rw [decide_eq_decide.mpr this]
   rfl
structure Rd (G : List (List Nat)) (q : List Nat) (Hs : PH) (wi ni ri ai : Nat) : Prop where
 o : Od G q
 near : Hs[ni]? = some (.lst (iw q))
 r : Hs[ri]? = some (.dct (rkD q))
 arr : ∀ v, v < G.length -> ∃ r ps, (∀ H, Ex Hs H -> lift (ixV (.ref ai) (.int (v : Int))) H = .ok (.ref r) H) /\ Hs[r]? = some (.lst (iw ps)) /\ ∀ p, p ∈ ps ↔ p ∈ q /\ ∃ g, G[p]? = some g /\ v ∈ g
structure Ps (G : List (List Nat)) (q : List Nat) (Hs H : PH) (ti si K k : Nat) (t0 t : Tl) (fl : Bool) (j : Nat) : Prop where
 T : Tr G q t
 ex : Ex Hs H
 tt : H[ti]? = some (.lst (t.map pw))
 s : H[si]? = some (.lst (iw (q.drop 1)))
 done : ∀ b ∈ q, b ≠ 0 -> rk q b <= j -> Pr t b
 keep : ∀ b, Pr t0 b -> Pr t b
 flag : fl = true -> t = t0 /\ ∀ b ∈ q, b ≠ 0 -> rk q b <= j -> ∃ g : Nat, t[b]? = some (some g) /\ ∀ p ∈ q, ∀ (gp : List Nat), G[p]? = some gp -> b ∈ gp -> Pr t p -> Anc t g p
 ap : (∀ b ∈ q, Pr t0 b) -> AP G q t0 k -> AP G q t k /\ ∀ x ∈ q, rk q x <= j -> ∀ a, Anc t a x -> ¬ Pt G a (k + 1) x
 st : (∀ b ∈ q, Pr t0 b) -> AP G q t0 K -> fl = true
section
variable {G : List (List Nat)} {q : List Nat} {Hs H : PH} {wi ni ri ai ti si K k : Nat} {t0 t : Tl} {fl : Bool}
theorem pass1 {j v : Nat} {s0 o6 o7 : Option W} (hK : ∀ a x, a < G.length -> x < G.length -> RX G (some a) x -> Pt G a K x) (R : Rd G q Hs wi ni ri ai) (hti : Hs.length <= ti) (hts : ti ≠ si) (p : Ps G q Hs H ti si K k t0 t fl j) (hv : q[j + 1]? = some v) :
  ∃ H' t' fl' o7', lb_gates_1 [s0, some (.ref ni), some (.ref ri), some (.ref ai), some (.ref ti), some (.bl fl), some (.int (v : Int)), o7] H = .ok (.nx [s0, some (.ref ni), some (.ref ri), some (.ref ai), some (.ref ti), some (.bl fl'), some (.int (v : Int)), o7']) H' /\ Ps G q Hs H' ti si K k t0 t' fl' (j + 1) := by
 have hvq : v ∈ q := List.mem_of_getElem? hv
 have hrv : rk q v = j + 1 := rk_of R.o.nd hv
 have hv0 : v ≠ 0 := fun z => by have := R.o.z.2; rw [z] at hrv; omega
 have hvG := R.o.lt v hvq
 have hvl : v < t.length := by rw [p.T.len]; exact hvG
 obtain ⟨r, ps, a1, a2, a3⟩ := R.arr v hvG
 obtain ⟨tv, htv⟩ : ∃ tv, t[v]? = some tv := ⟨t[v], by simp [hvl]⟩
 have gt : Gt G q t H ti ri := ⟨p.T, R.o, p.tt, p.ex.get R.r⟩
 obtain ⟨w, e1, hG⟩ := gate_s gt (p.ex.get a2) (fun x hx => ((a3 x).mp hx).1)
 obtain ⟨pp, pp1, pp2, gp, pp3, pp4⟩ := R.o.par v hvq hv0
 have ppm : pp ∈ ps := (a3 pp).mpr ⟨pp1, gp, pp3, pp4⟩
 have ppr : Pr t pp := by
  by_cases z : pp = 0
  ·exact .inl z
  ·exact p.done pp pp1 z (by have : rk q pp < rk q v := pp2; omega)
 cases w with
 | none => exact absurd ppr (hG pp ppm)
 | some g =>
 have m : Mt G q t ps g := hG
 obtain ⟨T', hr⟩ := p.T.set R.o hvq hv0 a3 m ⟨pp, ppm, ppr, pp2⟩
 have at_v : (t.set v (some g))[v]? = some (some g) := List.getElem?_set_self hvl
 have keep : ∀ b, Pr t b -> Pr (t.set v (some g)) b := fun b h => by
  rcases h with h | ⟨w, h⟩
  ·exact .inl h
  ·by_cases e : v = b
   ·subst e; exact .inr ⟨g, at_v⟩
   ·exact .inr ⟨w, by rw [List.getElem?_set_ne e]; exact h⟩
 have ranks : ∀ {x : Nat}, x ∈ q -> rk q x <= j + 1 -> x = v \/ rk q x <= j := fun {x} hx h => by
  by_cases z : rk q x = j + 1
  ·exact .inl (rk_inj hx hvq (z.trans hrv.symm))
  ·exact .inr (by omega)
 have done' : ∀ b ∈ q, b ≠ 0 -> rk q b <= j + 1 -> Pr (t.set v (some g)) b := fun b hb h0 hl => by
  rcases ranks hb hl with rfl | h
  ·exact .inr ⟨g, at_v⟩
  ·exact keep b (p.done b hb h0 h)
 have ap' : (∀ b ∈ q, Pr t0 b) -> AP G q t0 k -> AP G q (t.set v (some g)) k /\ ∀ x ∈ q, rk q x <= j + 1 -> ∀ a, Anc (t.set v (some g)) a x -> ¬ Pt G a (k + 1) x := fun all h0 => by
  obtain ⟨h1, h2⟩ := p.ap all h0
  have all' : ∀ b ∈ q, Pr t b := fun b hb => p.keep b (all b hb)
  refine ⟨p.T.apX R.o hvq hv0 a3 m hr all' h1, fun x hx hl a ha => ?_⟩
  rcases ranks hx hl with rfl | h
  ·exact p.T.apV R.o hvq hv0 a3 m hr all' h1 a ha
  ·exact h2 x hx h a (p.T.low ha hx (by omega))
 have he : ∀ kk : Fl -> Mo Fl, bnd (sAsg (eCall f_gate_so_far (aCons (eVar 4) (aCons (eVar 2) (aCons (eOp ixV (eVar 3) (eVar 6)) aNil)))) (gN 7) [s0, some (.ref ni), some (.ref ri), some (.ref ai), some (.ref ti), some (.bl fl), some (.int (v : Int)), o7]) kk H = kk (.nx [s0, some (.ref ni), some (.ref ri), some (.ref ai), some (.ref ti), some (.bl fl), some (.int (v : Int)), some (pw (some g))]) H := fun kk => by
  ac_nf
  rw [bnd_ok (a1 H p.ex), bnd_ok e1]
 by_cases hs : tv = some g
 ·subst hs
  have same : t.set v (some g) = t := by
   apply List.ext_getElem?
   intro i
   by_cases hi : v = i
   ·subst hi; rw [at_v, htv]
   ·rw [List.getElem?_set_ne hi]
  rw [same] at T' done' ap'
  refine ⟨H, t, fl, some (pw (some g)), ?_, T', p.ex, p.tt, p.s, done', p.keep, fun hf => ⟨(p.flag hf).1, fun b hb h0 hl => ?_⟩, ap', p.st⟩
  ·unfold lb_gates_1
   rw [sSeq_ap, he]
   ac_nf
   rw [bnd_ok (gt.told htv), bnd_ok (ne_pw _ _ _)]
   simp only [decide_true]
   ac_nf
  ·rcases ranks hb hl with rfl | h
   ·exact ⟨g, htv, fun x hx gx h1 h2 hp => m.anc x ((a3 x).mpr ⟨hx, gx, h1, h2⟩) hp⟩
   ·exact (p.flag hf).2 b hb h0 h
 ·have hset : lift (setV (.ref ti) (.int (v : Int)) (pw (some g))) H = .ok () (H.set ti (.lst ((t.set v (some g)).map pw))) := by
   rw [setv_ref p.tt (j := v) (by
    unfold ixN
    rw [if_pos (by omega), if_pos (by rw [List.length_map]; omega)]
    simp), List.map_set]
  refine ⟨H.set ti (.lst ((t.set v (some g)).map pw)), t.set v (some g), false, some (pw (some g)), ?_, T', Ex.set p.ex hti _, set_eq p.tt, by rw [set_ne hts]; exact p.s, done', fun b hb => keep b (p.keep b hb), (fun hf => nomatch hf), ap', fun all h0 => ?_⟩
  ·unfold lb_gates_1
   rw [sSeq_ap, he]
   ac_nf
   rw [bnd_ok (gt.told htv), bnd_ok (ne_pw _ _ _)]
   simp only [decide_eq_false hs]
   ac_nf
   rw [bnd_ok hset]
   ac_nf
  ·have hf := p.st all h0
   have ht := (p.flag hf).1
   have all' : ∀ b ∈ q, Pr t b := fun b hb => p.keep b (all b hb)
   rcases all' v hvq with z | ⟨g0, hg0⟩
   ·exact absurd z hv0
   ·have := p.T.stay R.o hK hvq hv0 a3 m hr all' (ht ▸ h0) hg0
    subst this
    rw [htv] at hg0
    exact absurd (Option.some.inj hg0) hs
theorem pass_s {s0 o5 o6 o7 : Option W} (hK : ∀ a x, a < G.length -> x < G.length -> RX G (some a) x -> Pt G a K x) (R : Rd G q Hs wi ni ri ai) (hti : Hs.length <= ti) (T : Tr G q t) (ex : Ex Hs H) (ht : H[ti]? = some (.lst (t.map pw))) :
    ∃ H' t' fl o6' o7', lb_gates_2 [s0, some (.ref ni), some (.ref ri), some (.ref ai), some (.ref ti), o5, o6, o7] H = .ok (.nx [s0, some (.ref ni), some (.ref ri), some (.ref ai), some (.ref ti), some (.bl fl), o6', o7']) H' /\ Ps G q Hs H' ti H.length K k t t' fl (q.length - 1) := by
  have hsl : (H ++ [PO.lst (iw (q.drop 1))])[H.length]? = some (.lst (iw (q.drop 1))) := get_new _ _
  have hsi : lift (slW (.ref ni) (some 1) none) H = .ok (.ref H.length) (H ++ [.lst (iw (q.drop 1))]) := by
    have := sl_from (ex.get R.near) 1
    rw [show ((1 : Nat) : Int) = 1 from rfl] at this
    rw [this]
    unfold iw
    rw [List.map_drop]
  have hne : ti ≠ H.length := Nat.ne_of_lt (lt_of ht)
  have low : ∀ {b : Nat}, b ∈ q -> b ≠ 0 -> ¬ rk q b <= 0 := fun {b} hb h0 hl => h0 ((R.o.pos hb).mp (by omega))
  obtain ⟨σ', H', e, t', fl, o6', o7', rfl, p⟩ := forG_inv (chk := fun p => decide (p[H.length]? = some (.lst (iw (q.drop 1))))) (g := gN 6) (b := lb_gates_1)
    (fun j σ H1 => ∃ t' fl o6' o7', σ = [s0, some (.ref ni), some (.ref ri), some (.ref ai), some (.ref ti), some (.bl fl), o6', o7'] /\ Ps G q Hs H1 ti H.length K k t t' fl j)
    (iw (q.drop 1)) [s0, some (.ref ni), some (.ref ri), some (.ref ai), some (.ref ti), some (.bl true), o6, o7] (H ++ [.lst (iw (q.drop 1))])
    (fun j σ H1 ⟨_, _, _, _, _, p⟩ => decide_eq_true p.s)
    (fun j x σ H1 hj ⟨t', fl, o6', o7', e, p⟩ => by
      subst e
      obtain ⟨v, hv, rfl⟩ := iw_get hj
      rw [List.getElem?_drop] at hv
      obtain ⟨H2, t2, fl2, o72, e2, p2⟩ := pass1 (s0 := s0) (o6 := o6') (o7 := o7') hK R hti hne p (by rw [Nat.add_comm]; exact hv)
      exact ⟨_, _, rfl, _, H2, e2, _, .inl rfl, t2, fl2, _, o72, rfl, p2⟩)
    ⟨t, true, o6, o7, rfl, T, ex.trans (Ex.one _ _), (Ex.one _ _).get ht, hsl, fun b hb h0 hl => absurd hl (low hb h0), fun b h => h, fun _ => ⟨rfl, fun b hb h0 hl => absurd hl (low hb h0)⟩, fun all h0 => ⟨h0, fun x hx hl a ha hP => by
      have : x = 0 := (R.o.pos hx).mp (by omega)
      subst this
      cases hP with
      | zero z =>
        cases ha with
        | refl => exact z rfl
        | up e _ => exact (T.good _ _ e).2.1 rfl
      | step hb hgb hob hx0 =>
        cases ha with
        | refl => exact hx0 rfl
        | up e _ => exact (T.good _ _ e).2.1 rfl⟩, fun _ _ => rfl⟩
  rw [iw_len, List.length_drop] at p
  refine ⟨H', t', fl, o6', o7', ?_, p⟩
  unfold lb_gates_2
  rw [sSeq_ap]
  ac_nf
  rw [sFor_ok (iBoth_ref (i := H.length) (by
    rw [eSl_ap]
    exact hsi) hsl) e]
end
theorem list_nd {H : PH} {di : Nat} {L : List Nd} (hd : H[di]? = some (.dct (ndD L))) : lift (listV [.ref di]) H = .ok (.ref H.length) (H ++ [.lst (iw (ks L))]) := by
 have h1 : keysA (ndD L) = some (iw (ks L)) := by
  unfold keysA
  have : ((ndD L).all fun p => !isT p.1) = true := by
   rw [List.all_eq_true]
   intro p hp
   unfold ndD at hp
   obtain ⟨x, _, rfl⟩ := List.mem_map.mp hp
   rfl
  rw [if_pos this]
  unfold ndD iw ks
  rw [List.map_map, List.map_map]
  rfl
 have : listV [.ref di] H = some (.ref H.length, H ++ [.lst (iw (ks L))]) := by
  unfold listV
  simp only [dct_d hd, h1]
  rfl
 unfold lift
 rw [this]
theorem fill_fn (f : Nat -> W) : ∀ (l acc : List Nat), (acc ++ l).Nodup -> (acc ++ l).length <= 100 -> fillW (acc.map fun b : Nat => (W.int (b : Int), f b)) (l.map fun b : Nat => (W.int (b : Int), f b)) = some ((acc ++ l).map fun b : Nat => (W.int (b : Int), f b))
 | [], acc, _, _ => by simp [fillW]
 | b :: l, acc, hn, hl => by
  have hb : b ∉ acc := fun z => by
   rw [List.nodup_append] at hn
   exact hn.2.2 b z b (by simp) rfl
  rw [List.map_cons]
  unfold fillW
  have h1 : okKey (acc.map fun b : Nat => (W.int (b : Int), f b)) (W.int (b : Int)) = true := by
   unfold okKey
   rw [Bool.or_eq_true]
   left
   simp [keyK, isT]
  have h2 : (acc.map fun b : Nat => (W.int (b : Int), f b)).length < sizeLine := by
   rw [List.length_map]
   simp at hl
   exact Nat.lt_of_lt_of_le (by omega : acc.length < 101) (by decide)
  rw [if_pos ⟨h1, h2⟩]
  have h3 : dputW (acc.map fun b : Nat => (W.int (b : Int), f b)) (W.int (b : Int)) (f b) = (acc ++ [b]).map fun b : Nat => (W.int (b : Int), f b) := by
   unfold dputW
   have : ((acc.map fun b : Nat => (W.int (b : Int), f b)).any fun p => decide (p.1 = W.int (b : Int))) = false := by
    rw [List.any_eq_false]
    intro p hp
    obtain ⟨c, hc, rfl⟩ := List.mem_map.mp hp
    rw [decide_eq_true_eq]
    intro z
    have := W.int.inj z
    exact hb (by rw [show b = c by omega]; exact hc)
   rw [this]
   simp
  rw [h3, fill_fn f l (acc ++ [b]) (by rw [List.append_assoc]; exact hn) (by rw [List.append_assoc]; exact hl), List.append_assoc]
  rfl
theorem enum_iw (q : List Nat) : enumL (iw q) = (List.range q.length).map fun i : Nat => W.tup [.int (i : Int), .int ((q.getD i 0 : Nat) : Int)] := by
 apply List.ext_getElem?
 intro i
 by_cases hi : i < q.length
 ·obtain ⟨w, hw⟩ : ∃ w, (enumL (iw q))[i]? = some w := ⟨(enumL (iw q))[i]'(by rw [enL_len, iw_len]; exact hi), by simp⟩
  obtain ⟨x, h1, rfl⟩ := enL_get hw
  obtain ⟨b, h2, rfl⟩ := iw_get h1
  rw [hw, List.getElem?_map, List.getElem?_range hi]
  show _ = some (W.tup [.int (i : Int), .int ((q.getD i 0 : Nat) : Int)])
  have : q.getD i 0 = b := by rw [List.getD_eq_getElem?_getD, h2]; rfl
  rw [this]
 ·rw [List.getElem?_eq_none (by rw [enL_len, iw_len]; omega), List.getElem?_eq_none (by simp; omega)]
theorem ranks_s {H : PH} {ni : Nat} {q : List Nat} {σ : PSt} {am : AM} (ha : am σ H = .ok [.ref ni] H) (hn : H[ni]? = some (.lst (iw q))) (nd : q.Nodup) (hl : q.length <= 100) : ∃ ri H', eCallB dictW (aCons (eComp (iEnum am) [none, none] (gLen 2 [(gN 0), (gN 1)]) cTrue (eTup (aCons (eVar 1) (aCons (eVar 0) aNil)))) aNil) σ H = .ok (.ref ri) H' /\ Ex H H' /\ H'[ri]? = some (.dct (rkD q)) := by
 obtain ⟨H1, e1, x1⟩ := comp_run (List.range q.length) (fun i : Nat => W.tup [.int (i : Int), .int ((q.getD i 0 : Nat) : Int)]) (cap := [none, none]) (g := gLen 2 [(gN 0), (gN 1)]) (c := cTrue) (e := eTup (aCons (eVar 1) (aCons (eVar 0) aNil))) (by rw [<- enum_iw]; exact iEnum_ref ha hn) (fun p y => decide_eq_true (y.get hn)) (small (by simp; omega))
  (fun i : Nat => some (W.tup [.int ((q.getD i 0 : Nat) : Int), .int (i : Int)])) (fun σ => ∃ a b, σ = [a, b]) ⟨none, none, rfl⟩
  (fun i hi σ H1 hS x1 => by
   obtain ⟨a, b, rfl⟩ := hS
   exact ⟨_, rfl, ⟨_, _, rfl⟩, true, H1, rfl, Ex.refl _, .inr ⟨rfl, _, H1, rfl, Ex.refl _, rfl⟩⟩)
 rw [fm_some] at x1
 have hw := x1.get (get_new H _)
 have hp : mapO pairW ((List.range q.length).map fun i : Nat => W.tup [.int ((q.getD i 0 : Nat) : Int), .int (i : Int)]) = some (rkD q) := by
  rw [mapO_map pairW (fun i : Nat => W.tup [.int ((q.getD i 0 : Nat) : Int), .int (i : Int)]) (fun i : Nat => (W.int ((q.getD i 0 : Nat) : Int), W.int (i : Int))) (fun _ => rfl)]
  congr 1
  apply List.ext_getElem?
  intro i
  unfold rkD
  rw [List.getElem?_map, List.getElem?_map]
  by_cases hi : i < q.length
  ·obtain ⟨b, hb⟩ : ∃ b, q[i]? = some b := ⟨q[i], by simp [hi]⟩
   rw [List.getElem?_range hi, hb]
   have : q.getD i 0 = b := by rw [List.getD_eq_getElem?_getD, hb]; rfl
   simp only [Option.map_some, this, rk_of nd hb]
  ·rw [List.getElem?_eq_none (by simp; omega), List.getElem?_eq_none (by omega)]
   rfl
 have hf : fillW [] (rkD q) = some (rkD q) := fill_fn (fun b => W.int (rk q b : Int)) q [] nd hl
 refine ⟨H1.length, H1 ++ [.dct (rkD q)], ?_, ((Ex.one _ _).trans x1).trans (Ex.one _ _), get_new _ _⟩
 rw [eCallB_ap, aCons_ap, bnd_assoc, bnd_ok e1]
 ac_nf
 exact dict_ref hw hp hf
theorem nones {ph : PH} {wi : Nat} {G : List (List Nat)} {m : EM} {σ : PSt} (hw : Wy ph wi G) (hG : Ok G) (hm : m σ ph = .ok (.ref wi) ph) : ∃ ph', eComp (iBoth m) [none] (gN 0) cTrue (eC .non) σ ph = .ok (.ref ph.length) ph' /\ Ex ph ph' /\ ph'[ph.length]? = some (.lst ((List.replicate G.length (none : Option Nat)).map pw)) := by
 obtain ⟨rs, h1, h2, h3⟩ := hw
 have ht := hG.top
 obtain ⟨ph', e, x⟩ := comp_run rs W.ref (cap := [none]) (g := gN 0) (c := cTrue) (e := eC .non) (iBoth_ref hm h1) (fun p x => decide_eq_true (x.get h1)) (small (by omega)) (fun _ => some .non) (fun σ => ∃ o, σ = [o]) ⟨none, rfl⟩
  (fun r hr σ H hS y => by
   obtain ⟨o, rfl⟩ := hS
   exact ⟨_, rfl, ⟨_, rfl⟩, true, H, rfl, Ex.refl _, .inr ⟨rfl, .non, H, rfl, Ex.refl _, rfl⟩⟩)
 refine ⟨ph', e, (Ex.one _ _).trans x, ?_⟩
 rw [x.get (get_new _ _), fm_some, List.map_replicate, <- h2]
 congr 2
 exact List.map_const' ..
structure Gates (G : List (List Nat)) (ph : PH) (r : Out W) (q : List Nat) (t : Tl) : Prop where
 ex : ∃ ti ph', r = .ok (.ref ti) ph' /\ Ex ph ph' /\ ph'[ti]? = some (.lst (t.map pw)) /\ ph.length <= ti
 fin : Fin G q t
 od : Od G q
 rx : ∀ k, k ∈ q ↔ RX G none k
theorem gates_s {ph : PH} {wi : Nat} {G : List (List Nat)} (hw : Wy ph wi G) (hG : Ok G) : ∃ q t, Gates G ph (f_gates [.ref wi] ph) q t := by
  obtain ⟨di, H1, L, e1, x1, hd, b⟩ := aheads_s hw hG
  have od := bf_od b
  have hl : (ks L).length <= 100 := by have := b.len; have := hG.top; rw [List.length_map]; omega
  have e2 := list_nd hd
  have hn : (H1 ++ [PO.lst (iw (ks L))])[H1.length]? = some (.lst (iw (ks L))) := get_new _ _
  have hrx := bf_rx b
  generalize hq : ks L = q at od hl e2 hn hrx
  obtain ⟨ri, H2, e3, x3, hr⟩ := ranks_s (am := aCons (eVar 1) aNil) (σ := [some (.ref wi), some (.ref H1.length), none, none, none, none, none, none]) rfl hn od.nd hl
  have xa : Ex ph H2 := (x1.trans (Ex.one _ _)).trans x3
  obtain ⟨ai, L2, H3, e4, x4, b2, t4, _⟩ := comes_s (hw.mono xa) hG
  obtain ⟨H4, e5, x5, ht⟩ := nones (m := eVar 0) (σ := [some (.ref wi), some (.ref H1.length), some (.ref ri), some (.ref ai), none, none, none, none]) (hw.mono (xa.trans x4)) hG rfl
  have R : Rd G q H3 wi H1.length ri ai := by
    refine ⟨od, (x3.trans x4).get hn, x4.get hr, fun v hv => ?_⟩
    obtain ⟨c, hc⟩ : ∃ c, (fillT G (List.replicate G.length []) (up (ks L2) G.length))[v]? = some c := ⟨_, List.getElem?_eq_getElem (by rw [fillT_len, List.length_replicate]; exact hv)⟩
    obtain ⟨r, h1, h2, _⟩ := t4.put (EE_get hc)
    refine ⟨r, c, fun H x => ?_, h2, comes_mem od (fun k => (bf_rx b2 k).trans (hrx k).symm) hv hc⟩
    obtain ⟨ws, tw⟩ := t4
    have hk : v < ws.length := by rw [tw.len]; unfold EE; rw [List.length_map, fillT_len, List.length_replicate]; exact hv
    obtain ⟨w, hw'⟩ : ∃ w, ws[v]? = some w := ⟨ws[v], by simp [hk]⟩
    have g1 := ixv_ref tw.at_ (k := (v : Int)) (w := w) (by rw [atI_nat _ _ hk]; exact hw')
    rw [g1] at h1
    cases h1
    exact ixv_ref (x.get tw.at_) (by rw [atI_nat _ _ hk]; exact hw')
  obtain ⟨K, hK⟩ := enough (G := G) G.length
  have T0 : Tr G q (List.replicate G.length none) := by
    have no : ∀ {b g : Nat}, (List.replicate G.length (none : Option Nat))[b]? = some (some g) -> False := fun {b g} h => by
      rw [List.getElem?_replicate] at h
      split at h <;> cases h
    exact ⟨by simp, fun b g h => (no h).elim, fun b g h => (no h).elim, fun b g h => (no h).elim⟩
  obtain ⟨σ', H', e6, t, o6, o7, rfl, x6, ht6, F⟩ := while_inv (t := tNotM (eTru (eVar 5))) (b := lb_gates_2)
    (fun m σ H => ∃ t fl o6 o7, σ = [some (.ref wi), some (.ref H1.length), some (.ref ri), some (.ref ai), some (.ref H3.length), some (.bl fl), o6, o7] /\ Ex H3 H /\ H[H3.length]? = some (.lst (t.map pw)) /\ Tr G q t /\ (fl = true -> Fin G q t) /\ (fl = false -> m = K + 2 \/ ∃ k, k <= K /\ m + k = K + 1 /\ (∀ b ∈ q, Pr t b) /\ AP G q t k))
    (fun σ H => ∃ t o6 o7, σ = [some (.ref wi), some (.ref H1.length), some (.ref ri), some (.ref ai), some (.ref H3.length), some (.bl true), o6, o7] /\ Ex H3 H /\ H[H3.length]? = some (.lst (t.map pw)) /\ Fin G q t)
    (fun m σ H ⟨t, fl, o6, o7, e, x, ht, T, hF, hm⟩ => by
      subst e
      cases fl with
      | true => exact .inl ⟨H, rfl, t, o6, o7, rfl, x, ht, hF rfl⟩
      | false =>
        right
        refine ⟨H, rfl, ?_⟩
        have run : ∀ k, ∃ H' t' fl o6' o7', lb_gates_2 [some (.ref wi), some (.ref H1.length), some (.ref ri), some (.ref ai), some (.ref H3.length), some (.bl false), o6, o7] H = .ok (.nx [some (.ref wi), some (.ref H1.length), some (.ref ri), some (.ref ai), some (.ref H3.length), some (.bl fl), o6', o7']) H' /\ Ps G q H3 H' H3.length H.length K k t t' fl (q.length - 1) := fun k => pass_s hK R (Nat.le_refl _) T x ht
        have rl : ∀ {b : Nat}, b ∈ q -> rk q b <= q.length - 1 := fun {b} hb => by have := List.idxOf_lt_length_of_mem hb; unfold rk; omega
        have fin : ∀ {k H' t'}, Ps G q H3 H' H3.length H.length K k t t' true (q.length - 1) -> Fin G q t' := fun {k H' t'} p => by
          have all : ∀ b ∈ q, Pr t' b := fun b hb => by
            by_cases z : b = 0
            · exact .inl z
            · exact p.done b hb z (rl hb)
          refine ⟨p.T, all, fun b g hg y hy gy h1 h2 => ?_⟩
          obtain ⟨g1, g2, _⟩ := p.T.good _ _ hg
          obtain ⟨g', hg', ha⟩ := (p.flag rfl).2 b g1 g2 (rl g1)
          rw [hg] at hg'
          cases hg'
          exact ha y hy gy h1 h2 (all y hy)
        have allp : ∀ {k H' t' fl}, Ps G q H3 H' H3.length H.length K k t t' fl (q.length - 1) -> ∀ b ∈ q, Pr t' b := fun {k H' t' fl} p b hb => by
          by_cases z : b = 0
          · exact .inl z
          · exact p.done b hb z (rl hb)
        rcases hm rfl with hm | ⟨k, hk, hmk, all, ap⟩
        · obtain ⟨H', t', fl, o6', o7', e, p⟩ := run 0
          cases fl with
          | true => exact ⟨_, H', e, _, .inl rfl, 0, by omega, t', true, o6', o7', rfl, p.ex, p.tt, p.T, fun _ => fin p, (fun z => nomatch z)⟩
          | false => exact ⟨_, H', e, _, .inl rfl, K + 1, by omega, t', false, o6', o7', rfl, p.ex, p.tt, p.T, (fun z => nomatch z), fun _ => .inr ⟨0, Nat.zero_le _, rfl, allp p, p.T.ap0⟩⟩
        · obtain ⟨H', t', fl, o6', o7', e, p⟩ := run k
          cases fl with
          | true => exact ⟨_, H', e, _, .inl rfl, 0, by omega, t', true, o6', o7', rfl, p.ex, p.tt, p.T, fun _ => fin p, (fun z => nomatch z)⟩
          | false =>
            have hkK : k < K := by
              by_cases z : k < K
              · exact z
              · have apK : AP G q t K := fun a x hx ha hP => ap a x hx ha (hP.le (by omega))
                exact absurd (p.st all apK) (fun z => nomatch z)
            exact ⟨_, H', e, _, .inl rfl, m - 1, by omega, t', false, o6', o7', rfl, p.ex, p.tt, p.T, (fun z => nomatch z), fun _ => .inr ⟨k + 1, by omega, by omega, allp p, fun a x hx ha => (p.ap all ap).2 x hx (rl hx) a ha⟩⟩)
    (K + 2) [some (.ref wi), some (.ref H1.length), some (.ref ri), some (.ref ai), some (.ref H3.length), some (.bl false), none, none] H4 ⟨_, false, none, none, rfl, x5, ht, T0, (fun z => nomatch z), fun _ => .inl rfl⟩
  refine ⟨q, t, ⟨H3.length, H', ?_, (xa.trans x4).trans x6, ht6, (xa.trans x4).len⟩, F, od, hrx⟩
  unfold f_gates b_gates
  rw [fM_1]
  refine bseq (P := fun r => r = .ok (.ref H3.length) H') (σ1 := [some (.ref wi), some (.ref H1.length), none, none, none, none, none, none]) (ph1 := H1 ++ [.lst (iw q)]) ?_ ?_
  · ac_nf
    rw [bnd_ok e1]
    ac_nf
    rw [bnd_ok e2]
    rfl
  refine bseq (P := fun r => r = .ok (.ref H3.length) H') (σ1 := [some (.ref wi), some (.ref H1.length), some (.ref ri), none, none, none, none, none]) (ph1 := H2) ?_ ?_
  · exact (bnd_ok e3).trans rfl
  refine bseq (P := fun r => r = .ok (.ref H3.length) H') (σ1 := [some (.ref wi), some (.ref H1.length), some (.ref ri), some (.ref ai), none, none, none, none]) (ph1 := H3) ?_ ?_
  · exact (bnd_ok e4).trans rfl
  refine bseq (P := fun r => r = .ok (.ref H3.length) H') (σ1 := [some (.ref wi), some (.ref H1.length), some (.ref ri), some (.ref ai), some (.ref H3.length), none, none, none]) (ph1 := H4) ?_ ?_
  · exact (bnd_ok e5).trans rfl
  refine bseq (P := fun r => r = .ok (.ref H3.length) H') (σ1 := [some (.ref wi), some (.ref H1.length), some (.ref ri), some (.ref ai), some (.ref H3.length), some (.bl false), none, none]) (ph1 := H4) rfl ?_
  exact bseq (P := fun r => r = .ok (.ref H3.length) H') e6 rfl
structure Df (G : List (List Nat)) (x : Option Nat) (T wl : List Nat) : Prop where
 nd : T.Nodup
 lt : ∀ k ∈ T, k < G.length
 zero : x ≠ some 0 -> 0 ∈ T
 rch : ∀ k ∈ T, RX G x k
 sub : ∀ k ∈ wl, k ∈ T
 closed : ∀ b ∈ T, b ∉ wl -> ∀ g, G[b]? = some g -> ∀ o ∈ g, x ≠ some o -> o ∈ T
structure Dfi (G : List (List Nat)) (x : Option Nat) (T wl : List Nat) (b : Nat) (g : List Nat) (m : Nat) : Prop where
 nd : T.Nodup
 lt : ∀ k ∈ T, k < G.length
 zero : x ≠ some 0 -> 0 ∈ T
 rch : ∀ k ∈ T, RX G x k
 sub : ∀ k ∈ wl, k ∈ T
 bT : b ∈ T
 hg : G[b]? = some g
 closed : ∀ b' ∈ T, b' ∉ wl -> b' ≠ b -> ∀ g, G[b']? = some g -> ∀ o ∈ g, x ≠ some o -> o ∈ T
 part : ∀ o ∈ g.take m, x ≠ some o -> o ∈ T
section
variable {G : List (List Nat)} {x : Option Nat} {T wl : List Nat} {b : Nat} {g : List Nat}
theorem Df.enter (d : Df G x T (wl ++ [b])) (hg : G[b]? = some g) : Dfi G x T wl b g 0 :=
 ⟨d.nd, d.lt, d.zero, d.rch, fun k hk => d.sub k (List.mem_append_left _ hk), d.sub b (List.mem_append_right _ (List.mem_singleton_self _)), hg, fun b' h1 h2 h3 => d.closed b' h1 (fun z => (List.mem_append.mp z).elim h2 fun z => h3 (List.mem_singleton.mp z)), fun o ho => by simp at ho⟩
theorem Dfi.leave (d : Dfi G x T wl b g g.length) : Df G x T wl :=
 ⟨d.nd, d.lt, d.zero, d.rch, d.sub, fun b' h1 h2 g' hg o ho hx => by
  by_cases hb : b' = b
  ·subst hb
   rw [d.hg] at hg
   cases hg
   exact d.part o (by rw [List.take_length]; exact ho) hx
  ·exact d.closed b' h1 h2 hb g' hg o ho hx⟩
theorem Dfi.skip {m o : Nat} (d : Dfi G x T wl b g m) (e : g[m]? = some o) (h : x ≠ some o -> o ∈ T) : Dfi G x T wl b g (m + 1) :=
 ⟨d.nd, d.lt, d.zero, d.rch, d.sub, d.bT, d.hg, d.closed, fun o' ho => (take_mem e ho).elim (d.part o') fun z => z ▸ h⟩
theorem Dfi.add {m o : Nat} (d : Dfi G x T wl b g m) (e : g[m]? = some o) (h : o ∉ T) (hx : x ≠ some o) (ho : o < G.length) : Dfi G x (T ++ [o]) (wl ++ [o]) b g (m + 1) := by
 refine ⟨?_, fun k hk => ?_, fun z => List.mem_append_left _ (d.zero z), fun k hk => ?_, fun k hk => ?_, List.mem_append_left _ d.bT, d.hg, fun b' h1 h2 h3 g' hg o' ho' hx' => ?_, fun o' ho' hx' => ?_⟩
 ·rw [List.nodup_append]
  refine ⟨d.nd, by simp, fun a ha c hc => ?_⟩
  rintro rfl
  exact h (List.mem_singleton.mp hc ▸ ha)
 ·rcases List.mem_append.mp hk with z | z
  ·exact d.lt k z
  ·rw [List.mem_singleton.mp z]; exact ho
 ·rcases List.mem_append.mp hk with z | z
  ·exact d.rch k z
  ·rw [List.mem_singleton.mp z]; exact .step (d.rch b d.bT) d.hg (List.mem_of_getElem? e) hx
 ·rcases List.mem_append.mp hk with z | z
  ·exact List.mem_append_left _ (d.sub k z)
  ·exact List.mem_append_right _ z
 ·rcases List.mem_append.mp h1 with z | z
  ·exact List.mem_append_left _ (d.closed b' z (fun y => h2 (List.mem_append_left _ y)) h3 g' hg o' ho' hx')
  ·exact absurd (List.mem_append_right _ z) h2
 ·rcases take_mem e ho' with z | rfl
  ·exact List.mem_append_left _ (d.part o' z hx')
  ·exact List.mem_append_right _ (List.mem_singleton_self _)
theorem Df.iff (d : Df G x T []) (k : Nat) : k ∈ T ↔ RX G x k := by
 refine ⟨d.rch k, fun h => ?_⟩
 induction h with
 | zero h => exact d.zero h
 | step _ hg ho hx ih => exact d.closed _ ih (fun z => nomatch z) _ hg _ ho hx
end
def trD (T : List Nat) : List (W × W) := T.map fun k : Nat => (W.int (k : Int), W.bl true)
theorem okT (T : List Nat) (k : Int) : okKey (trD T) (.int k) = true := by
 unfold okKey trD
 rw [Bool.or_eq_true]
 left
 simp [keyK, isT]
theorem in_tr (T : List Nat) (k : Nat) : (dgetW (trD T) (.int (k : Int))).isSome = decide (k ∈ T) := by
 unfold dgetW trD
 rw [Option.isSome_map, List.find?_map, Option.isSome_map]
 by_cases h : k ∈ T
 ·rw [decide_eq_true h, List.find?_isSome]
  exact ⟨k, h, by simp⟩
 ·rw [decide_eq_false h]
  cases e : T.find? ((fun p : W × W => decide (p.1 = W.int (k : Int))) ∘ fun k : Nat => (W.int (k : Int), W.bl true)) with
  | none => rfl
  | some x =>
   have h1 := List.find?_some e
   simp only [Function.comp, decide_eq_true_eq] at h1
   have := W.int.inj h1
   have h2 := List.mem_of_find?_eq_some e
   exact absurd (by rw [show k = x by omega]; exact h2) h
theorem put_tr (T : List Nat) (k : Nat) (h : k ∉ T) : dputW (trD T) (.int (k : Int)) (.bl true) = trD (T ++ [k]) := by
 unfold dputW
 have : ((trD T).any fun q => decide (q.1 = W.int (k : Int))) = false := by
  rw [List.any_eq_false]
  intro q hq
  unfold trD at hq
  obtain ⟨r, hr, rfl⟩ := List.mem_map.mp hq
  rw [decide_eq_true_eq]
  intro z
  have := W.int.inj z
  exact h (by rw [show k = r by omega]; exact hr)
 rw [this]
 unfold trD
 simp
structure Th (ph H : PH) (di qi : Nat) (T wl : List Nat) : Prop where
 ex : Ex ph H
 ld : ph.length <= di
 lq : ph.length <= qi
 ne : di ≠ qi
 d : H[di]? = some (.dct (trD T))
 q : H[qi]? = some (.lst (iw wl))
theorem Th.mono {ph H H' : PH} {di qi : Nat} {T wl : List Nat} (t : Th ph H di qi T wl) (x : Ex H H') : Th ph H' di qi T wl := ⟨t.ex.trans x, t.ld, t.lq, t.ne, x.get t.d, x.get t.q⟩
theorem pop_iw {H : PH} {qi b : Nat} {wl : List Nat} (h : H[qi]? = some (.lst (iw (wl ++ [b])))) : lift (popW (.ref qi) []) H = .ok (.int (b : Int)) (H.set qi (.lst (iw wl))) := by
 have : popW (.ref qi) [] H = some (.int (b : Int), H.set qi (.lst (iw wl))) := by
  unfold popW
  simp only [h]
  simp [iw]
 unfold lift
 rw [this]
theorem dfs_in {s0 s4 : Option W} {ph H : PH} {di qi b m o : Nat} {T wl g : List Nat} {G : List (List Nat)} {sx : Option Nat} (t : Th ph H di qi T wl) (d : Dfi G sx T wl b g m) (e : g[m]? = some o) (ho : o < G.length) (hG : Ok G) (hz : wl.length <= T.length) :
  ∃ H' T' wl', lb_law_reached_1 [s0, some (pw sx), some (.ref di), some (.ref qi), s4, some (.int (o : Int))] H = .ok (.nx [s0, some (pw sx), some (.ref di), some (.ref qi), s4, some (.int (o : Int))]) H' /\ Th ph H' di qi T' wl' /\ Dfi G sx T' wl' b g (m + 1) /\ T.length <= T'.length /\ wl'.length + T.length = wl.length + T'.length := by
 have hl : T.length <= G.length := nodup_len d.nd d.lt
 have ht := hG.top
 have hin : lift (ninV (.int (o : Int)) (.ref di)) H = .ok (.bl (!decide (o ∈ T))) H := by rw [ninv_dct t.d (okT T _), in_tr]
 unfold lb_law_reached_1
 have hne : lift (neW (.int (o : Int)) (pw sx)) H = .ok (.bl (!decide (some o = sx))) H := ne_pw (some o) sx H
 by_cases hx : some o = sx
 ·refine ⟨H, T, wl, ?_, t, d.skip e (fun z => absurd hx.symm z), Nat.le_refl _, rfl⟩
  ac_nf
  rw [bnd_ok hne]
  simp only [decide_eq_true hx]
  ac_nf
 by_cases h : o ∈ T
 ·refine ⟨H, T, wl, ?_, t, d.skip e (fun _ => h), Nat.le_refl _, rfl⟩
  ac_nf
  rw [bnd_ok hne]
  simp only [decide_eq_false hx]
  ac_nf
  rw [bnd_ok hin]
  simp only [decide_eq_true h]
  ac_nf
 ·have h2 : (H.set di (.dct (trD (T ++ [o]))))[qi]? = some (.lst (iw wl)) := by rw [set_ne t.ne]; exact t.q
  refine ⟨(H.set di (.dct (trD (T ++ [o])))).set qi (.lst (iw (wl ++ [o]))), T ++ [o], wl ++ [o], ?_, ⟨Ex.set (Ex.set t.ex t.ld _) t.lq _, t.ld, t.lq, t.ne, ?_, set_eq h2⟩, d.add e h (fun z => hx z.symm) ho, by simp, by simp; omega⟩
  ·have p1 : lift (setV (.ref di) (.int (o : Int)) (.bl true)) H = .ok () (H.set di (.dct (trD (T ++ [o])))) := by
    rw [setv_dct t.d (okT T _) (by unfold trD; rw [List.length_map]; exact Nat.lt_of_lt_of_le (by omega : T.length < 100) (by decide)), put_tr T o h]
   ac_nf
   rw [bnd_ok hne]
   simp only [decide_eq_false hx]
   ac_nf
   rw [bnd_ok hin]
   simp only [decide_eq_false h]
   ac_nf
   rw [bnd_ok p1]
   ac_nf
   rw [bnd_ok (chk_ref h2), bnd_ok (append_ref h2 (by rw [iw_len]; exact Nat.lt_of_lt_of_le (by omega : wl.length < 100) (by decide)) _), iw_app wl [o]]
   rfl
  ·rw [set_ne (Ne.symm t.ne)]; exact set_eq t.d
theorem dfs_out {s4 s5 : Option W} {ph H : PH} {wi di qi b : Nat} {T wl : List Nat} {G : List (List Nat)} {sx : Option Nat} (hw : Wy ph wi G) (hG : Ok G) (t : Th ph H di qi T (wl ++ [b])) (d : Df G sx T (wl ++ [b])) (hz : wl.length < T.length) :
  ∃ H' T' wl' s4' s5', lb_law_reached_2 [some (.ref wi), some (pw sx), some (.ref di), some (.ref qi), s4, s5] H = .ok (.nx [some (.ref wi), some (pw sx), some (.ref di), some (.ref qi), s4', s5']) H' /\ Th ph H' di qi T' wl' /\ Df G sx T' wl' /\ T.length <= T'.length /\ wl'.length + T.length = wl.length + T'.length := by
 have hb : b < G.length := d.lt b (d.sub b (by simp))
 obtain ⟨g, hg⟩ : ∃ g, G[b]? = some g := ⟨G[b], by simp [hb]⟩
 have hgm := List.mem_of_getElem? hg
 obtain ⟨r, hr, hrg⟩ := ix_wy hw hg
 have t1 : Th ph (H.set qi (.lst (iw wl))) di qi T wl := ⟨Ex.set t.ex t.lq _, t.ld, t.lq, t.ne, by rw [set_ne (Ne.symm t.ne)]; exact t.d, set_eq t.q⟩
 obtain ⟨σ', H', e, T', wl', s5', rfl, t', d', h1, h2⟩ := forG_inv (chk := fun p => decide (p[r]? = some (.lst (iw g)))) (g := gN 5) (b := lb_law_reached_1)
  (fun m σ H => ∃ T' wl' s5', σ = [some (.ref wi), some (pw sx), some (.ref di), some (.ref qi), some (.int (b : Int)), s5'] /\ Th ph H di qi T' wl' /\ Dfi G sx T' wl' b g m /\ T.length <= T'.length /\ wl'.length + T.length = wl.length + T'.length)
  (iw g) [some (.ref wi), some (pw sx), some (.ref di), some (.ref qi), some (.int (b : Int)), s5] (H.set qi (.lst (iw wl)))
  (fun m σ H ⟨_, _, _, _, t, _⟩ => decide_eq_true (t.ex.get hrg))
  (fun m x σ H hm ⟨T', wl', s5', e, t, d, h1, h2⟩ => by
   subst e
   obtain ⟨o, ho, rfl⟩ := iw_get hm
   obtain ⟨H', T2, wl2, e1, t2, d2, g1, g2⟩ := dfs_in (s0 := some (.ref wi)) (s4 := some (.int (b : Int))) t d ho (hG.lt g hgm o (List.mem_of_getElem? ho)) hG (by omega)
   exact ⟨_, _, rfl, _, _, e1, _, .inl rfl, T2, wl2, _, rfl, t2, d2, by omega, by omega⟩)
  ⟨T, wl, s5, rfl, t1, d.enter hg, Nat.le_refl _, rfl⟩
 rw [iw_len] at d'
 refine ⟨H', T', wl', some (.int (b : Int)), s5', ?_, t', d'.leave, h1, h2⟩
 unfold lb_law_reached_2
 ac_nf
 rw [bnd_ok (chk_ref t.q), bnd_ok (pop_iw t.q)]
 ac_nf
 rw [sFor_ok (iBoth_ref (i := r) (by
  rw [eOp_ap]
  show lift (ixV (.ref wi) (.int (b : Int))) _ = _
  exact hr _ t1.ex) (t1.ex.get hrg)) e]
theorem dat_iw (ph : PH) (n : Nat) (l : List Nat) : mapO (dat ph n) (iw l) = some (l.map fun x : Nat => PyData.int (x : Int)) := mapO_map (dat ph n) (fun x : Nat => W.int (x : Int)) (fun x : Nat => PyData.int (x : Int)) (fun x => dat_i ph n _) l
def There (ph : PH) (G : List (List Nat)) (sx : Option Nat) (r : Out W) : Prop := ∃ di ph' T, r = .ok (.ref di) ph' /\ Ex ph ph' /\ ph'[di]? = some (.dct (trD T)) /\ (∀ k, k ∈ T ↔ RX G sx k) /\ ph.length <= di
theorem list_tr {H : PH} {di : Nat} {T : List Nat} (hd : H[di]? = some (.dct (trD T))) : lift (listV [.ref di]) H = .ok (.ref H.length) (H ++ [.lst (iw T)]) := by
 have : listV [.ref di] H = some (.ref H.length, H ++ [.lst (iw T)]) := by
  unfold listV
  simp only [dct_d hd]
  have h1 : ((trD T).all fun p => !isT p.1) = true := by
   rw [List.all_eq_true]
   intro p hp
   unfold trD at hp
   obtain ⟨x, _, rfl⟩ := List.mem_map.mp hp
   rfl
  unfold keysA
  rw [if_pos h1]
  unfold trD iw
  rw [List.map_map]
  rfl
 unfold lift
 rw [this]
theorem dfs_run {ph H0 : PH} {wi qi : Nat} {G : List (List Nat)} {sx : Option Nat} {T0 : List Nat} (hw : Wy ph wi G) (hG : Ok G) (t0 : Th ph H0 ph.length qi T0 T0) (d0 : Df G sx T0 T0) : ∃ H' T s4 s5, sWhile (eT (eOp neW (eVar 3) (eLst aNil))) lb_law_reached_2 [some (.ref wi), some (pw sx), some (.ref ph.length), some (.ref qi), none, none] H0 = .ok (.nx [some (.ref wi), some (pw sx), some (.ref ph.length), some (.ref qi), s4, s5]) H' /\ Th ph H' ph.length qi T [] /\ Df G sx T [] := by
 have htop := hG.top
 have hl0 : T0.length <= G.length := nodup_len d0.nd d0.lt
 obtain ⟨σ', H', e, T, s4, s5, rfl, t, d⟩ := while_inv (t := eT (eOp neW (eVar 3) (eLst aNil))) (b := lb_law_reached_2)
  (fun k σ H => ∃ T wl s4 s5, σ = [some (.ref wi), some (pw sx), some (.ref ph.length), some (.ref qi), s4, s5] /\ Th ph H ph.length qi T wl /\ Df G sx T wl /\ k + 2 * T.length = 2 * G.length + wl.length /\ wl.length <= T.length)
  (fun σ H => ∃ T s4 s5, σ = [some (.ref wi), some (pw sx), some (.ref ph.length), some (.ref qi), s4, s5] /\ Th ph H ph.length qi T [] /\ Df G sx T [])
  (fun k σ H ⟨T, wl, s4, s5, e, t, d, hk, hz⟩ => by
   subst e
   have hl : T.length <= G.length := nodup_len d.nd d.lt
   have et : eT (eOp neW (eVar 3) (eLst aNil)) [some (.ref wi), some (pw sx), some (.ref ph.length), some (.ref qi), s4, s5] H = .ok (!wl.isEmpty) (H ++ [.lst []]) := by
    ac_nf
    rw [bnd_new _ _ _ (small (by simp))]
    rw [bnd_ok (l_neD (eq_nil ((Ex.one _ _).get t.q) (get_new _ _) (dat_iw _ _ wl)))]
    ac_nf
    cases wl <;> rfl
   rcases List.eq_nil_or_concat wl with rfl | ⟨wl', b, rfl⟩
   ·left
    exact ⟨_, by rw [et]; rfl, T, s4, s5, rfl, t.mono (Ex.one _ _), d⟩
   ·right
    rw [List.concat_eq_append] at et t d hk hz
    have hz' : wl'.length < T.length := by simp at hz; omega
    obtain ⟨H', T', wl2, s4', s5', e1, t1, d1, h1, h2⟩ := dfs_out (s4 := s4) (s5 := s5) hw hG (t.mono (Ex.one H (.lst []))) d hz'
    have hl' : T'.length <= G.length := nodup_len d1.nd d1.lt
    simp at hk
    refine ⟨_, by rw [et]; simp, _, H', e1, _, .inl rfl, 2 * G.length + wl2.length - 2 * T'.length, by omega, T', wl2, s4', s5', rfl, t1, d1, by omega, by omega⟩)
  (2 * G.length - T0.length) _ H0 ⟨T0, T0, none, none, rfl, t0, d0, by omega, Nat.le_refl _⟩
 exact ⟨H', T, s4, s5, e, t, d⟩
theorem dfs_s {ph : PH} {wi : Nat} {G : List (List Nat)} (sx : Option Nat) (hw : Wy ph wi G) (hG : Ok G) : There ph G sx (f_law_reached [.ref wi, pw sx] ph) := by
 unfold f_law_reached b_law_reached
 rw [fM_2]
 refine bseq (P := There ph G sx) (σ1 := [some (.ref wi), some (pw sx), some (.ref ph.length), none, none, none]) (ph1 := ph ++ [.dct []]) rfl ?_
 have hne : ∀ H, lift (neW (pw sx) (.int 0)) H = .ok (.bl (!decide (sx = some 0))) H := fun H => ne_pw sx (some 0) H
 have fin : ∀ T0 : List Nat, Df G sx T0 T0 -> There ph G sx (bnd (sSeq (sAsg (eCallB listV (aCons (eVar 2) aNil)) (gN 3)) (sSeq (sWhile (eT (eOp neW (eVar 3) (eLst aNil))) lb_law_reached_2) (sRet (eVar 2))) [some (.ref wi), some (pw sx), some (.ref ph.length), none, none, none]) fEnd (ph ++ [.dct (trD T0)])) := fun T0 d0 => by
  have hd0 : (ph ++ [PO.dct (trD T0)])[ph.length]? = some (.dct (trD T0)) := get_new _ _
  refine bseq (P := There ph G sx) (σ1 := [some (.ref wi), some (pw sx), some (.ref ph.length), some (.ref (ph ++ [PO.dct (trD T0)]).length), none, none]) (ph1 := ph ++ [.dct (trD T0)] ++ [.lst (iw T0)]) ?_ ?_
  ·ac_nf
   rw [bnd_ok (list_tr hd0)]
   ac_nf
  have t0 : Th ph (ph ++ [.dct (trD T0)] ++ [.lst (iw T0)]) ph.length (ph ++ [PO.dct (trD T0)]).length T0 T0 := ⟨(Ex.one _ _).trans (Ex.one _ _), Nat.le_refl _, by simp, by simp, (Ex.one _ _).get hd0, get_new _ _⟩
  obtain ⟨H', T, s4, s5, e, t, d⟩ := dfs_run hw hG t0 d0
  refine bseq e ?_
  exact ⟨ph.length, H', T, rfl, t.ex, t.d, d.iff, Nat.le_refl _⟩
 by_cases hx : sx = some 0
 ·refine bseq (P := There ph G sx) (σ1 := [some (.ref wi), some (pw sx), some (.ref ph.length), none, none, none]) (ph1 := ph ++ [.dct (trD [])]) ?_ (fin [] ⟨by simp, fun k h => (nomatch h), fun z => absurd hx z, fun k h => (nomatch h), fun k h => (nomatch h), fun b h => (nomatch h)⟩)
  ac_nf
  rw [bnd_ok (hne _)]
  simp only [decide_eq_true hx]
  ac_nf
  rfl
 ·refine bseq (P := There ph G sx) (σ1 := [some (.ref wi), some (pw sx), some (.ref ph.length), none, none, none]) (ph1 := ph ++ [.dct (trD [0])]) ?_ (fin [0] ⟨by simp, fun k hk => by rw [List.mem_singleton.mp hk]; exact hG.pos, fun _ => by simp, fun k hk => by rw [List.mem_singleton.mp hk]; exact .zero hx, fun k hk => hk, fun b h1 h2 => absurd h1 h2⟩)
  have s1 : (ph ++ [PO.dct []]).set ph.length (.dct (trD [0])) = ph ++ [.dct (trD [0])] := by
   have := set_mid ph [] (PO.dct []) (.dct (trD [0]))
   simpa using this
  have p1 : lift (setV (.ref ph.length) (.int 0) (.bl true)) (ph ++ [PO.dct []]) = .ok () (ph ++ [.dct (trD [0])]) := by
   have := setv_dct (ph := ph ++ [PO.dct []]) (k := .int 0) (get_new ph (.dct [])) (by decide) (by decide) (.bl true)
   rw [this, <- s1]
   rfl
  ac_nf
  rw [bnd_ok (hne _)]
  simp only [decide_eq_false hx]
  ac_nf
  rw [bnd_ok p1]
  ac_nf
theorem whole_s (i : Int) (ph : PH) : f_law_whole [.int i] ph = .ok (.bl true) ph := by
 unfold f_law_whole b_law_whole
 ac_nf
theorem mapO_pt {α β : Type} {f : α -> Option β} : ∀ {l : List α} {m : List β}, l.length = m.length -> (∀ (k : Nat) a b, l[k]? = some a -> m[k]? = some b -> f a = some b) -> mapO f l = some m
 | [], [], _, _ => rfl
 | [], _ :: _, h, _ => by cases h
 | _ :: _, [], h, _ => by cases h
 | a :: l, b :: m, h, k => by
  unfold mapO
  rw [k 0 a b rfl rfl, mapO_pt (Nat.succ.inj h) fun i x y h1 h2 => k (i + 1) x y (by simpa using h1) (by simpa using h2)]
def dL (l : List Nat) : PyData := .list (l.map fun x : Nat => PyData.int (x : Int))
def dLL (E : List (List Nat)) : PyData := .list (E.map dL)
theorem dat_l {H : PH} {r : Nat} {l : List Nat} (h : H[r]? = some (.lst (iw l))) (n : Nat) : dat H (n + 1) (.ref r) = some (dL l) := by
 unfold dat
 simp only [h, dat_iw]
 rfl
theorem dat_ll {H : PH} {i : Nat} {ws : List W} {E : List (List Nat)} (h : H[i]? = some (.lst ws)) (hl : ws.length = E.length) (hp : ∀ (k : Nat) w l, ws[k]? = some w -> E[k]? = some l -> ∃ r, w = .ref r /\ H[r]? = some (.lst (iw l))) : dat H 40 (.ref i) = some (dLL E) := by
 have : mapO (dat H 39) ws = some (E.map dL) := mapO_pt (by rw [List.length_map]; exact hl) fun k w d h1 h2 => by
  rw [List.getElem?_map] at h2
  obtain ⟨l, hl, rfl⟩ := Option.map_eq_some_iff.mp h2
  obtain ⟨r, rfl, hr⟩ := hp k w l h1 hl
  exact dat_l hr 38
 unfold dat
 simp only [h, this]
 rfl
theorem dat_wy {H : PH} {i : Nat} {G : List (List Nat)} (h : Wy H i G) : dat H 40 (.ref i) = some (dLL G) := by
 obtain ⟨rs, h1, h2, h3⟩ := h
 refine dat_ll h1 (by rw [List.length_map]; exact h2) fun k w l hw hl => ?_
 rw [List.getElem?_map] at hw
 obtain ⟨r, hr, rfl⟩ := Option.map_eq_some_iff.mp hw
 exact ⟨r, rfl, h3 k r l hr hl⟩
theorem Tb.wy {H : PH} {i lo hi : Nat} {G : List (List Nat)} (t : Tb H i lo hi (EE G)) : Wy H i G := by
 obtain ⟨ws, t⟩ := t
 have hl : ws.length = G.length := by rw [t.len]; unfold EE; rw [List.length_map]
 have hat : ∀ (k : Nat) w, ws[k]? = some w -> ∃ r g, w = .ref r /\ G[k]? = some g /\ H[r]? = some (.lst (iw g)) := fun k w hw => by
  have hk := (List.getElem?_eq_some_iff.mp hw).1
  obtain ⟨g, hg⟩ : ∃ g, G[k]? = some g := ⟨G[k]'(by omega), by simp⟩
  obtain ⟨r, e, _, _, _, hr⟩ := t.ent k w _ hw (EE_get hg)
  exact ⟨r, g, e, hg, hr⟩
 have hrs : ws = (ws.map fun w => match w with | .ref r => r | _ => 0).map W.ref := by
  rw [List.map_map]
  conv => lhs; rw [<- List.map_id' ws]
  apply List.map_congr_left
  intro w hw
  obtain ⟨k, hk⟩ := List.mem_iff_getElem?.mp hw
  obtain ⟨r, g, rfl, _⟩ := hat k w hk
  rfl
 refine ⟨_, by rw [t.at_, <- hrs], by rw [List.length_map]; exact hl, fun k r g hr hg => ?_⟩
 rw [List.getElem?_map] at hr
 obtain ⟨w, hw, rfl⟩ := Option.map_eq_some_iff.mp hr
 obtain ⟨r, g', rfl, hg', h⟩ := hat k w hw
 rw [hg] at hg'
 cases hg'
 exact h
theorem EE_of {G : List (List Nat)} {E : List (Option (List W))} (hl : E.length = G.length) (h : ∀ (j : Nat) c, E[j]? = some c -> c = some (iw (gOf G j))) : E = EE G := by
 apply List.ext_getElem?
 intro j
 unfold EE
 rw [List.getElem?_map]
 by_cases hj : j < G.length
 ·obtain ⟨c, hc⟩ : ∃ c, E[j]? = some c := ⟨E[j]'(by omega), by simp⟩
  obtain ⟨g, hg⟩ : ∃ g, G[j]? = some g := ⟨G[j], by simp [hj]⟩
  rw [hc, h j c hc, hg]
  unfold gOf
  rw [hg]
  rfl
 ·rw [List.getElem?_eq_none (by omega), List.getElem?_eq_none (by omega)]
  rfl
theorem copies {ph : PH} {wi : Nat} {G : List (List Nat)} {m : EM} {σ : PSt} (hw : Wy ph wi G) (hG : Ok G) (hm : m σ ph = .ok (.ref wi) ph) : ∃ ph', eComp (iBoth m) [none] (gN 0) cTrue (eCallB listV (aCons (eVar 0) aNil)) σ ph = .ok (.ref ph.length) ph' /\ Ex ph ph' /\ Wy ph' ph.length G := by
  obtain ⟨rs, h1, h2, h3⟩ := hw
  have ht := hG.top
  obtain ⟨ph', E, e, x, hE, hP, t⟩ := comp_tb rs W.ref (cap := [none]) (g := gN 0) (e := eCallB listV (aCons (eVar 0) aNil)) (iBoth_ref hm h1) (fun p x => decide_eq_true (x.get h1)) (by omega) (fun j c => c = some (iw (gOf G j))) (fun σ => ∃ o, σ = [o]) ⟨none, rfl⟩
    (fun j r hj σ H hS y hlt => by
      obtain ⟨o, rfl⟩ := hS
      have hjl := (List.getElem?_eq_some_iff.mp hj).1
      obtain ⟨g, hg⟩ : ∃ g, G[j]? = some g := ⟨G[j]'(by omega), by simp⟩
      have hr := y.get (h3 j r g hj hg)
      have el : lift (listV [.ref r]) H = .ok (.ref H.length) (H ++ [.lst (iw g)]) := by
        have : listV [.ref r] H = some (.ref H.length, H ++ [.lst (iw g)]) := by
          unfold listV listW
          have es : seqW (.ref r) H = some (iw g) := by unfold seqW; simp only [hr]
          simp only [dct_l hr, es]
        unfold lift
        rw [this]
      refine ⟨_, rfl, ⟨_, rfl⟩, .ref H.length, (H ++ [PO.lst (iw g)] : PH), some (iw g), (show eCallB listV (aCons (eVar 0) aNil) [some (.ref r)] H = .ok (.ref H.length) (H ++ [.lst (iw g)]) from el), Ex.one _ _, by unfold gOf; rw [hg]; rfl, H.length, rfl, Nat.le_refl _, by simp, by omega, get_new _ _⟩)
  refine ⟨ph', e, x, ?_⟩
  rw [EE_of (by rw [hE, h2]) hP] at t
  exact t.wy
theorem dat_pw (ph : PH) (n : Nat) (t : Tl) : mapO (dat ph n) (t.map pw) = some (t.map fun x : Option Nat => match x with | none => PyData.none | some k => PyData.int (k : Int)) :=
 mapO_map (dat ph n) pw (fun x : Option Nat => match x with | none => PyData.none | some k => PyData.int (k : Int)) (fun x => by cases x with | none => cases n <;> rfl | some k => exact dat_i ph n _) t
structure Lw (G : List (List Nat)) (q : List Nat) (t : Tl) (H : PH) (wi fi di li : Nat) : Prop where
 ok : Ok G
 w : Wy H wi G
 F : Fin G q t
 o : Od G q
 rx : ∀ k, k ∈ q ↔ RX G none k
 f : H[fi]? = some (.lst (t.map pw))
 d : ∃ T, H[di]? = some (.dct (trD T)) /\ ∀ k, k ∈ T ↔ RX G none k
 l : ∀ v, v < G.length -> ∃ r T, lift (ixV (.ref li) (.int (v : Int))) H = .ok (.ref r) H /\ H[r]? = some (.dct (trD T)) /\ ∀ k, k ∈ T ↔ RX G (some v) k
open Classical in
theorem in_tr2 {H : PH} {r : Nat} {T : List Nat} {p : Nat -> Prop} (h : H[r]? = some (.dct (trD T))) (hp : ∀ k, k ∈ T ↔ p k) (k : Nat) : lift (inV (.int (k : Int)) (.ref r)) H = .ok (.bl (decide (p k))) H := by
 rw [inv_dct h (okT T _), in_tr]
 congr 3
 exact propext (hp k) ▸ by congr
open Classical in
theorem nin_tr2 {H : PH} {r : Nat} {T : List Nat} {p : Nat -> Prop} (h : H[r]? = some (.dct (trD T))) (hp : ∀ k, k ∈ T ↔ p k) (k : Nat) : lift (ninV (.int (k : Int)) (.ref r)) H = .ok (.bl (!decide (p k))) H := by
 rw [ninv_dct h (okT T _), in_tr]
 congr 4
 exact propext (hp k) ▸ by congr
section
variable {G : List (List Nat)} {q : List Nat} {t : Tl} {H : PH} {wi fi di li : Nat}
def sg (scr : Option W) (wi hh fi di li : Nat) (o6 o7 o8 o9 : Option W) : PSt := [scr, some (.ref wi), some (.ref hh), some (.ref fi), some (.ref di), some (.ref li), o6, o7, o8, o9]
theorem Lw.found (w : Lw G q t H wi fi di li) {b : Nat} {x : Option Nat} (h : t[b]? = some x) : lift (ixV (.ref fi) (.int (b : Int))) H = .ok (pw x) H := by
 have hb := (List.getElem?_eq_some_iff.mp h).1
 exact ixv_ref w.f (by rw [atI_nat _ _ (by rw [List.length_map]; exact hb), List.getElem?_map, h]; rfl)
theorem iLen {scr o6 o7 o8 o9 : Option W} {hh : Nat} (w : Lw G q t H wi fi di li) : iR1 (aCons (eCallB lenW (aCons (eVar 1) aNil)) aNil) (sg scr wi hh fi di li o6 o7 o8 o9) H = .ok (rngW 0 G.length, fun _ => true) H := by
 have htop := w.ok.top
 have e : (aCons (eCallB lenW (aCons (eVar 1) aNil)) aNil) (sg scr wi hh fi di li o6 o7 o8 o9) H = .ok [.int (G.length : Int)] H := by
  unfold sg
  ac_nf
  rw [bnd_ok (len_wy w.w)]
  ac_nf
 rw [iR1_ap e (by omega) (by omega)]
 rfl
open Classical in
theorem other1 {scr o9 : Option W} {hh b g o : Nat} (w : Lw G q t H wi fi di li) (hg : t[b]? = some (some g)) (ho : o < G.length) :
  lb_law_1 (sg scr wi hh fi di li (some (.int (b : Int))) (some (.int (g : Int))) (some (.int (o : Int))) o9) H = .ok (.nx (sg scr wi hh fi di li (some (.int (b : Int))) (some (.int (g : Int))) (some (.int (o : Int))) o9)) H := by
 obtain ⟨r, T, h1, h2, h3⟩ := w.l o ho
 have c1 := nin_tr2 h2 h3 b
 have c2 := in_tr2 h2 h3 g
 have key : o ≠ b -> ¬ RX G (some o) b -> ¬ RX G (some o) g := fun n hd => w.F.tr.lp _ _ hg o n hd
 unfold lb_law_1 sg
 ac_nf
 by_cases e1 : o = b
 ·have : (o : Int) = (b : Int) := by omega
  simp only [decide_eq_true this]
  ac_nf
 have n1 : ¬ (o : Int) = (b : Int) := by omega
 simp only [decide_eq_false n1]
 ac_nf
 by_cases e2 : o = g
 ·have : (o : Int) = (g : Int) := by omega
  simp only [decide_eq_true this]
  ac_nf
 have n2 : ¬ (o : Int) = (g : Int) := by omega
 simp only [decide_eq_false n2]
 ac_nf
 rw [bnd_ok h1, bnd_ok c1]
 by_cases e3 : RX G (some o) b
 ·simp only [decide_eq_true e3]
  ac_nf
 simp only [decide_eq_false e3]
 ac_nf
 rw [bnd_ok h1, bnd_ok c2]
 simp only [decide_eq_false (key e1 e3)]
 ac_nf
open Classical in
theorem block1' {scr o7 o8 o9 : Option W} {hh b : Nat} (w : Lw G q t H wi fi di li) (hb : b < G.length) :
  ∃ o7' o8', lb_law_2 (sg scr wi hh fi di li (some (.int (b : Int))) o7 o8 o9) H = .ok (.nx (sg scr wi hh fi di li (some (.int (b : Int))) o7' o8' o9)) H := by
 obtain ⟨x, hx⟩ : ∃ x, t[b]? = some x := ⟨t[b]'(by rw [w.F.tr.len]; exact hb), by simp⟩
 obtain ⟨T, d1, d2⟩ := w.d
 have cb := nin_tr2 d1 d2 b
 have e0 := w.found hx
 cases x with
 | none =>
  refine ⟨some .non, o8, ?_⟩
  have hz : b = 0 \/ ¬ RX G none b := by
   by_cases z : b = 0
   ·exact .inl z
   ·refine .inr fun h => ?_
    rcases w.F.all b ((w.rx b).mpr h) with y | ⟨g, y⟩
    ·exact z y
    ·rw [hx] at y; cases y
  unfold lb_law_2 sg
  ac_nf
  rw [bnd_ok e0]
  unfold pw
  ac_nf
  by_cases z : b = 0
  ·have : (b : Int) = 0 := by omega
   simp only [decide_eq_true this]
   ac_nf
  ·have : ¬ (b : Int) = 0 := by omega
   simp only [decide_eq_false this]
   ac_nf
   rw [bnd_ok cb]
   simp only [decide_eq_false (hz.resolve_left z)]
   ac_nf
 | some g =>
  obtain ⟨g1, g2, g3, g4⟩ := w.F.tr.good _ _ hx
  have ngb : g ≠ b := fun z => by rw [z] at g4; exact Nat.lt_irrefl _ g4
  obtain ⟨r, T2, l1, l2, l3⟩ := w.l g (w.o.lt g g3)
  obtain ⟨σ', H', ef, o8', rfl, rfl⟩ := forG_inv (chk := fun _ => true) (g := gN 8) (b := lb_law_1)
   (fun j σ H1 => ∃ o8', σ = sg scr wi hh fi di li (some (.int (b : Int))) (some (.int (g : Int))) o8' o9 /\ H = H1)
   (rngW 0 G.length) (sg scr wi hh fi di li (some (.int (b : Int))) (some (.int (g : Int))) o8 o9) H (fun _ _ _ _ => rfl)
   (fun j y σ H1 hj ⟨o8', e, e2⟩ => by
    subst e
    subst e2
    obtain ⟨hj1, rfl⟩ := rngW_get hj
    rw [Int.zero_add]
    exact ⟨_, _, rfl, _, H, other1 w hx hj1, _, .inl rfl, _, rfl, rfl⟩)
   ⟨o8, rfl, rfl⟩
  refine ⟨some (.int (g : Int)), o8', ?_⟩
  have ei := iLen (scr := scr) (hh := hh) (o6 := some (.int (b : Int))) (o7 := some (.int (g : Int))) (o8 := o8) (o9 := o9) w
  have es := sFor_ok ei ef
  unfold sg at es
  unfold lb_law_2 sg
  ac_nf
  rw [bnd_ok e0]
  unfold pw
  ac_nf
  have n0 : ¬ (b : Int) = 0 := by omega
  simp only [decide_eq_false n0]
  ac_nf
  rw [bnd_ok cb]
  simp only [decide_eq_true ((w.rx b).mp g1)]
  ac_nf
  rw [bnd_ok (whole_s _ _)]
  ac_nf
  have n1 : ¬ (g : Int) = (b : Int) := by omega
  simp only [decide_eq_false n1]
  ac_nf
  rw [bnd_ok (nin_tr2 d1 d2 g)]
  simp only [decide_eq_true ((w.rx g).mp g3)]
  ac_nf
  rw [bnd_ok l1, bnd_ok (in_tr2 l2 l3 b)]
  simp only [decide_eq_false (w.F.gate w.o hx)]
  ac_nf
  exact es
theorem loopL {scr o6 o7 o8 o9 : Option W} {hh : Nat} (w : Lw G q t H wi fi di li) :
  ∃ o6' o7' o8', sFor (iR1 (aCons (eCallB lenW (aCons (eVar 1) aNil)) aNil)) (gN 6) lb_law_2 (sg scr wi hh fi di li o6 o7 o8 o9) H = .ok (.nx (sg scr wi hh fi di li o6' o7' o8' o9)) H := by
 obtain ⟨σ', H', e, o6', o7', o8', rfl, rfl⟩ := forG_inv (chk := fun _ => true) (g := gN 6) (b := lb_law_2)
  (fun j σ H1 => ∃ o6' o7' o8', σ = sg scr wi hh fi di li o6' o7' o8' o9 /\ H = H1)
  (rngW 0 G.length) (sg scr wi hh fi di li o6 o7 o8 o9) H (fun _ _ _ _ => rfl)
  (fun j y σ H1 hj ⟨o6', o7', o8', e, e2⟩ => by
   subst e
   subst e2
   obtain ⟨hj1, rfl⟩ := rngW_get hj
   rw [Int.zero_add]
   obtain ⟨p7, p8, e⟩ := block1' (scr := scr) (o7 := o7') (o8 := o8') (o9 := o9) (hh := hh) w hj1
   exact ⟨_, _, rfl, _, H, e, _, .inl rfl, _, _, _, rfl, rfl⟩)
  ⟨o6, o7, o8, rfl, rfl⟩
 exact ⟨o6', o7', o8', sFor_ok (iLen w) e⟩
end
theorem lesses {ph : PH} {wi : Nat} {G : List (List Nat)} {scr hh fi di o5 o6 o7 o8 o9 : Option W} (hw : Wy ph wi G) (hG : Ok G) : ∃ ws ph', eComp (iR1 (aCons (eCallB lenW (aCons (eVar 1) aNil)) aNil)) [none, some 1] (gN 0) cTrue (eCall f_law_reached (aCons (eVar 1) (aCons (eVar 0) aNil))) [scr, some (.ref wi), hh, fi, di, o5, o6, o7, o8, o9] ph = .ok (.ref ph.length) ph' /\ Ex (ph ++ [.lst ws]) ph' /\ ws.length = G.length /\ ∀ (j : Nat) w, ws[j]? = some w -> ∃ d T, w = .ref d /\ ph'[d]? = some (.dct (trD T)) /\ ∀ k, k ∈ T ↔ RX G (some j) k := by
 have htop := hG.top
 have ei : iR1 (aCons (eCallB lenW (aCons (eVar 1) aNil)) aNil) [scr, some (.ref wi), hh, fi, di, o5, o6, o7, o8, o9] ph = .ok ((List.range G.length).map fun i : Nat => W.int (i : Int), fun _ => true) ph := by
  have e : (aCons (eCallB lenW (aCons (eVar 1) aNil)) aNil) [scr, some (.ref wi), hh, fi, di, o5, o6, o7, o8, o9] ph = .ok [.int (G.length : Int)] ph := by
   ac_nf
   rw [bnd_ok (len_wy hw)]
   ac_nf
  rw [iR1_ap e (by omega) (by omega), <- rng_map]
  rfl
 obtain ⟨ws, ph', e, x, hl, hR⟩ := comp_relH (List.range G.length) (fun i : Nat => W.int (i : Int)) (cap := [none, some 1]) (g := gN 0) (c := cTrue) (e := eCall f_law_reached (aCons (eVar 1) (aCons (eVar 0) aNil))) ei (fun _ _ => rfl) (small (by simp; omega))
  (fun j w H => ∃ d T, w = .ref d /\ H[d]? = some (.dct (trD T)) /\ (∀ k, k ∈ T ↔ RX G (some j) k) /\ ph.length < d)
  (fun j w H H' ⟨d, T, h1, h2, h3⟩ x => ⟨d, T, h1, x.get h2, h3⟩)
  (fun j w H o ⟨d, T, h1, h2, h3, h4⟩ => ⟨d, T, h1, by rw [set_ne (by omega)]; exact h2, h3, h4⟩)
  (fun σ => ∃ o, σ = [o, some (.ref wi)]) ⟨none, rfl⟩
  (fun j x hj σ H hS y hlt => by
   obtain ⟨o, rfl⟩ := hS
   have hx : x = j := by
    obtain ⟨h1, h2⟩ := List.getElem?_eq_some_iff.mp hj
    simp at h2
    omega
   subst hx
   obtain ⟨d, H2, T, e1, x1, h1, h2, h3⟩ := dfs_s (some x) (hw.mono y) hG
   exact ⟨_, rfl, ⟨_, rfl⟩, H, rfl, Ex.refl _, .ref d, H2, e1, x1, d, T, rfl, h1, h2, by omega⟩)
 exact ⟨ws, ph', e, x, by simpa using hl, fun j w hw => by obtain ⟨d, T, h1, h2, h3, _⟩ := hR j w hw; exact ⟨d, T, h1, h2, h3⟩⟩
theorem good (ns : List Int) (hn : ns.length <= 63) : ∃ ph', f_law [.fl (ns.map W.int)] [] = .ok (.bl true) ph' := by
 obtain ⟨wi, G, H1, e1, x1, w1, ok⟩ := ways_by ns []
 obtain ⟨H2, e2, x2, w2⟩ := copies (m := eVar 1) (σ := [some (.fl (ns.map W.int)), some (.ref wi), none, none, none, none, none, none, none, none]) w1 ok rfl
 obtain ⟨q, t, ⟨fi, H3, e3, x3, hf, lf⟩, F, od, rx⟩ := gates_s w2 ok
 have ww := w1.mono x2
 obtain ⟨di, H4, T, e4, x4, hd, hT, _⟩ := dfs_s none (ww.mono x3) ok
 obtain ⟨ws, H5, e5, x5, l5, h5⟩ := lesses (scr := some (.fl (ns.map W.int))) (hh := some (.ref H1.length)) (fi := some (.ref fi)) (di := some (.ref di)) (o5 := none) (o6 := none) (o7 := none) (o8 := none) (o9 := none) (ww.mono (x3.trans x4)) ok
 have x45 : Ex H4 H5 := (Ex.one _ _).trans x5
 have w5 : Lw G q t H5 wi fi di H4.length := by
  refine ⟨ok, ww.mono ((x3.trans x4).trans x45), F, od, rx, (x4.trans x45).get hf, ⟨T, x45.get hd, hT⟩, fun v hv => ?_⟩
  obtain ⟨w, hw⟩ : ∃ w, ws[v]? = some w := ⟨ws[v]'(by omega), by simp⟩
  obtain ⟨d, T', rfl, h1, h2⟩ := h5 v w hw
  exact ⟨d, T', ixv_ref (x5.get (get_new _ _)) (by rw [atI_nat _ _ (by omega)]; exact hw), h1, h2⟩
 obtain ⟨p6, p7, p8, e6⟩ := loopL (scr := some (.fl (ns.map W.int))) (hh := H1.length) (o6 := none) (o7 := none) (o8 := none) (o9 := none) w5
 have hf5 := w5.f
 have el : lift (listV [.ref fi]) H5 = .ok (.ref H5.length) (H5 ++ [.lst (t.map pw)]) := by
  have : listV [.ref fi] H5 = some (.ref H5.length, H5 ++ [.lst (t.map pw)]) := by
   unfold listV listW
   have es : seqW (.ref fi) H5 = some (t.map pw) := by unfold seqW; simp only [hf5]
   simp only [dct_l hf5, es]
  unfold lift
  rw [this]
 have xl : Ex H5 (H5 ++ [.lst (t.map pw)]) := Ex.one _ _
 have hf6 := xl.get hf5
 have tl : t.length = G.length := F.tr.len
 have htop := ok.top
 have x7 : Ex H2 ((H5 ++ [PO.lst (t.map pw)]).set fi (PO.lst (t.map pw ++ [W.int 0]))) := Ex.set (((x3.trans x4).trans x45).trans xl) lf _
 obtain ⟨q', t', ⟨f2, H8, e8, x8, hf8, _⟩, F', od', rx'⟩ := gates_s (w2.mono x7) ok
 have tt : t = t' := F.same od F' od' fun k => (rx k).trans (rx' k).symm
 subst tt
 have hcp : H8[H5.length]? = some (.lst (t.map pw)) := x8.get (by rw [set_ne (Nat.ne_of_lt (lt_of hf5))]; exact get_new _ _)
 have q5 : eqD H3 (.ref H1.length) (.ref wi) = some true := eqD_of (dat_wy (w2.mono x3)) (dat_wy (ww.mono x3))
 have z1 : eqD H8 (.ref f2) (.ref H5.length) = some true := eq_same hf8 hcp (dat_pw _ _ _)
 have z2 : eqD H8 (.ref H1.length) (.ref wi) = some true := eqD_of (dat_wy ((w2.mono x7).mono x8)) (dat_wy ((ww.mono x7).mono x8))
 unfold f_law b_law
 rw [fM_1]
 refine bseq (P := fun r => ∃ ph', r = .ok (.bl true) ph') (σ1 := [some (.fl (ns.map W.int)), some (.ref wi), none, none, none, none, none, none, none, none]) (ph1 := H1) ?_ ?_
 ·exact (bnd_ok e1).trans rfl
 refine bseq (P := fun r => ∃ ph', r = .ok (.bl true) ph') (σ1 := [some (.fl (ns.map W.int)), some (.ref wi), some (.ref H1.length), none, none, none, none, none, none, none]) (ph1 := H2) ?_ ?_
 ·exact (bnd_ok e2).trans rfl
 refine bseq (P := fun r => ∃ ph', r = .ok (.bl true) ph') (σ1 := [some (.fl (ns.map W.int)), some (.ref wi), some (.ref H1.length), some (.ref fi), none, none, none, none, none, none]) (ph1 := H3) ?_ ?_
 ·exact (bnd_ok e3).trans rfl
 refine bseq (P := fun r => ∃ ph', r = .ok (.bl true) ph') (σ1 := [some (.fl (ns.map W.int)), some (.ref wi), some (.ref H1.length), some (.ref fi), none, none, none, none, none, none]) (ph1 := H3) ?_ ?_
 ·ac_nf
  rw [bnd_ok (is_ref hf)]
  ac_nf
  rw [bnd_ok (len_ref hf), bnd_ok (len_wy (ww.mono x3))]
  ac_nf
  have : (((t.map pw).length : Nat) : Int) = (G.length : Int) := by rw [List.length_map, tl]
  simp only [decide_eq_true this]
  ac_nf
  rw [bnd_ok (l_neD q5)]
  ac_nf
 refine bseq (P := fun r => ∃ ph', r = .ok (.bl true) ph') (σ1 := [some (.fl (ns.map W.int)), some (.ref wi), some (.ref H1.length), some (.ref fi), some (.ref di), none, none, none, none, none]) (ph1 := H4) ?_ ?_
 ·exact (bnd_ok e4).trans rfl
 refine bseq (P := fun r => ∃ ph', r = .ok (.bl true) ph') (σ1 := sg (some (.fl (ns.map W.int))) wi H1.length fi di H4.length none none none none) (ph1 := H5) ?_ ?_
 ·exact (bnd_ok e5).trans rfl
 refine bseq (P := fun r => ∃ ph', r = .ok (.bl true) ph') e6 ?_
 refine bseq (P := fun r => ∃ ph', r = .ok (.bl true) ph') (σ1 := sg (some (.fl (ns.map W.int))) wi H1.length fi di H4.length p6 p7 p8 (some (.ref H5.length))) (ph1 := H5 ++ [.lst (t.map pw)]) ?_ ?_
 ·exact (bnd_ok el).trans rfl
 refine bseq (P := fun r => ∃ ph', r = .ok (.bl true) ph') (σ1 := sg (some (.fl (ns.map W.int))) wi H1.length fi di H4.length p6 p7 p8 (some (.ref H5.length))) (ph1 := (H5 ++ [PO.lst (t.map pw)]).set fi (PO.lst (t.map pw ++ [W.int 0]))) ?_ ?_
 ·unfold sg
  ac_nf
  rw [bnd_ok (chk_ref hf6), bnd_ok (append_ref hf6 (by rw [List.length_map, tl]; exact Nat.lt_of_lt_of_le (by omega : G.length < 100) (by decide)) _)]
  rfl
 refine ⟨H8, ?_⟩
 unfold sg
 ac_nf
 rw [bnd_ok e8, bnd_ok (l_eqD z1)]
 ac_nf
 rw [bnd_ok (l_eqD z2)]
 ac_nf
end IL.K07
open PySem PySem.W PyProof.Rows
set_option maxHeartbeats 0 in
theorem PySem.Challenge.cw_boxwright_k07_whole_gates_holds : PySem.Challenge.rw_boxwright_k07_whole_gates.Holds := by
 w_on
 o_law
 k_head
 (case hw => w_witness2)
 k_fill
 refine IL.K07.walk_law (l := PySem.Challenge.rw_boxwright_k07_whole_gates) (fun ns hn => IL.K07.good ns hn) rfl rfl (fun w h Y => PySem.W.km_in_of Y) ?K ?T ?F
 case K => intro w; kernel_rfl
 case T =>
  intro w h Y
  refine IL.tabs_of ?_ (PySem.W.km_in_of Y) (PySem.W.km_tabs_of Y)
  kernel_rfl
 case F =>
  intro w mg fa h KX G hmg
  refine' IL.K07.all_mk KX G hmg ?a_law_cell_at ?l_law_cell_at ?c_law_cell_at ?k_law_cell_at ?a_law_ways_by ?l_law_ways_by ?c_law_ways_by ?k_law_ways_by ?a_found_from ?l_found_from ?c_found_from ?k_found_from ?a_aheads ?l_aheads ?c_aheads ?k_aheads ?a_comes ?l_comes ?c_comes ?k_comes ?a_meeting ?l_meeting ?c_meeting ?k_meeting ?a_gate_so_far ?l_gate_so_far ?c_gate_so_far ?k_gate_so_far ?a_gates ?l_gates ?c_gates ?k_gates ?a_law_reached ?l_law_reached ?c_law_reached ?k_law_reached ?a_law_whole ?l_law_whole ?c_law_whole ?k_law_whole ?a_law ?l_law ?c_law ?k_law ?w1_aheads ?w2_aheads ?w3_aheads ?w4_aheads ?w5_aheads ?z_bool ?z_dict ?z_enumerate ?z_int ?z_isinstance ?z_len ?z_list ?z_range ?z_sorted
  (case a_law_cell_at => k_is)
  (case l_law_cell_at => k_is)
  (case c_law_cell_at => k_is)
  (case k_law_cell_at => k_is)
  (case a_law_ways_by => k_is)
  (case l_law_ways_by => k_is)
  (case c_law_ways_by => k_is)
  (case k_law_ways_by => k_is)
  (case a_found_from => k_is)
  (case l_found_from => k_is)
  (case c_found_from => k_is)
  (case k_found_from => k_is)
  (case a_aheads => k_is)
  (case l_aheads => k_is)
  (case c_aheads => k_is)
  (case k_aheads => k_is)
  (case a_comes => k_is)
  (case l_comes => k_is)
  (case c_comes => k_is)
  (case k_comes => k_is)
  (case a_meeting => k_is)
  (case l_meeting => k_is)
  (case c_meeting => k_is)
  (case k_meeting => k_is)
  (case a_gate_so_far => k_is)
  (case l_gate_so_far => k_is)
  (case c_gate_so_far => k_is)
  (case k_gate_so_far => k_is)
  (case a_gates => k_is)
  (case l_gates => k_is)
  (case c_gates => k_is)
  (case k_gates => k_is)
  (case a_law_reached => k_is)
  (case l_law_reached => k_is)
  (case c_law_reached => k_is)
  (case k_law_reached => k_is)
  (case a_law_whole => k_is)
  (case l_law_whole => k_is)
  (case c_law_whole => k_is)
  (case k_law_whole => k_is)
  (case a_law => k_is)
  (case l_law => k_is)
  (case c_law => k_is)
  (case k_law => k_is)
  (case w1_aheads => exact rfl)
  (case w2_aheads => k_is)
  (case w3_aheads => exact rfl)
  (case w4_aheads => exact rfl)
  (case w5_aheads => kernel_rfl)
  (case z_bool => k_is)
  (case z_dict => k_is)
  (case z_enumerate => k_is)
  (case z_int => k_is)
  (case z_isinstance => k_is)
  (case z_len => k_is)
  (case z_list => k_is)
  (case z_range => k_is)
  (case z_sorted => k_is)
