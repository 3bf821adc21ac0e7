import PyProof.Rows.All
import Wide.All
import OpenK.AllK
import Wide.FinOn
import Lean
import PyProof.EqAt
import PyProof.EqKinds
import PyProof.TupleCall
import PyProof.P3Eq
import PyProof.NeData
import PyProof.AttrMissHeap
import KE.KDictOf
import PyProof.DictItems
import PyProof.Rows.Range3
import KE.KEqDict
import PyProof.FactsAll.NoneType_1
import PyProof.FactsAll.bool_1
import PySem.Challenge.RW_boxwright_k23_whole_rows_ordered
set_option Elab.async false
set_option linter.all false
set_option maxRecDepth 100000
set_option maxHeartbeats 8000000
namespace L2
open PySem PySem.Spec PyProof.Rows
abbrev Key := Sum Int Str
def l5 : Key -> Value -> Bool
 | .inl k, v => Value.isInt k v
 | .inr x, v => Value.isStrOf x v
def kX (w : World) : Key -> Int
 | .inl k => hashInt k
 | .inr x => hashStr w x
theorem gO : ∀ {k : Key} {v : Value}, l5 k v = true -> (∃ i t, k = Sum.inl i /\ v = Value.int i t) \/ (∃ x t, k = Sum.inr x /\ v = Value.str x t)
 | .inl i, v, h => by
  obtain ⟨t, e⟩ := Value.isInt_shape (k := i) (v := v) h
  exact .inl ⟨i, t, rfl, e⟩
 | .inr x, v, h => by
  obtain ⟨t, e⟩ := Value.isStrOf_shape (x := x) (v := v) h
  exact .inr ⟨x, t, rfl, e⟩
theorem A6 (i : Int) (t : Tok) : l5 (.inl i) (.int i t) = true := by simp [l5, Value.isInt]
theorem A7 (x : Str) (t : Tok) : l5 (.inr x) (.str x t) = true := by simp [l5, Value.isStrOf]
theorem tN (a b : Int) : decide ((Sum.inl a : Key) = Sum.inl b) = (a == b) := by
 by_cases e : a = b
 ·subst e; simp
 ·have h : ¬ (Sum.inl a : Key) = Sum.inl b := fun q => e (Sum.inl.inj q)
  rw [decide_eq_false h]
  exact (beq_eq_false_iff_ne.mpr e).symm
theorem C2 (a b : Str) : decide ((Sum.inr a : Key) = Sum.inr b) = decide (a = b) := by
 by_cases e : a = b
 ·subst e; simp
 ·have h : ¬ (Sum.inr a : Key) = Sum.inr b := fun q => e (Sum.inr.inj q)
  rw [decide_eq_false h, decide_eq_false e]
theorem xh (a : Int) (b : Str) : decide ((Sum.inl a : Key) = Sum.inr b) = false := decide_eq_false (fun q => nomatch q)
theorem xi (a : Str) (b : Int) : decide ((Sum.inr a : Key) = Sum.inl b) = false := decide_eq_false (fun q => nomatch q)
def bi (prog : Program) (w : World) : PySem.KeyKind prog w Key where
 is := l5
 hash := kX w
 inj := fun v a b ha hb => by
  rcases gO ha with ⟨i, t, rfl, rfl⟩ | ⟨x, t, rfl, rfl⟩
  ·rcases gO hb with ⟨j, u, rfl, e⟩ | ⟨y, u, rfl, e⟩
   ·injection e with e1 _; rw [e1]
   ·exact nomatch e
  ·rcases gO hb with ⟨j, u, rfl, e⟩ | ⟨y, u, rfl, e⟩
   ·exact nomatch e
   ·injection e with e1 _; rw [e1]
 byValue := fun k v h => by
  rcases gO h with ⟨i, t, rfl, rfl⟩ | ⟨x, t, rfl, rfl⟩ <;> rfl
 pyHash := fun hv h => by
  rcases gO hv with ⟨i, t, rfl, rfl⟩ | ⟨x, t, rfl, rfl⟩
  ·exact wpAny_pyHash_int h
  ·exact wpAny_pyHash_str h
 eqBool := fun hu hv h => by
  rcases gO hu with ⟨i, t, rfl, rfl⟩ | ⟨x, t, rfl, rfl⟩
  ·rcases gO hv with ⟨j, u, rfl, rfl⟩ | ⟨y, u, rfl, rfl⟩
   ·rw [tN] at h; exact wpAny_eqBool_int h
   ·rw [xh] at h; exact SeqAt.EqAt.int_str i t y u _ _ _ _ h
  ·rcases gO hv with ⟨j, u, rfl, rfl⟩ | ⟨y, u, rfl, rfl⟩
   ·rw [xi] at h; exact SeqAt.EqAt.str_int x t j u _ _ _ _ h
   ·rw [C2] at h; exact wpAny_eqBool_str h
 «strs» := fun k x t v h => by
  rcases gO h with ⟨i, u, rfl, e⟩ | ⟨y, u, rfl, e⟩
  ·exact nomatch e
  ·injection e with e1 _
   subst e1
   cases v <;> rfl
theorem M8 (prog : Program) (w : World) (i : Int) (t : Tok) : (bi prog w).is (.inl i) (.int i t) = true := A6 i t
theorem M9 (prog : Program) (w : World) (x : Str) (t : Tok) : (bi prog w).is (.inr x) (.str x t) = true := A7 x t
inductive V where
 | az | bl (b : Bool) | int (i : Int) | str (x : Str) | n6 (b : Array UInt8) | uF (b : UInt64) | ref (a : Addr) | ty (n : String)
 deriving DecidableEq
def RelV : V -> Value -> Prop
 | .az, u => u = Value.none
 | .bl b, u => u = Value.bool b
 | .int i, u => ∃ t, u = Value.int i t
 | .str x, u => ∃ t, u = Value.str x t
 | .n6 b, u => ∃ t, u = Value.bytes b t
 | .uF b, u => ∃ t, u = Value.float b t
 | .ref a, u => u = Value.ref a
 | .ty n, u => u = Value.type n
abbrev Vals : List V -> List Value -> Prop := Paired RelV
theorem Vals.length {xs : List V} {us : List Value} (r : Vals xs us) : xs.length = us.length := Paired.length r
theorem Vals.get : ∀ {xs : List V} {us : List Value} {i : Nat} {x : V}, Vals xs us -> xs[i]? = some x -> ∃ u, us[i]? = some u /\ RelV x u
 | _, _, _, _, .nil, e => by simp at e
 | _, _, 0, _, .cons r _, e => by simp at e; subst e; exact ⟨_, rfl, r⟩
 | _, _, i + 1, x, .cons _ t, e => by
  obtain ⟨u, h1, h2⟩ := Vals.get (i := i) (x := x) t (by simpa using e)
  exact ⟨u, by simpa using h1, h2⟩
theorem Vals.set {x : V} {u : Value} (r : RelV x u) : ∀ {xs : List V} {us : List Value} (i : Nat), Vals xs us -> Vals (xs.set i x) (us.set i u)
 | _, _, _, .nil => .nil
 | _, _, 0, .cons _ t => .cons r t
 | _, _, i + 1, .cons q t => .cons q (Vals.set r i t)
theorem Vals.append : ∀ {xs ys : List V} {us ws : List Value}, Vals xs us -> Vals ys ws -> Vals (xs ++ ys) (us ++ ws)
 | _, _, _, _, .nil, s => s
 | _, _, _, _, .cons r t, s => .cons r (Vals.append t s)
theorem Vals.take : ∀ {xs : List V} {us : List Value} (n : Nat), Vals xs us -> Vals (xs.take n) (us.take n)
 | _, _, 0, _ => .nil
 | _, _, _ + 1, .nil => .nil
 | _, _, n + 1, .cons r t => .cons r (Vals.take n t)
theorem Vals.drop : ∀ {xs : List V} {us : List Value} (n : Nat), Vals xs us -> Vals (xs.drop n) (us.drop n)
 | _, _, 0, r => r
 | _, _, _ + 1, .nil => .nil
 | _, _, n + 1, .cons _ t => Vals.drop n t
def eQ : Option V -> Option Value -> Prop
 | some v, some u => RelV v u
 | none, none => True
 | _, _ => False
def KV {κ : Type} : List (κ × V) -> List (κ × Value) -> Prop := Paired fun (p : κ × V) (q : κ × Value) => p.1 = q.1 /\ RelV p.2 q.2
def kV : Key -> V
 | .inl i => .int i
 | .inr x => .str x
def uA : V -> Option Key
 | .int i => some (.inl i)
 | .bl b => some (.inl (if b then 1 else 0))
 | .str x => some (.inr x)
 | _ => none
def hX : List V -> Option (List Key)
 | [] => some []
 | v :: vs => match uA v, hX vs with
  | some k, some ks => some (k :: ks)
  | _, _ => none
inductive HO where
  | lst (xs : List V)
  | tup (xs : List V)
  | dK (kvs : List (Key × V)) | dT (kvs : List (List Key × V))
  | dU (kvs : List (V × V))
  | set (S : Int -> Bool) (n : Nat)
  | ins (C dx : Addr) (fs : List (Str × V))
  | own (x : Addr)
  | xd (fs : List (Str × V))
  | met (f x : Addr)
  | yt (lo hi : Int)
  | bu (o : Obj) (u : HO)
  | j3 (ps : Array Value)
  | ext (φ : Heap -> Prop)
abbrev Hp := Addr -> Option HO
def upd (H : Hp) (a : Addr) (o : HO) : Hp := fun b => if b = a then some o else H b
theorem bw {H : Hp} {a : Addr} {o : HO} : upd H a o a = some o := by unfold upd; rw [if_pos rfl]
theorem aM {H : Hp} {a b : Addr} {o : HO} (h : b ≠ a) : upd H a o b = H b := by unfold upd; rw [if_neg h]
theorem o4 {H : Hp} {a : Addr} {o u : HO} : upd (upd H a o) a u = upd H a u := by
 funext b; unfold upd; split <;> rfl
theorem cY {H : Hp} {a b : Addr} {o u : HO} (h : H a = some o) (h' : H b = some u) (d : o ≠ u) : a ≠ b := by
 intro e; subst e; rw [h] at h'; exact d (Option.some.inj h')
theorem dH {H : Hp} {a b : Addr} {o : HO} (h : H a = some o) (h' : H b = none) : a ≠ b := by
 intro e; subst e; rw [h] at h'; cases h'
section
variable (P : Program) (w : World)
def b8 (H : Hp) (h : Heap) (a : Addr) : HO -> Prop
 | .lst xs => xs.length <= sizeLine /\ ∃ (its : List Value) (n : Nat), Vals xs its /\ h.get? a = some { cls := .type "list", data := .seq its.toArray n }
 | .tup xs => xs.length <= sizeLine /\ ∃ its : List Value, Vals xs its /\ IsTup h a its.toArray
 | .dK kvs => kvs.length <= sizeLine /\ (a == sysModules) = false /\ ∃ vs, KV kvs vs /\ h.DictOf (bi P w) a vs
 | .dT kvs => kvs.length <= sizeLine /\ (a == sysModules) = false /\ ∃ xs : List (List Key × Addr × Value),
   Paired (fun (p : List Key × V) (q : List Key × Addr × Value) => p.1 = q.1 /\ H q.2.1 = some (.tup (p.1.map kV)) /\ RelV p.2 q.2.2) kvs xs /\
   ∃ o es ep, h.get? a = some o /\ o.ExactDict /\ o.data = .dict es ep /\ es.toList = xs.map (entryOfKey (tupleKind (bi P w))) /\ (xs.map (·.1)).Nodup
 | .dU kvs => kvs.length <= sizeLine /\ (a == sysModules) = false /\ ∃ o es ep, h.get? a = some o /\ o.ExactDict /\ o.data = .dict es ep /\ Paired (fun (p : V × V) (e : DictEntry) => RelV p.1 e.key /\ RelV p.2 e.val /\
   ((∃ k, uA p.1 = some k /\ e.hash = kX w k) \/ ∃ b ts ks, p.1 = .ref b /\ H b = some (.tup ts) /\ hX ts = some ks /\ e.hash = tupleKeyHash (bi P w) ks)) kvs es.toList
 | .set S n => h.SetOf (intKind P w) a S n
 | .ins C dx fs => H dx = some (.own a) /\ fs.length <= 1000 /\ dx ≠ a /\ h.get? a = some (PySem.W.instObj C dx) /\
   ∃ mA, h.Ns1 dx mA /\ (∀ f, eQ (fs.lookup f) (mA f)) /\ PySem.Within mA (fs.map (·.1))
 | .own _ => ∃ o, h.get? a = some o
 | .xd fs => ∃ mA, h.Ns1 a mA /\ ∀ f, eQ (fs.lookup f) (mA f)
 | .yt lo hi => ∃ t u v, h.get? a = some { cls := .type "range", data := .fields #[.int lo t, .int hi u, .int 1 v] }
 | .bu o u => h.get? a = some o /\ b8 H h a u
 | .j3 ps => h.get? a = some { cls := .none, data := .fields ps }
 | .met f x => h.get? a = some (PySem.W.methodObj (.ref f) (.ref x))
 | .ext φ => φ h /\ (∃ o, h.get? a = some o) /\ ∀ h1 h2 : Heap, φ h1 -> (∀ o, h1.get? a = some o -> h2.get? a = some o) -> φ h2
def bX (H : Hp) (h : Heap) : Prop := ∀ a o, H a = some o -> b8 P w H h a o
end
section
variable {P : Program} {w : World} {H H' : Hp} {h h' : Heap} {a : Addr} {o : HO}
theorem b8.lt (x : b8 P w H h a o) : a < h.objs.size := by
 cases o with
 | lst xs => obtain ⟨_, _, _, _, e⟩ := x; exact Heap.lt_size e
 | tup xs => obtain ⟨_, _, _, p⟩ := x; exact p.lt
 | dK kvs => obtain ⟨_, _, _, _, o, _, _, e, _⟩ := x; exact Heap.lt_size e
 | dT kvs => obtain ⟨_, _, _, _, o, _, _, e, _⟩ := x; exact Heap.lt_size e
 | dU kvs => obtain ⟨_, _, o, _, _, e, _⟩ := x; exact Heap.lt_size e
 | set S n => obtain ⟨o, _, _, _, e, _⟩ := x; exact Heap.lt_size e
 | ins C dx fs => obtain ⟨_, _, _, e, _⟩ := x; exact Heap.lt_size e
 | own y => obtain ⟨_, e⟩ := x; exact Heap.lt_size e
 | xd fs => obtain ⟨_, ⟨_, _, _, e, _⟩, _⟩ := x; exact Heap.lt_size e
 | yt lo hi => obtain ⟨_, _, _, e⟩ := x; exact Heap.lt_size e
 | bu ob u => obtain ⟨e, _⟩ := x; exact Heap.lt_size e
 | j3 ps => exact Heap.lt_size (show h.get? a = some _ from x)
 | met f y => exact Heap.lt_size (show h.get? a = some _ from x)
 | ext φ => obtain ⟨_, ⟨_, e⟩, _⟩ := x; exact Heap.lt_size e
theorem Paired.i4 {α β : Type} {F G : α -> β -> Prop} : ∀ {F3 : List α} {F4 : List β}, Paired F F3 F4 -> (∀ a b, F a b -> G a b) -> Paired G F3 F4
 | _, _, .nil, _ => .nil
 | _, _, .cons r t, f => .cons (f _ _ r) (Paired.i4 t f)
theorem b8.gv (x : b8 P w H h a o) (k : ∀ b u, (b = a \/ H b = some (.own a)) -> h.get? b = some u -> h'.get? b = some u)
  (ho : ∀ b, H b = some (.own a) -> H' b = some (.own a)) (ht : ∀ b xs, H b = some (.tup xs) -> H' b = some (.tup xs)) : b8 P w H' h' a o := by
 induction o with
 | lst xs => obtain ⟨z, its, n, r, e⟩ := x; exact ⟨z, its, n, r, k _ _ (.inl rfl) e⟩
 | tup xs => obtain ⟨z, its, r, ob, e, c⟩ := x; exact ⟨z, its, r, ob, k _ _ (.inl rfl) e, c⟩
 | dK kvs => obtain ⟨z, y, vs, r, ob, es, ep, e, c⟩ := x; exact ⟨z, y, vs, r, ob, es, ep, k _ _ (.inl rfl) e, c⟩
 | dT kvs =>
  obtain ⟨z, y, xs, r, ob, es, ep, e, c⟩ := x
  exact ⟨z, y, xs, Paired.i4 r fun p q z => ⟨z.1, ht _ _ z.2.1, z.2.2⟩, ob, es, ep, k _ _ (.inl rfl) e, c⟩
 | dU kvs =>
  obtain ⟨z, y, ob, es, ep, e, c1, c2, r⟩ := x
  exact ⟨z, y, ob, es, ep, k _ _ (.inl rfl) e, c1, c2, Paired.i4 r fun p q z => ⟨z.1, z.2.1, z.2.2.imp_right fun ⟨b, ts, ks, h1, h2, h3⟩ => ⟨b, ts, ks, h1, ht _ _ h2, h3⟩⟩⟩
 | set S n => obtain ⟨ob, es, ep, t, e, c⟩ := x; exact ⟨ob, es, ep, t, k _ _ (.inl rfl) e, c⟩
 | ins C dx fs =>
  obtain ⟨d, z, ne, e, mA, ⟨od, es, ep, e2, c⟩, r⟩ := x
  exact ⟨ho _ d, z, ne, k _ _ (.inl rfl) e, mA, ⟨od, es, ep, k _ _ (.inr d) e2, c⟩, r⟩
 | own y => obtain ⟨ob, e⟩ := x; exact ⟨ob, k _ _ (.inl rfl) e⟩
 | xd fs => obtain ⟨mA, ⟨od, es, ep, e, c⟩, r⟩ := x; exact ⟨mA, ⟨od, es, ep, k _ _ (.inl rfl) e, c⟩, r⟩
 | yt lo hi => obtain ⟨t, u, v, e⟩ := x; exact ⟨t, u, v, k _ _ (.inl rfl) e⟩
 | bu ob u ih => obtain ⟨e, q⟩ := x; exact ⟨k _ _ (.inl rfl) e, ih q⟩
 | j3 ps =>
  have e : h.get? a = some { cls := .none, data := .fields ps } := x
  show h'.get? a = some { cls := .none, data := .fields ps }
  exact k a _ (.inl rfl) e
 | met f y =>
  have e : h.get? a = some (PySem.W.methodObj (.ref f) (.ref y)) := x
  show h'.get? a = some (PySem.W.methodObj (.ref f) (.ref y))
  exact k a _ (.inl rfl) e
 | ext φ => obtain ⟨p, ⟨o, e⟩, st⟩ := x; exact ⟨st _ _ p fun o q => k _ _ (.inl rfl) q, ⟨o, k _ _ (.inl rfl) e⟩, st⟩
theorem bX.lt (x : bX P w H h) (e : H a = some o) : a < h.objs.size := (x a o e).lt
theorem bX.fresh (x : bX P w H h) (e : h.objs.size <= a) : H a = none := by
 cases q : H a with
 | none => rfl
 | some u => exact absurd (Nat.lt_of_lt_of_le (x.lt q) e) (Nat.lt_irrefl _)
theorem bX.kept (x : bX P w H h) (k : ∀ b u, h.get? b = some u -> h'.get? b = some u) : bX P w H h' := fun a o e =>
 (x a o e).gv (fun b u _ q => k b u q) (fun _ q => q) fun _ _ q => q
theorem bX.laid (x : bX P w H h) (k : ∀ b u, h.get? b = some u -> h'.get? b = some u) (hp : h.objs.size <= a) (new : b8 P w (upd H a o) h' a o) : bX P w (upd H a o) h' := fun b u e => by
 have hn := x.fresh hp
 by_cases hb : b = a
 ·subst hb; rw [bw] at e; cases e; exact new
 ·rw [aM hb] at e
  exact (x b u e).gv (fun c v _ q => k c v q) (fun c q => by rw [aM (dH q hn)]; exact q) fun c xs q => by rw [aM (dH q hn)]; exact q
end
def Rd (H : Hp) (a : Addr) (u : HO) : Prop := H a = some u \/ ∃ o, H a = some (.bu o u)
theorem Rd.of {H : Hp} {a : Addr} {u : HO} (h : H a = some u) : Rd H a u := .inl h
theorem Rd.ok {P : Program} {w : World} {H : Hp} {h : Heap} {a : Addr} {u : HO} (r : Rd H a u) (x : bX P w H h) : b8 P w H h a u := by
 rcases r with r | ⟨o, r⟩
 ·exact x a u r
 ·obtain ⟨_, q⟩ := x a _ r
  exact q
def jf : Option HO -> Prop
 | some (.lst _) => True
 | some (.dK _) => True
 | some (.dT _) => True
 | some (.dU _) => True
 | some (.set _ _) => True
 | some (.ins _ _ _) => True
 | some (.ext _) => True
 | _ => False
section
variable {P : Program} {w : World} {H : Hp} {h h' : Heap} {x e : Addr} {o' : HO}
theorem bX.write (ok : bX P w H h) (mu : jf (H x)) (he : e = x \/ H e = some (.own x)) (k : ∀ b u, b ≠ e -> h.get? b = some u -> h'.get? b = some u) (n8 : ∃ u, h'.get? e = some u)
  (new : b8 P w (upd H x o') h' x o') : bX P w (upd H x o') h' := fun b u q => by
 have Ek : ∀ c y, H c = some (.own y) -> c ≠ x := fun c y r z => by subst z; rw [r] at mu; exact mu
 have XY : ∀ c xs, H c = some (.tup xs) -> c ≠ x := fun c xs r z => by subst z; rw [r] at mu; exact mu
 by_cases hb : b = x
 ·subst hb; rw [bw] at q; cases q; exact new
 ·rw [aM hb] at q
  by_cases mG : b = e
  ·have q' : H b = some (.own x) := by
    rcases he with z | z
    ·exact absurd (mG.trans z) hb
    ·rw [mG]; exact z
   rw [q] at q'; cases q'
   obtain ⟨v, hv⟩ := n8
   exact ⟨v, by rw [mG]; exact hv⟩
  ·refine (ok b u q).gv (fun c v hc r => k c v ?_ r) (fun c r => by rw [aM (Ek c b r)]; exact r) fun c xs r => by rw [aM (XY c xs r)]; exact r
   rcases hc with rfl | hc
   ·exact mG
   ·rintro rfl
    rcases he with z | z
    ·exact Ek c b hc z
    ·rw [hc] at z; cases z; exact hb rfl
end
structure Un (fs ex : List Addr) (H H' : Hp) (h h' : Heap) : Prop where
 keep : ∀ b o, h.get? b = some o -> H b = none -> b ∉ fs -> b ∉ ex -> h'.get? b = some o
 slot : ∀ b o, h.get? b = some o -> H b = none -> b ∈ fs -> b ∉ ex -> ∃ sl, h'.get? b = some { o with slots := sl }
 free : ∀ b o, h.get? b = some o -> H b = none -> b ∉ ex -> H' b = none
 there : ∀ b o, h.get? b = some o -> b ∉ ex -> ∃ o', h'.get? b = some o'
 d0 : ∀ b xs, H b = some (.tup xs) -> H' b = some (.tup xs)
 dC : ∀ b o u, H b = some (.bu o u) -> H' b = some (.bu o u)
 d3 : ∀ b ps, H b = some (.j3 ps) -> ∃ more, H' b = some (.j3 (ps ++ more))
section
variable {fs yu ex EV : List Addr} {H H1 H2 : Hp} {h h1 h2 h' : Heap} {a x e : Addr} {o : HO}
theorem Un.any (u : Un fs ex H H1 h h1) {b : Addr} {ob : Obj} (q : h.get? b = some ob) (n : H b = none) (hx : b ∉ ex) : ∃ sl, h1.get? b = some { ob with slots := sl } := by
 by_cases hb : b ∈ fs
 ·exact u.slot b ob q n hb hx
 ·exact ⟨ob.slots, u.keep b ob q n hb hx⟩
theorem Un.trans (a : Un fs ex H H1 h h1) (b : Un fs ex H1 H2 h1 h2) : Un fs ex H H2 h h2 where
 keep := fun c ob q n hc hx => b.keep c ob (a.keep c ob q n hc hx) (a.free c ob q n hx) hc hx
 slot := fun c ob q n hc hx => by
  obtain ⟨sl, e1⟩ := a.slot c ob q n hc hx
  obtain ⟨yv, e2⟩ := b.slot c _ e1 (a.free c ob q n hx) hc hx
  exact ⟨yv, e2⟩
 free := fun c ob q n hx => by
  obtain ⟨o', e1⟩ := a.there c ob q hx
  exact b.free c o' e1 (a.free c ob q n hx) hx
 there := fun c ob q hx => by
  obtain ⟨o', e1⟩ := a.there c ob q hx
  exact b.there c o' e1 hx
 d0 := fun c xs q => b.d0 c xs (a.d0 c xs q)
 dC := fun c ob xs q => b.dC c ob xs (a.dC c ob xs q)
 d3 := fun c ps q => by
  obtain ⟨m1, e1⟩ := a.d3 c ps q
  obtain ⟨m2, e2⟩ := b.d3 c _ e1
  exact ⟨m1 ++ m2, by rw [e2, Array.append_assoc]⟩
theorem Un.kept (k : ∀ b u, h.get? b = some u -> h'.get? b = some u) : Un fs ex H H h h' :=
 ⟨fun b ob q _ _ _ => k b ob q, fun b ob q _ _ _ => ⟨ob.slots, k b ob q⟩, fun _ _ _ n _ => n, fun b ob q _ => ⟨ob, k b ob q⟩, fun _ _ q => q, fun _ _ _ q => q, fun _ ps q => ⟨#[], by rw [q]; simp⟩⟩
theorem Un.refl : Un fs ex H H h h := Un.kept fun _ _ q => q
theorem Un.laid (k : ∀ b u, h.get? b = some u -> h'.get? b = some u) (hp : h.objs.size <= a) (hn : H a = none) : Un fs ex H (upd H a o) h h' where
 keep := fun b u q _ _ _ => k b u q
 slot := fun b u q _ _ _ => ⟨u.slots, k b u q⟩
 free := fun b u q n _ => by rw [aM (Nat.ne_of_lt (Nat.lt_of_lt_of_le (Heap.lt_size q) hp))]; exact n
 there := fun b u q _ => ⟨u, k b u q⟩
 d0 := fun b xs q => by rw [aM (dH q hn)]; exact q
 dC := fun b u xs q => by rw [aM (dH q hn)]; exact q
 d3 := fun b ps q => ⟨#[], by rw [aM (dH q hn), q]; simp⟩
theorem Un.write (mu : jf (H x)) (he : e = x \/ H e = some (.own x)) (k : ∀ b u, b ≠ e -> h.get? b = some u -> h'.get? b = some u) (n8 : ∃ u, h'.get? e = some u) : Un fs ex H (upd H x o) h h' := by
 have hx : ∀ b, H b = none -> b ≠ x := fun b n z => by subst z; rw [n] at mu; exact mu
 have hb : ∀ b, H b = none -> b ≠ e := fun b n z => by
  subst z
  rcases he with r | r
  ·exact hx b n r
  ·rw [n] at r; cases r
 have hm : ∀ b u, H b = some u -> ¬ jf (some u) -> b ≠ x := fun b u q nm z => by subst z; rw [q] at mu; exact nm mu
 refine ⟨fun b u q n _ _ => k b u (hb b n) q, fun b u q n _ _ => ⟨u.slots, k b u (hb b n) q⟩, fun b u q n _ => by rw [aM (hx b n)]; exact n, fun b u q _ => ?_,
  fun b xs q => by rw [aM (hm b _ q fun z => z)]; exact q, fun b u xs q => by rw [aM (hm b _ q fun z => z)]; exact q, fun b ps q => ⟨#[], by rw [aM (hm b _ q fun z => z), q]; simp⟩⟩
 by_cases mG : b = e
 ·subst mG; exact n8
 ·exact ⟨u, k b u mG q⟩
theorem Un.mono (u : Un fs ex H H1 h h1) (hs : ∀ b ∈ fs, b ∈ yu) (hx : ∀ b ∈ ex, b ∈ EV) : Un yu EV H H1 h h1 :=
 ⟨fun b ob q n hb he => u.keep b ob q n (fun z => hb (hs b z)) fun z => he (hx b z), fun _ _ q n _ he => u.any q n fun z => he (hx _ z), fun b ob q n he => u.free b ob q n fun z => he (hx b z), fun b ob q he => u.there b ob q fun z => he (hx b z), u.d0, u.dC, u.d3⟩
end
def uG (h : Heap) (H : Hp) : List Addr := (List.range h.objs.size).filter fun a => (H a).isSome
def jO (h : Heap) (H : Hp) : Heap := PySem.W.hideAll h (uG h H)
theorem OK (h : Heap) (H : Hp) : (jO h H).objs.size = h.objs.size := PySem.W.hideAll_size _ _
theorem PK {h : Heap} {H : Hp} {b : Addr} {o : Obj} (e : h.get? b = some o) (n : H b = none) : (jO h H).get? b = some o :=
 PySem.W.hideAll_get _ e fun hm => by
  have q : (H b).isSome = true := (List.mem_filter.mp hm).2
  rw [n] at q; simp at q
theorem Q7 {h : Heap} {H : Hp} {b : Addr} {o : Obj} (e : (jO h H).get? b = some o) : h.get? b = some o /\ H b = none := by
 have e' : h.get? b = some o := PySem.W.of_hideAll (uG h H) e
 refine ⟨e', ?_⟩
 cases q : H b with
 | none => rfl
 | some x =>
  have hm : b ∈ uG h H := List.mem_filter.mpr ⟨List.mem_range.mpr (Heap.lt_size e'), by simp [q]⟩
  have z : (jO h H).get? b = none := PySem.W.hideAll_none (uG h H) hm
  rw [z] at e; cases e
def Q8 (g h : Heap) (L : Addr) : List (Addr × Obj) := (List.range h.objs.size).filterMap fun a => if a = L \/ (g.get? a).isSome = true then none else (h.get? a).map fun o => (a, o)
def rest (g h : Heap) (L d : Addr) : List (Addr × Obj) := (Q8 g h L).filter fun p => decide (p.1 ≠ d)
structure Mod (K : PySem.W.Frag) (mg : Str -> Option Value) (base : Heap) : Prop where
 yw : K.In base
 glob : base.Ns mainGlobals mg
 blt : ∃ mb, base.Ns builtinsNs mb /\ ∀ x : Str, x ≠ "__name__" -> mb x = bootBuiltins x
 nolimit : base.NoLimit
structure Cx where
 prog : Program
 w : World
 K : PySem.W.Frag
 mg : Str -> Option Value
 base : Heap
 A : Around
 N : List Str
 aA : Shared
 aG : Hp
 env : Env
 outer : List Env
 stack : List Env
 ex : List Addr
 fn : Str -> Bool
 calm : Bool
 pn : List (Addr × Obj)
 xe : Value -> Shared -> Prop
def dM (l : List Env) : List Addr := l.filterMap (·.frame)
abbrev Cx.fs (X : Cx) : List Addr := dM X.outer
def aJ (sc : Scope) (x : Str) : Prop := sc.names.lookup x = some .local \/ sc.names.lookup x = some .cell \/ sc.names.lookup x = some .free
def Loc (sc : Scope) (x : Str) : Prop := sc.names.lookup x = some .local \/ sc.names.lookup x = some .cell
def Look (env : Env) (h : Heap) (m : Str -> Option Value) (x : Str) (u : Value) : Prop :=
 (env.kindOf x = some .local /\ m x = some u) \/ ((env.kindOf x = some .cell \/ env.kindOf x = some .free) /\ ∃ c, env.cells.lookup x = some c /\ h.IsCell c (some u))
structure Cx.Ok (X : Cx) : Prop where
 mod : Mod X.K X.mg X.base
 kind : X.env.scope.kind = .function
 glob : X.env.globals = mainGlobals
 blt : X.env.builtins = builtinsNs
 above : X.aA.heap.objs.size <= X.env.locals
 inj : ∀ x y c, X.env.cells.lookup x = some c -> X.env.cells.lookup y = some c -> x = y
 has : ∀ x, (X.env.kindOf x = some .cell \/ X.env.kindOf x = some .free) -> ∃ c, X.env.cells.lookup x = some c
 n9 : ∀ x c, X.fn x = true -> X.env.cells.lookup x = some c -> X.aA.heap.objs.size <= c
 hd : X.calm = true -> X.A.handled = none
 frames : X.A.frames = some X.stack
 qd : X.stack = X.outer \/ (X.stack = X.env :: X.outer /\ X.env.frame = some X.env.locals)
 yx : ∀ b ∈ X.ex, b ≠ X.env.locals /\ ∀ x c, X.env.cells.lookup x = some c -> c ≠ b
 bs : ∀ b o, X.base.get? b = some o -> X.aA.heap.get? b = some o /\ X.aG b = none
 hZ : X.base.objs.size <= X.aA.heap.objs.size
 nO : ∀ b o, X.base.get? b = some o -> b ∉ X.ex
 nP : ∀ b ∈ X.ex, b ∉ X.fs
 eR : X.aA.heap.FunFrames X.base X.outer
 j4 : ∀ b ∈ X.fs, X.aG b = none
structure Inv (X : Cx) (pins : List (Addr × Obj)) (σ : List (Option V)) (H : Hp) (s : Shared) : Prop where
 ok : X.Ok
 os : s.os = X.aA.os
 bare : AllBare s.gens
 base : Un X.fs X.ex X.aG H X.aA.heap s.heap
 loc : ∃ m, s.heap.Ns X.env.locals m /\ ∀ (i : Nat) (x : Str) (v : V), X.N[i]? = some x -> σ[i]? = some (some v) -> aJ X.env.scope x -> ∃ u, RelV v u /\ Look X.env s.heap m x u
 cell : ∀ x c, X.env.cells.lookup x = some c -> ∃ v, s.heap.IsCell c v
 free : H X.env.locals = none
 gr : ∀ x c, X.env.cells.lookup x = some c -> H c = none
 pin : ∀ p ∈ X.pn ++ pins, s.heap.get? p.1 = some p.2 /\ H p.1 = none /\ p.1 ≠ X.env.locals /\ p.1 ∉ X.fs /\ ∀ v, p.2.data ≠ .cell v
 aF : bX X.prog X.w H s.heap
 len : σ.length = X.N.length
section
variable {X : Cx} {pins : List (Addr × Obj)} {σ : List (Option V)} {H H' : Hp} {s : Shared} {h' : Heap}
theorem Cx.Ok.XZ (ok : X.Ok) {b : Addr} {o : Obj} (e : X.base.get? b = some o) : b ∉ X.fs := fun hb => by
 have := (ok.eR.mem hb).1
 rw [e] at this; cases this
theorem Inv.bs (I : Inv X pins σ H s) : ∀ b o, X.base.get? b = some o -> s.heap.get? b = some o /\ H b = none := fun b o e =>
 ⟨I.base.keep b o (I.ok.bs b o e).1 (I.ok.bs b o e).2 (I.ok.XZ e) (I.ok.nO b o e), I.base.free b o (I.ok.bs b o e).1 (I.ok.bs b o e).2 (I.ok.nO b o e)⟩
theorem Inv.bk (I : Inv X pins σ H s) : ∀ b o, X.base.get? b = some o -> s.heap.get? b = some o := fun b o e => (I.bs b o e).1
theorem Inv.mod (I : Inv X pins σ H s) : Mod X.K X.mg X.base := I.ok.mod
theorem Inv.dN (I : Inv X pins σ H s) : X.K.In s.heap := I.ok.mod.yw.keeps I.bk
theorem Inv.nolimit (I : Inv X pins σ H s) : s.heap.NoLimit := I.ok.mod.nolimit.keeps I.bk
theorem Inv.fr (I : Inv X pins σ H s) : ∃ m, Fr X.base X.env.locals s.heap m :=
 let ⟨m, hn, _⟩ := I.loc
 ⟨m, hn, I.bk, Nat.le_trans I.ok.hZ I.ok.above⟩
theorem Inv.lt (I : Inv X pins σ H s) : X.env.locals < s.heap.objs.size := let ⟨_, hn, _⟩ := I.loc; hn.lt
theorem Inv.sz (I : Inv X pins σ H s) : X.aA.heap.objs.size <= s.heap.objs.size := Nat.le_trans I.ok.above (Nat.le_of_lt I.lt)
theorem Inv.X0 (I : Inv X pins σ H s) {a : Addr} (h : s.heap.objs.size <= a) : a ∉ X.fs := fun hb => by
 obtain ⟨_, o, ho, _⟩ := I.ok.eR.mem hb
 exact absurd (Nat.lt_of_lt_of_le (Heap.lt_size ho) (Nat.le_trans I.sz h)) (Nat.lt_irrefl _)
theorem Inv.mH (I : Inv X pins σ H s) : ∀ x c, X.env.cells.lookup x = some c -> c ≠ X.env.locals := fun x c e z => by
 obtain ⟨v, o, ho, hd⟩ := I.cell x c e
 obtain ⟨m, ⟨o', es, ep, jg, j5, _⟩, _⟩ := I.loc
 rw [z, jg] at ho; cases ho; rw [j5] at hd; cases hd
theorem Inv.eR (I : Inv X pins σ H s) : s.heap.FunFrames X.base X.outer := by
 have all : ∀ (l : List Env), (∀ b ∈ dM l, b ∈ X.fs) -> X.aA.heap.FunFrames X.base l -> s.heap.FunFrames X.base l := by
  intro l
  induction l with
  | nil => intro _ _; trivial
  | cons env r ih =>
   intro hs hl
   obtain ⟨hk, ⟨L, o, hf, hn, ho, hd⟩, hr⟩ := hl
   have hL : L ∈ X.fs := hs L (by unfold dM; rw [List.filterMap_cons, hf]; exact List.mem_cons_self)
   obtain ⟨sl, e⟩ := I.base.slot L o ho (I.ok.j4 L hL) hL fun z => I.ok.nP L z hL
   exact ⟨hk, ⟨L, _, hf, hn, e, hd⟩, ih (fun b hb => hs b (by unfold dM; rw [List.filterMap_cons, hf]; exact List.mem_cons_of_mem _ hb)) hr⟩
 exact all X.outer (fun _ hb => hb) I.ok.eR
theorem Inv.stack (I : Inv X pins σ H s) : s.heap.FunFrames X.base X.stack := by
 rcases I.ok.qd with e | ⟨e, hf⟩
 ·rw [e]; exact I.eR
 ·rw [e]
  obtain ⟨m, hn, _⟩ := I.loc
  refine .cons (by rw [I.ok.kind]; decide) hf hn ?_ I.eR
  exact Heap.get?_none_of_le (Nat.le_trans I.ok.hZ I.ok.above)
theorem Inv.xj (I : Inv X pins σ H s) : ∀ b ∈ dM X.stack, b ∈ X.env.locals :: X.fs := fun b hb => by
 rcases I.ok.qd with e | ⟨e, hf⟩
 ·rw [e] at hb; exact List.mem_cons_of_mem _ hb
 ·rw [e] at hb
  unfold dM at hb
  rw [List.filterMap_cons, hf] at hb
  exact hb
theorem Inv.wC (I : Inv X pins σ H s) : ∀ b ∈ dM X.stack, H b = none := fun b hb => by
 rcases List.mem_cons.mp (I.xj b hb) with e | hb
 ·rw [e]; exact I.free
 ·obtain ⟨_, o, ho, _⟩ := I.ok.eR.mem hb
  exact I.base.free b o ho (I.ok.j4 b hb) fun z => I.ok.nP b z hb
theorem Inv.step {g' : Array GenState} {t' : Nat} {d' : Drawn} {ch : List Addr} (I : Inv X pins σ H s)
  (jh : ∀ b ∈ ch, (b ∈ X.ex \/ X.aA.heap.objs.size <= b) /\ b ≠ X.env.locals /\ (∀ x c, X.env.cells.lookup x = some c -> c ≠ b) /\ ∀ p ∈ X.pn ++ pins, p.1 ≠ b)
  (keep : ∀ b o, b ≠ X.env.locals -> b ∉ X.fs -> b ∉ ch -> s.heap.get? b = some o -> H b = none -> h'.get? b = some o)
  (slot : ∀ b o, b ≠ X.env.locals -> b ∈ X.fs -> b ∉ ch -> s.heap.get? b = some o -> H b = none -> ∃ sl, h'.get? b = some { o with slots := sl }) (free : ∀ b o, b ∉ ch -> s.heap.get? b = some o -> H b = none -> H' b = none)
  (there : ∀ b o, b ∉ ch -> s.heap.get? b = some o -> ∃ o', h'.get? b = some o')
  (d0 : ∀ b xs, H b = some (.tup xs) -> H' b = some (.tup xs)) (dC : ∀ b o u, H b = some (.bu o u) -> H' b = some (.bu o u)) (d3 : ∀ b ps, H b = some (.j3 ps) -> ∃ more, H' b = some (.j3 (ps ++ more)))
  (ns : ∀ m, s.heap.Ns X.env.locals m -> h'.Ns X.env.locals m) (aF : bX X.prog X.w H' h') (hg : AllBare g') :
  Inv X pins σ H' { s with heap := h', gens := g', drawn := d', toks := t' } := by
 have qe : ∀ b o, X.aA.heap.get? b = some o -> b ≠ X.env.locals := fun b o e => Nat.ne_of_lt (Nat.lt_of_lt_of_le (Heap.lt_size e) I.ok.above)
 have mI : ∀ b o, X.aA.heap.get? b = some o -> b ∉ X.ex -> b ∉ ch := fun b o e hx hb => by
  rcases (jh b hb).1 with z | z
  ·exact hx z
  ·exact absurd (Nat.lt_of_lt_of_le (Heap.lt_size e) z) (Nat.lt_irrefl _)
 have cellK : ∀ x c, X.env.cells.lookup x = some c -> ∀ v, s.heap.IsCell c v -> h'.IsCell c v := fun x c e v ⟨o, ho, hd⟩ => by
  have qf : c ∉ ch := fun z => (jh c z).2.2.1 x c e rfl
  by_cases hc : c ∈ X.fs
  ·obtain ⟨sl, q⟩ := slot c o (I.mH x c e) hc qf ho (I.gr x c e)
   exact ⟨_, q, hd⟩
  ·exact ⟨o, keep c o (I.mH x c e) hc qf ho (I.gr x c e), hd⟩
 refine ⟨I.ok, I.os, hg, ⟨fun b o e n hb hx => ?_, fun b o e n hb hx => ?_, fun b o e n hx => ?_, fun b o e hx => ?_, fun b xs e => d0 b xs (I.base.d0 b xs e), fun b o xs e => dC b o xs (I.base.dC b o xs e), fun b ps e => ?_⟩, ?_, fun x c e => ?_, ?_, fun x c e => ?_, fun p hp => ?_, aF, I.len⟩
 ·exact keep b o (qe b o e) hb (mI b o e hx) (I.base.keep b o e n hb hx) (I.base.free b o e n hx)
 ·obtain ⟨sl, e1⟩ := I.base.slot b o e n hb hx
  obtain ⟨yv, e2⟩ := slot b _ (qe b o e) hb (mI b o e hx) e1 (I.base.free b o e n hx)
  exact ⟨yv, e2⟩
 ·obtain ⟨o', e1⟩ := I.base.there b o e hx
  exact free b o' (mI b o e hx) e1 (I.base.free b o e n hx)
 ·obtain ⟨o', e1⟩ := I.base.there b o e hx
  exact there b o' (mI b o e hx) e1
 ·obtain ⟨m1, e1⟩ := I.base.d3 b ps e
  obtain ⟨m2, e2⟩ := d3 b _ e1
  exact ⟨m1 ++ m2, by rw [e2, Array.append_assoc]⟩
 ·obtain ⟨m, hn, hl⟩ := I.loc
  refine ⟨m, ns m hn, fun i x v e1 e2 e3 => ?_⟩
  obtain ⟨u, r, l⟩ := hl i x v e1 e2 e3
  refine ⟨u, r, ?_⟩
  rcases l with l | ⟨k, c, e, z⟩
  ·exact .inl l
  ·exact .inr ⟨k, c, e, cellK x c e _ z⟩
 ·obtain ⟨v, z⟩ := I.cell x c e
  exact ⟨v, cellK x c e v z⟩
 ·obtain ⟨m, ⟨o, _, _, ho, _⟩, _⟩ := I.loc
  exact free _ o (fun z => (jh _ z).2.1 rfl) ho I.free
 ·obtain ⟨v, o, ho, hd⟩ := I.cell x c e
  exact free c o (fun z => (jh c z).2.2.1 x c e rfl) ho (I.gr x c e)
 ·obtain ⟨e, n, ne, nf, d⟩ := I.pin p hp
  have qf : p.1 ∉ ch := fun z => (jh p.1 z).2.2.2 p hp rfl
  exact ⟨keep p.1 p.2 ne nf qf e n, free p.1 p.2 qf e n, ne, nf, d⟩
theorem Inv.un {t' : Nat} (I : Inv X pins σ H s) (u : Un X.fs [] H H' s.heap h') (aF : bX X.prog X.w H' h') : Inv X pins σ H' { s with heap := h', toks := t' } := by
 obtain ⟨m, ⟨o, es, ep, ho, r⟩, _⟩ := id I.loc
 obtain ⟨sl, hL⟩ := u.any ho I.free (by simp)
 exact I.step (g' := s.gens) (d' := s.drawn) (ch := []) (fun _ z => nomatch z) (fun b o _ hb _ e n => u.keep b o e n hb (by simp)) (fun b o _ hb _ e n => u.slot b o e n hb (by simp)) (fun b o _ e n => u.free b o e n (by simp)) (fun b o _ e => u.there b o e (by simp)) u.d0 u.dC u.d3 (fun m' hm => by
  obtain ⟨o', qg, qh, jg, r'⟩ := hm
  rw [ho] at jg; cases jg
  exact ⟨_, qg, qh, hL, r'⟩) aF I.bare
theorem Inv.call {g' : Array GenState} {t' : Nat} {d' : Drawn} {ch : List Addr} (I : Inv X pins σ H s) (u : Un (dM X.stack) ch H H' s.heap h') (aF : bX X.prog X.w H' h') (hg : AllBare g')
  (jh : ∀ b ∈ ch, (b ∈ X.ex \/ X.aA.heap.objs.size <= b) /\ b ≠ X.env.locals /\ (∀ x c, X.env.cells.lookup x = some c -> c ≠ b) /\ ∀ p ∈ X.pn ++ pins, p.1 ≠ b) :
  Inv X pins σ H' { s with heap := h', gens := g', drawn := d', toks := t' } := by
 obtain ⟨m, ⟨o, es, ep, ho, r⟩, _⟩ := id I.loc
 obtain ⟨sl, hL⟩ := u.any ho I.free fun z => (jh _ z).2.1 rfl
 exact I.step (ch := ch) jh (fun b o hL hb hc e n => u.keep b o e n (fun z => (List.mem_cons.mp (I.xj b z)).elim hL hb) hc) (fun b o _ _ hc e n => u.any e n hc) (fun b o hc e n => u.free b o e n hc) (fun b o hc e => u.there b o e hc) u.d0 u.dC u.d3 (fun m' hm => by
  obtain ⟨o', qg, qh, jg, r'⟩ := hm
  rw [ho] at jg; cases jg
  exact ⟨_, qg, qh, hL, r'⟩) aF hg
theorem Inv.turned {t' : Nat} {it : Addr} (I : Inv X pins σ H s) (k : ∀ b o, b ≠ it -> s.heap.get? b = some o -> h'.get? b = some o) (hn : H it = none) (hL : it ≠ X.env.locals)
  (h1 : it ∈ X.ex \/ X.aA.heap.objs.size <= it) (h2 : ∀ x c, X.env.cells.lookup x = some c -> c ≠ it) (h3 : ∀ p ∈ X.pn ++ pins, p.1 ≠ it) : Inv X pins σ H { s with heap := h', toks := t' } := by
 have la : ∀ b u, H b = some u -> b ≠ it := fun b u e z => by rw [z, hn] at e; cases e
 refine I.step (g' := s.gens) (d' := s.drawn) (ch := [it]) (fun b hb => ?_) (fun b o _ _ hc e _ => k b o (fun z => hc (by simp [z])) e) (fun b o _ _ hc e _ => ⟨o.slots, k b o (fun z => hc (by simp [z])) e⟩) (fun _ _ _ _ n => n)
  (fun b o hc e => ⟨o, k b o (fun z => hc (by simp [z])) e⟩) (fun _ _ e => e) (fun _ _ _ e => e) (fun b ps e => ⟨#[], by rw [e]; simp⟩) (fun m hm => ?_) (fun b u e => ?_) I.bare
 ·have e : b = it := by simpa using hb
  subst e
  exact ⟨h1, hL, h2, h3⟩
 ·obtain ⟨o, es, ep, ho, r⟩ := hm
  exact ⟨o, es, ep, k _ o (Ne.symm hL) ho, r⟩
 ·refine (I.aF b u e).gv (fun c v hc q => k c v ?_ q) (fun _ q => q) fun _ _ q => q
  rcases hc with z | z
  ·rw [z]; exact la b u e
  ·exact la c _ z
theorem Inv.tok (I : Inv X pins σ H s) (t : Nat) : Inv X pins σ H { s with toks := t } := I.un (h' := s.heap) (t' := t) Un.refl I.aF
theorem Inv.kept {t' : Nat} (I : Inv X pins σ H s) (k : ∀ b u, s.heap.get? b = some u -> h'.get? b = some u) : Inv X pins σ H { s with heap := h', toks := t' } := I.un (Un.kept k) (I.aF.kept k)
theorem Inv.laid {a : Addr} {o : HO} {t' : Nat} (I : Inv X pins σ H s) (k : ∀ b u, s.heap.get? b = some u -> h'.get? b = some u) (hp : s.heap.objs.size <= a) (new : b8 X.prog X.w (upd H a o) h' a o) :
  Inv X pins σ (upd H a o) { s with heap := h', toks := t' } := I.un (Un.laid k hp (I.aF.fresh hp)) (I.aF.laid k hp new)
theorem Inv.write {x e : Addr} {o : HO} {t' : Nat} (I : Inv X pins σ H s) (mu : jf (H x)) (he : e = x \/ H e = some (.own x)) (k : ∀ b u, b ≠ e -> s.heap.get? b = some u -> h'.get? b = some u) (n8 : ∃ u, h'.get? e = some u)
  (new : b8 X.prog X.w (upd H x o) h' x o) : Inv X pins σ (upd H x o) { s with heap := h', toks := t' } := I.un (Un.write mu he k n8) (I.aF.write mu he k n8 new)
theorem Inv.B3 {DP : List (Addr × Obj)} (I : Inv X pins σ H s) (h : ∀ p ∈ DP, s.heap.get? p.1 = some p.2 /\ H p.1 = none /\ p.1 ≠ X.env.locals /\ p.1 ∉ X.fs /\ ∀ v, p.2.data ≠ .cell v) : Inv X DP σ H s :=
 ⟨I.ok, I.os, I.bare, I.base, I.loc, I.cell, I.free, I.gr, fun p hp => (List.mem_append.mp hp).elim (fun z => I.pin p (List.mem_append_left _ z)) (h p), I.aF, I.len⟩
theorem Bv {N : List Str} (hN : N.Nodup) {i j : Nat} {x : Str} (a : N[i]? = some x) (b : N[j]? = some x) : i = j := by
 obtain ⟨h1, e1⟩ := List.getElem?_eq_some_iff.mp a
 obtain ⟨h2, e2⟩ := List.getElem?_eq_some_iff.mp b
 exact (List.getElem_inj hN).mp (e1.trans e2.symm)
theorem A8 {M : Model} {A : Around} {E : Value -> Shared -> Prop} {i : Nat} {x : Str} {v : V} {u : Value} {Q : Unit -> Shared -> Prop} (I : Inv X pins σ H s) (hN : X.N.Nodup) (hi : X.N[i]? = some x) (hx : Loc X.env.scope x) (r : RelV v u)
  (h : ∀ s', Inv X pins (σ.set i (some v)) H s' -> (∃ a, Heap.SameBut a s.heap s'.heap /\ (a = X.env.locals \/ X.env.cells.lookup x = some a)) -> Q () s') (hf : X.fn x = true \/ X.env.scope.names.lookup x = some .local := by first | exact .inl rfl | exact .inr rfl | assumption) : wpAny M A (storeName X.env x u) Q E s := by
 obtain ⟨m, hn, hl⟩ := id I.loc
 have X1 : (X.env.scope.kind == .class || (X.env.scope.kind == .module && X.env.locals != X.env.globals)) = false := by rw [I.ok.kind]; rfl
 have EW : i < σ.length := by rw [I.len]; exact (List.getElem?_eq_some_iff.mp hi).1
 have mH := I.mH
 have tracked : ∀ {a : Addr} {h' : Heap}, (∃ o, s.heap.get? a = some o /\ H a = none) -> Heap.SameBut a s.heap h' -> bX X.prog X.w H h' := fun {a h'} ha hs b ob e => by
  obtain ⟨_, _, DQ⟩ := ha
  refine (I.aF b ob e).gv (fun c w' hc q => (hs.2 c ?_).trans q) (fun _ q => q) fun _ _ q => q
  rintro rfl
  rcases hc with rfl | hc
  ·rw [DQ] at e; cases e
  ·rw [DQ] at hc; cases hc
 rcases hx with hk | hk
 ·refine wpAny_storeName_local hk hn (fun h' j6 hs => ?_) X1
  obtain ⟨oL, _, _, Y9, _⟩ := id hn
  refine h _ ⟨I.ok, I.os, I.bare, ⟨fun b o e n hb hx => ?_, fun b o e n hb hx => ?_, I.base.free, fun b o e hx => ?_, I.base.d0, I.base.dC, I.base.d3⟩, ⟨_, j6, fun j y v' e1 e2 e3 => ?_⟩, fun y c e => ?_, I.free, I.gr, fun p hp => ?_, tracked ⟨oL, Y9, I.free⟩ hs, by simpa using I.len⟩ ⟨_, hs, .inl rfl⟩
  ·exact (hs.2 b (Nat.ne_of_lt (Nat.lt_of_lt_of_le (Heap.lt_size e) I.ok.above))).trans (I.base.keep b o e n hb hx)
  ·obtain ⟨sl, e1⟩ := I.base.slot b o e n hb hx
   exact ⟨sl, (hs.2 b (Nat.ne_of_lt (Nat.lt_of_lt_of_le (Heap.lt_size e) I.ok.above))).trans e1⟩
  ·obtain ⟨o', e1⟩ := I.base.there b o e hx
   exact ⟨o', (hs.2 b (Nat.ne_of_lt (Nat.lt_of_lt_of_le (Heap.lt_size e) I.ok.above))).trans e1⟩
  ·by_cases hj : j = i
   ·subst hj
    rw [hi] at e1; cases e1
    rw [List.getElem?_set_self EW] at e2
    cases e2
    exact ⟨u, r, .inl ⟨hk, by simp⟩⟩
   ·rw [List.getElem?_set_ne (Ne.symm hj)] at e2
    obtain ⟨u', r', q⟩ := hl j y v' e1 e2 e3
    refine ⟨u', r', ?_⟩
    rcases q with ⟨k, e⟩ | ⟨k, c, e, z⟩
    ·refine .inl ⟨k, ?_⟩
     have : y ≠ x := fun e => hj (Bv hN e1 (e ▸ hi))
     simp [this, e]
    ·exact .inr ⟨k, c, e, z.sameBut hs (mH y c e)⟩
  ·obtain ⟨w', z⟩ := I.cell y c e
   exact ⟨w', z.sameBut hs (mH y c e)⟩
  ·obtain ⟨e, n, ne, nf, d⟩ := I.pin p hp
   exact ⟨(hs.2 p.1 ne).trans e, n, ne, nf, d⟩
 ·have yz : X.fn x = true := by
   rcases hf with z | z
   ·exact z
   ·rw [z] at hk; cases hk
  obtain ⟨c, hc⟩ := I.ok.has x (.inl hk)
  obtain ⟨w', z⟩ := I.cell x c hc
  refine wpAny_storeName_cell I.ok.kind hk hc z (fun h' fX hs => ?_)
  obtain ⟨oc, EX, X2⟩ := id z
  refine h { s with heap := h' } ⟨I.ok, I.os, I.bare, ⟨fun b o e n hb hx => ?_, fun b o e n hb hx => ?_, I.base.free, fun b o e hx => ?_, I.base.d0, I.base.dC, I.base.d3⟩, ⟨m, hn.sameBut hs (Ne.symm (mH x c hc)), fun j y v' e1 e2 e3 => ?_⟩, fun y c' e => ?_, I.free, I.gr, fun p hp => ?_, tracked ⟨oc, EX, I.gr x c hc⟩ hs, by simpa using I.len⟩ ⟨c, hs, .inr hc⟩
  ·exact (hs.2 b (Nat.ne_of_lt (Nat.lt_of_lt_of_le (Heap.lt_size e) (I.ok.n9 x c yz hc)))).trans (I.base.keep b o e n hb hx)
  ·obtain ⟨sl, e1⟩ := I.base.slot b o e n hb hx
   exact ⟨sl, (hs.2 b (Nat.ne_of_lt (Nat.lt_of_lt_of_le (Heap.lt_size e) (I.ok.n9 x c yz hc)))).trans e1⟩
  ·obtain ⟨o', e1⟩ := I.base.there b o e hx
   exact ⟨o', (hs.2 b (Nat.ne_of_lt (Nat.lt_of_lt_of_le (Heap.lt_size e) (I.ok.n9 x c yz hc)))).trans e1⟩
  ·by_cases hj : j = i
   ·subst hj
    rw [hi] at e1; cases e1
    rw [List.getElem?_set_self EW] at e2
    cases e2
    exact ⟨u, r, .inr ⟨.inl hk, c, hc, fX⟩⟩
   ·rw [List.getElem?_set_ne (Ne.symm hj)] at e2
    obtain ⟨u', r', q⟩ := hl j y v' e1 e2 e3
    refine ⟨u', r', ?_⟩
    rcases q with q | ⟨k, c', e, z'⟩
    ·exact .inl q
    ·refine .inr ⟨k, c', e, z'.sameBut hs ?_⟩
     rintro rfl
     exact hj (Bv hN e1 (I.ok.inj _ _ _ e hc ▸ hi))
  ·by_cases oe : c' = c
   ·subst oe; exact ⟨_, fX⟩
   ·obtain ⟨w2, z2⟩ := I.cell y c' e
    exact ⟨w2, z2.sameBut hs oe⟩
  ·obtain ⟨e, n, ne, nf, d⟩ := I.pin p hp
   refine ⟨(hs.2 p.1 ?_).trans e, n, ne, nf, d⟩
   intro q
   rw [q, EX] at e
   have q' : oc = p.2 := Option.some.inj e
   exact d w' (by rw [<- q']; exact X2)
theorem vZ {M : Model} {A : Around} {E : Value -> Shared -> Prop} {i : Nat} {x : Str} {v : V} {u : Value} {Q : Unit -> Shared -> Prop} (I : Inv X pins σ H s) (hN : X.N.Nodup) (hi : X.N[i]? = some x) (hx : Loc X.env.scope x) (r : RelV v u)
  (h : ∀ s', Inv X pins (σ.set i (some v)) H s' -> Q () s') (hf : X.fn x = true \/ X.env.scope.names.lookup x = some .local := by first | exact .inl rfl | exact .inr rfl | assumption) : wpAny M A (storeName X.env x u) Q E s :=
 A8 I hN hi hx r (fun s' I' _ => h s' I') hf
theorem Inv.Wc {s' : Shared} {ch : List Addr} (I : Inv X pins σ H s) (ho : s'.os = s.os) (u : Un (dM X.stack) ch H H' s.heap s'.heap) (aF : bX X.prog X.w H' s'.heap) (hg : AllBare s'.gens)
  (jh : ∀ b ∈ ch, (b ∈ X.ex \/ X.aA.heap.objs.size <= b) /\ b ≠ X.env.locals /\ (∀ x c, X.env.cells.lookup x = some c -> c ≠ b) /\ ∀ p ∈ X.pn ++ pins, p.1 ≠ b) : Inv X pins σ H' s' := by
 obtain ⟨h', g', d', t', o'⟩ := s'
 have e : o' = s.os := ho
 subst e
 exact I.call (g' := g') (t' := t') (d' := d') u aF hg jh
end
abbrev XK := Value -> Option Addr -> Hp -> Prop
abbrev St := List (Option V)
abbrev VK := V -> Hp -> Prop
abbrev TE := St -> Hp -> VK -> Prop
abbrev TT := St -> Hp -> (Bool -> Hp -> Prop) -> Prop
abbrev TA := St -> Hp -> (List V -> Hp -> Prop) -> Prop
structure Ends where
 nx : St -> Hp -> Prop
 rt : VK
 bk : St -> Hp -> Prop := fun _ _ => False
 ct : St -> Hp -> Prop := fun _ _ => False
abbrev TS := Ends -> St -> Hp -> Prop
def EP (X : Cx) (pins : List (Addr × Obj)) (σ : St) (Q : VK) (u : Value) (s' : Shared) : Prop := ∃ v H', Inv X pins σ H' s' /\ RelV v u /\ Q v H'
def TP (X : Cx) (pins : List (Addr × Obj)) (σ : St) (Q : Bool -> Hp -> Prop) (b : Bool) (s' : Shared) : Prop := ∃ H', Inv X pins σ H' s' /\ Q b H'
def AP (X : Cx) (pins : List (Addr × Obj)) (σ : St) (Q : List V -> Hp -> Prop) (us : List Value) (s' : Shared) : Prop := ∃ vs H', Inv X pins σ H' s' /\ Vals vs us /\ Q vs H'
def SP (X : Cx) (pins : List (Addr × Obj)) (D : Ends) (f : Flow) (s' : Shared) : Prop :=
 match f with
 | .next => ∃ ao H', Inv X pins ao H' s' /\ D.nx ao H'
 | .brk => ∃ ao H', Inv X pins ao H' s' /\ D.bk ao H'
 | .cont => ∃ ao H', Inv X pins ao H' s' /\ D.ct ao H'
 | .ret u => ∃ v ao H', Inv X pins ao H' s' /\ RelV v u /\ D.rt v H'
def PE (X : Cx) (e : Expr) (t : TE) : Prop :=
 ∀ (pins : List (Addr × Obj)) (s : Shared) (σ : St) (H : Hp) (Q : VK), Inv X pins σ H s -> t σ H Q -> wpAny (model X.prog X.w) X.A (eval e X.env) (EP X pins σ Q) X.xe s
def PT (X : Cx) (e : Expr) (t : TT) : Prop :=
 ∀ (pins : List (Addr × Obj)) (s : Shared) (σ : St) (H : Hp) (Q : Bool -> Hp -> Prop), Inv X pins σ H s -> t σ H Q -> wpAny (model X.prog X.w) X.A (isTrue e X.env (eval e X.env)) (TP X pins σ Q) X.xe s
def PW (X : Cx) (e : Expr) (t : TT) : Prop :=
 ∀ (whole : Sem Value) (pins : List (Addr × Obj)) (s : Shared) (σ : St) (H : Hp) (Q : Bool -> Hp -> Prop), Inv X pins σ H s -> t σ H Q -> wpAny (model X.prog X.w) X.A (isTrue e X.env whole) (TP X pins σ Q) X.xe s
theorem PW.pt {X : Cx} {e : Expr} {t : TT} (h : PW X e t) : PT X e t := h _
def PA (X : Cx) (es : List Expr) (t : TA) : Prop :=
 ∀ (pos : Pos) (pins : List (Addr × Obj)) (s : Shared) (σ : St) (H : Hp) (Q : List V -> Hp -> Prop), Inv X pins σ H s -> t σ H Q -> wpAny (model X.prog X.w) X.A (spliced (backTo pos (starEach es X.env))) (AP X pins σ Q) X.xe s
def PS (X : Cx) (st : Stmt) (t : TS) : Prop :=
 ∀ (pins : List (Addr × Obj)) (s : Shared) (σ : St) (H : Hp) (D : Ends), Inv X pins σ H s -> t D σ H -> wpAny (model X.prog X.w) X.A (exec st X.env) (SP X pins D) X.xe s
def dO (X : Cx) (st : List Stmt) (t : TS) : Prop :=
 ∀ (pins : List (Addr × Obj)) (s : Shared) (σ : St) (H : Hp) (D : Ends), Inv X pins σ H s -> t D σ H -> wpAny (model X.prog X.w) X.A (execs st X.env) (SP X pins D) X.xe s
theorem aT {α : Type} {t : Sem α} {Q Q' : α -> Shared -> Prop} {M : Model} {A : Around} {E : Value -> Shared -> Prop} {s : Shared} (h : wpAny M A t Q E s) (hQ : ∀ a s, Q a s -> Q' a s) : wpAny M A t Q' E s := wpAny_mono h hQ fun _ _ x => x
section
variable {X : Cx}
theorem bin {a b : Expr} {ta tb : TE} (ha : PE X a ta) (hb : PE X b tb) {pins : List (Addr × Obj)} {s : Shared} {σ : St} {H : Hp} {R : V -> V -> Hp -> Prop} (I : Inv X pins σ H s) (h : ta σ H fun x H1 => tb σ H1 fun y H2 => R x y H2)
  {α : Type} {Q : α -> Shared -> Prop} {f : Value -> Value -> Sem α}
  (hf : ∀ v u s2 x y H2, Inv X pins σ H2 s2 -> RelV x v -> RelV y u -> R x y H2 -> wpAny (model X.prog X.w) X.A (f v u) Q X.xe s2) :
  wpAny (model X.prog X.w) X.A (eval a X.env) (fun v bA => wpAny (model X.prog X.w) X.A (eval b X.env) (fun u qV => wpAny (model X.prog X.w) X.A (f v u) Q X.xe qV) X.xe bA) X.xe s := by
 refine aT (ha pins s σ H _ I h) fun v s1 ⟨x, H1, I1, r1, q1⟩ => ?_
 refine aT (hb pins s1 σ H1 _ I1 q1) fun u s2 ⟨y, H2, I2, r2, q2⟩ => ?_
 exact hf v u s2 x y H2 I2 r1 r2 q2
def X3 (i : Nat) : TE := fun σ H Q => ∃ v, σ[i]? = some (some v) /\ Q v H
def tC (v : V) : TE := fun _ H Q => Q v H
theorem Te {i : Nat} {x : Str} {pos : Pos} (hN : X.N[i]? = some x) (hv : aJ X.env.scope x) (hd : (x == ("__debug__" : Str)) = false := by decide) (hcd : (x == ("__classdict__" : Str)) = false := by decide) : PE X (.Name x pos) (X3 i) := by
 intro pins s σ H Q I h
 obtain ⟨v, e, h⟩ := h
 obtain ⟨m, hn, hl⟩ := I.loc
 obtain ⟨u, r, l⟩ := hl i x v hN e hv
 have fin : EP X pins σ Q u s := ⟨v, H, I, r, h⟩
 rcases l with ⟨hk, hm⟩ | ⟨hk, c, hc, nF⟩
 ·exact wpAny_Name (wpAny_loadName_local I.ok.kind hk hn hm fin) hd
 ·rcases hk with hk | hk
  ·exact wpAny_Name (wpAny_loadName_cell I.ok.kind hk hc nF fin) hd
  ·exact wpAny_Name (wpAny_loadName_free I.ok.kind hk hc nF fin hcd) hd
theorem Tf {i j pos} : PE X (.Constant (.int i) j pos) (tC (.int i)) := fun _ _ _ H _ I h => wpAny_Constant_int ⟨.int i, H, I.tok _, ⟨_, rfl⟩, h⟩
theorem We {b j pos} : PE X (.Constant (.bool b) j pos) (tC (.bl b)) := fun _ _ _ H _ I h => Constant_bool ⟨.bl b, H, I, rfl, h⟩
theorem Tg {j pos} : PE X (.Constant .none j pos) (tC .az) := fun _ _ _ H _ I h => Constant_none ⟨.az, H, I, rfl, h⟩
theorem Ti {x j pos} : PE X (.Constant (.str x) j pos) (tC (.str x)) := fun _ _ _ H _ I h => Calls.Constant_str ⟨.str x, H, I.tok _, ⟨_, rfl⟩, h⟩
def Gl (X : Cx) (x : Str) : Prop := X.env.kindOf x = some .globalImplicit
theorem B4 {E : Value -> Shared -> Prop} {pins : List (Addr × Obj)} {s : Shared} {σ : St} {H : Hp} {x : Str} {u : Value} {pos : Pos} {Q : Value -> Shared -> Prop} (I : Inv X pins σ H s) (hg : Gl X x) (hm : X.mg x = some u) (h : Q u s)
  (hd : (x == ("__debug__" : Str)) = false := by decide) : wpAny (model X.prog X.w) X.A (eval (.Name x pos) X.env) Q E s :=
 Calls.Name_function_global I.ok.kind hg (Calls.loadGlobal_global (by rw [I.ok.glob]; exact I.mod.glob.keeps I.bk) hm h) hd
theorem nu {E : Value -> Shared -> Prop} {pins : List (Addr × Obj)} {s : Shared} {σ : St} {H : Hp} {x : Str} {u : Value} {pos : Pos} {Q : Value -> Shared -> Prop} (I : Inv X pins σ H s) (hg : Gl X x) (hm : X.mg x = none) (hv : bootBuiltins x = some u) (h : Q u s)
  (hn : x ≠ "__name__" := by decide) (hd : (x == ("__debug__" : Str)) = false := by decide) : wpAny (model X.prog X.w) X.A (eval (.Name x pos) X.env) Q E s := by
 obtain ⟨mb, h1, h2⟩ := I.mod.blt
 exact Calls.Name_function_global I.ok.kind hg (Calls.loadGlobal_builtin (by rw [I.ok.glob]; exact I.mod.glob.keeps I.bk) hm (by rw [I.ok.blt]; exact h1.keeps I.bk) ((h2 x hn).trans hv) h) hd
theorem Q9 {x : Str} {v : V} {u : Value} {pos : Pos} (hg : Gl X x) (hm : X.mg x = none) (hv : bootBuiltins x = some u) (r : RelV v u) (hn : x ≠ "__name__" := by decide) (hd : (x == ("__debug__" : Str)) = false := by decide) : PE X (.Name x pos) (tC v) :=
 fun _ _ _ H _ I h => nu I hg hm hv ⟨v, H, I, r, h⟩ hn hd
variable {a b : Expr} {ta tb : TE} {pos : Pos}
variable {tA uH : TT} {rest : List Expr}
def El (t u : TT) : TT := fun σ H Q => t σ H fun c H1 => if c = true then u σ H1 Q else Q false H1
def EY (t u : TT) : TT := fun σ H Q => t σ H fun c H1 => if c = true then Q true H1 else u σ H1 Q
def X4 (t : TT) : TT := fun σ H Q => t σ H fun c H1 => Q (!c) H1
theorem Ra (ha : PT X a tA) : PW X (.BoolOp .And [a] pos) tA := by
 intro wh pins s σ H Q I h
 refine isTrue_and (aT (ha pins s σ H Q I h) fun c s1 e => ?_)
 cases c with
 | true => exact isTrue_and_nil e
 | false => exact e
theorem Tj (ha : PT X a tA) : PW X (.BoolOp .Or [a] pos) tA := by
 intro wh pins s σ H Q I h
 refine isTrue_or (aT (ha pins s σ H Q I h) fun c s1 e => ?_)
 cases c with
 | false => exact isTrue_or_nil e
 | true => exact e
theorem Tn (ha : PT X a tA) (hb : PW X (.BoolOp .And (b :: rest) pos) uH) : PW X (.BoolOp .And (a :: b :: rest) pos) (El tA uH) := by
 intro wh pins s σ H Q I h
 refine isTrue_and (aT (ha pins s σ H _ I h) fun c s1 ⟨H1, I1, q1⟩ => ?_)
 cases c with
 | true => exact hb wh pins s1 σ H1 Q I1 q1
 | false => exact ⟨H1, I1, q1⟩
theorem Wf (ha : PT X a tA) (hb : PW X (.BoolOp .Or (b :: rest) pos) uH) : PW X (.BoolOp .Or (a :: b :: rest) pos) (EY tA uH) := by
 intro wh pins s σ H Q I h
 refine isTrue_or (aT (ha pins s σ H _ I h) fun c s1 ⟨H1, I1, q1⟩ => ?_)
 cases c with
 | true => exact ⟨H1, I1, q1⟩
 | false => exact hb wh pins s1 σ H1 Q I1 q1
theorem To (ha : PT X a tA) : PT X (.UnaryOp .Not a pos) (X4 tA) := by
 intro pins s σ H Q I h
 exact isTrue_not (ha pins s σ H (fun c H1 => Q (!c) H1) I h)
def Wg (ta tb : TE) : TE := fun σ H Q => ta σ H fun x H1 => ∃ c, x = .bl c /\ if c = true then tb σ H1 Q else Q (.bl false) H1
def X5 (ta tb : TE) : TE := fun σ H Q => ta σ H fun x H1 => ∃ c, x = .bl c /\ if c = true then Q (.bl true) H1 else tb σ H1 Q
theorem Tp {op} {t : TE} (h : PE X a t) : PE X (.BoolOp op [a] pos) t := fun pins s σ H Q I hw => BoolOp_one (h pins s σ H Q I hw)
theorem Tq (ha : PE X a ta) (hb : PE X (.BoolOp .And (b :: rest) pos) tb) : PE X (.BoolOp .And (a :: b :: rest) pos) (Wg ta tb) := by
 intro pins s σ H Q I h
 refine BoolOp_and (aT (ha pins s σ H _ I h) fun v s1 ⟨x, H1, I1, r1, q1⟩ => ?_)
 obtain ⟨c, rfl, q1⟩ := q1
 cases r1
 refine wpAny_truthy_bool ?_
 cases c with
 | true => exact hb pins s1 σ H1 Q I1 q1
 | false => exact ⟨.bl false, H1, I1, rfl, q1⟩
theorem Wh (ha : PE X a ta) (hb : PE X (.BoolOp .Or (b :: rest) pos) tb) : PE X (.BoolOp .Or (a :: b :: rest) pos) (X5 ta tb) := by
 intro pins s σ H Q I h
 refine BoolOp_or (aT (ha pins s σ H _ I h) fun v s1 ⟨x, H1, I1, r1, q1⟩ => ?_)
 obtain ⟨c, rfl, q1⟩ := q1
 cases r1
 refine wpAny_truthy_bool ?_
 cases c with
 | false => exact hb pins s1 σ H1 Q I1 q1
 | true => exact ⟨.bl true, H1, I1, rfl, q1⟩
end
def bb (K : PySem.W.Frag) (H : Hp) (a : Addr) (xs : List V) : Prop :=
 Rd H a (.lst xs) \/
  ∃ (o : Obj) (its : Array Value) (n : Nat), K.lookup a = some o /\ o.cls = .type "list" /\ o.dict = none /\ o.data = .seq its n /\ its.size <= sizeLine /\ Vals xs its.toList
def ce (K : PySem.W.Frag) (H : Hp) (a : Addr) (xs : List V) : Prop :=
 Rd H a (.tup xs) \/
  ∃ (o : Obj) (its : Array Value) (n : Nat), K.lookup a = some o /\ o.cls = .type "tuple" /\ o.data = .seq its n /\ its.size <= sizeLine /\ Vals xs its.toList
def X6 : Value -> Option V
 | .none => some .az
 | .bool b => some (.bl b)
 | .int i _ => some (.int i)
 | .str x _ => some (.str x)
 | .bytes b _ => some (.n6 b)
 | .float b _ => some (.uF b)
 | .ref a => some (.ref a)
 | .type n => some (.ty n)
 | _ => none
theorem RelV.abs {x : V} {u : Value} (r : RelV x u) : X6 u = some x := by
 cases x with
 | az => cases r; rfl
 | bl _ => cases r; rfl
 | int _ => obtain ⟨t, rfl⟩ := r; rfl
 | str _ => obtain ⟨t, rfl⟩ := r; rfl
 | n6 _ => obtain ⟨t, rfl⟩ := r; rfl
 | uF _ => obtain ⟨t, rfl⟩ := r; rfl
 | ref _ => cases r; rfl
 | ty _ => cases r; rfl
theorem RelV.inj {x y : V} {u : Value} (r : RelV x u) (q : RelV y u) : x = y := Option.some.inj (r.abs.symm.trans q.abs)
theorem Vals.inj : ∀ {xs ys : List V} {us : List Value}, Vals xs us -> Vals ys us -> xs = ys
 | _, _, _, .nil, .nil => rfl
 | _, _, _, .cons r t, .cons r' t' => by rw [r.inj r', Vals.inj t t']
section
variable {X : Cx} {pins : List (Addr × Obj)} {σ : St} {H : Hp} {s : Shared} {a : Addr} {xs ys : List V}
theorem bb.of {K : PySem.W.Frag} (h : H a = some (.lst xs)) : bb K H a xs := .inl (.inl h)
theorem ce.of {K : PySem.W.Frag} (h : H a = some (.tup xs)) : ce K H a xs := .inl (.inl h)
theorem Inv.list (I : Inv X pins σ H s) (h : bb X.K H a xs) : ∃ its : List Value, Vals xs its /\ PlainL s.heap a its.toArray /\ xs.length <= sizeLine := by
 rcases h with h | ⟨o, its, n, hk, hc, hd, hs, hz, r⟩
 ·obtain ⟨z, its, n, r, e⟩ := h.ok I.aF
  exact ⟨its, r, ⟨_, n, e, rfl, rfl, rfl⟩, z⟩
 ·refine ⟨its.toList, r, ⟨o, n, I.dN a o hk, hc, hd, by simpa using hs⟩, ?_⟩
  have e := r.length
  simp only [Array.length_toList] at e
  omega
theorem Inv.tuple (I : Inv X pins σ H s) (h : ce X.K H a xs) : ∃ its : List Value, Vals xs its /\ IsTup s.heap a its.toArray /\ xs.length <= sizeLine := by
 rcases h with h | ⟨o, its, n, hk, hc, hs, hz, r⟩
 ·obtain ⟨z, its, r, p⟩ := h.ok I.aF
  exact ⟨its, r, p, z⟩
 ·refine ⟨its.toList, r, ⟨o, I.dN a o hk, hc, n, by simpa using hs⟩, ?_⟩
  have e := r.length
  simp only [Array.length_toList] at e
  omega
theorem Inv.PL (I : Inv X pins σ H s) (h : bb X.K H a xs) (h' : bb X.K H a ys) : xs = ys := by
 obtain ⟨its, r, ⟨o, n, e, _, _, d⟩, _⟩ := I.list h
 obtain ⟨its', r', ⟨o', n', e', _, _, d'⟩, _⟩ := I.list h'
 rw [e] at e'; cases e'
 rw [d] at d'
 injection d' with d1 _
 have : its = its' := by simpa using congrArg Array.toList d1
 subst this
 exact r.inj r'
theorem Inv.aab (I : Inv X pins σ H s) (h : ce X.K H a xs) (h' : ce X.K H a ys) : xs = ys := by
 obtain ⟨its, r, ⟨o, e, _, n, d⟩, _⟩ := I.tuple h
 obtain ⟨its', r', ⟨o', e', _, n', d'⟩, _⟩ := I.tuple h'
 rw [e] at e'; cases e'
 rw [d] at d'
 injection d' with d1 _
 have : its = its' := by simpa using congrArg Array.toList d1
 subst this
 exact r.inj r'
end
abbrev Cx.gw (X : Cx) (E : Value -> Shared -> Prop) : Cx := { X with xe := E }
abbrev Cx.j7 (X : Cx) : Cx := X.gw fun _ _ => False
theorem Cx.Ok.gw {X : Cx} (ok : X.Ok) (E : Value -> Shared -> Prop) : (X.gw E).Ok :=
 ⟨ok.mod, ok.kind, ok.glob, ok.blt, ok.above, ok.inj, ok.has, ok.n9, ok.hd, ok.frames, ok.qd, ok.yx, ok.bs, ok.hZ, ok.nO, ok.nP, ok.eR, ok.j4⟩
theorem Cx.Ok.iP {X : Cx} {E : Value -> Shared -> Prop} (ok : (X.gw E).Ok) : X.Ok :=
 ⟨ok.mod, ok.kind, ok.glob, ok.blt, ok.above, ok.inj, ok.has, ok.n9, ok.hd, ok.frames, ok.qd, ok.yx, ok.bs, ok.hZ, ok.nO, ok.nP, ok.eR, ok.j4⟩
section
variable {X : Cx} {pins : List (Addr × Obj)} {σ : St} {H : Hp} {s : Shared} {E : Value -> Shared -> Prop}
theorem Inv.gw (I : Inv X pins σ H s) (E : Value -> Shared -> Prop) : Inv (X.gw E) pins σ H s := ⟨I.ok.gw E, I.os, I.bare, I.base, I.loc, I.cell, I.free, I.gr, I.pin, I.aF, I.len⟩
theorem Inv.iP (I : Inv (X.gw E) pins σ H s) : Inv X pins σ H s := ⟨I.ok.iP, I.os, I.bare, I.base, I.loc, I.cell, I.free, I.gr, I.pin, I.aF, I.len⟩
theorem SP.iP {D : Ends} {f : Flow} {s' : Shared} (h : SP (X.gw E) pins D f s') : SP X pins D f s' := by
 cases f with
 | next => obtain ⟨ao, H', I, q⟩ := h; exact ⟨ao, H', I.iP, q⟩
 | brk => obtain ⟨ao, H', I, q⟩ := h; exact ⟨ao, H', I.iP, q⟩
 | cont => obtain ⟨ao, H', I, q⟩ := h; exact ⟨ao, H', I.iP, q⟩
 | ret u => obtain ⟨v, ao, H', I, r, q⟩ := h; exact ⟨v, ao, H', I.iP, r, q⟩
theorem PE.j7 {e : Expr} {t : TE} (h : PE X.j7 e t) : PE X e t := fun pins s σ H Q I hw =>
 wpAny_mono (h pins s σ H Q (I.gw _) hw) (fun _ _ ⟨v, H', I', r, q⟩ => ⟨v, H', I'.iP, r, q⟩) fun _ _ z => False.elim z
theorem PT.j7 {e : Expr} {t : TT} (h : PT X.j7 e t) : PT X e t := fun pins s σ H Q I hw =>
 wpAny_mono (h pins s σ H Q (I.gw _) hw) (fun _ _ ⟨H', I', q⟩ => ⟨H', I'.iP, q⟩) fun _ _ z => False.elim z
theorem dO.j7 {st : List Stmt} {t : TS} (h : dO X.j7 st t) : dO X st t := fun pins s σ H D I hw =>
 wpAny_mono (h pins s σ H D (I.gw _) hw) (fun _ _ q => q.iP) fun _ _ z => False.elim z
end
section
variable {X : Cx} {st : Stmt} {rest : List Stmt} {t u : TS} {e : Expr} {te : TE} {pos : Pos}
def Wi : TS := fun D σ H => D.nx σ H
def Em (t u : TS) : TS := fun D σ H => t { D with nx := u D } σ H
theorem Rb : dO X [] Wi := fun _ _ σ H _ I h => wpAny_execs_nil ⟨σ, H, I, h⟩
theorem PM (h1 : PS X st t) (h2 : dO X rest u) : dO X (st :: rest) (Em t u) := by
 intro pins s σ H D I h
 refine wpAny_execs_cons (aT (h1 pins s σ H { D with nx := u D } I h) fun f s1 q => ?_)
 cases f with
 | next =>
  obtain ⟨ao, H', I', q⟩ := q
  exact h2 pins s1 ao H' D I' q
 | ret v => exact q
 | brk => exact q
 | cont => exact q
theorem Rc (h1 : PS X st t) : dO X [st] t := by
 intro pins s σ H D I h
 refine wpAny_execs_cons (aT (h1 pins s σ H D I h) fun f s1 q => ?_)
 cases f with
 | next => exact wpAny_execs_nil q
 | ret v => exact q
 | brk => exact q
 | cont => exact q
theorem Inv.quiet {pins : List (Addr × Obj)} {σ : St} {H : Hp} {s : Shared} (I : Inv X pins σ H s) : interactive X.env = false := by simp [interactive, I.ok.kind]
def Wj (te : TE) : TS := fun D σ H => te σ H fun _ H1 => D.nx σ H1
theorem Rf (he : PE X e te) (hs : swapsWith e none pos.line X.env = pure false := by rfl) : PS X (.Expr e pos) (Wj te) := by
 intro pins s σ H D I h
 exact wpAny_Expr_any (aT (he pins s σ H _ I h) fun v s1 ⟨x, H1, I1, r1, q1⟩ => ⟨σ, H1, I1, q1⟩) I.quiet hs
def X7 (te : TE) : TS := fun D σ H => te σ H D.rt
theorem Tr (he : PE X e te) : PS X (.Return (some e) pos) (X7 te) := by
 intro pins s σ H D I h
 exact wpAny_Return_some (aT (he pins s σ H _ I h) fun v s1 ⟨x, H1, I1, r1, q1⟩ => ⟨x, σ, H1, I1, r1, q1⟩)
def X8 (c : TT) (t u : TS) : TS := fun D σ H => c σ H fun b H1 => if b = true then t D σ H1 else u D σ H1
theorem Wk {c : Expr} {a b : List Stmt} {tc : TT} (hc : PT X c tc) (ha : dO X a t) (hb : dO X b u) : PS X (.If c a b pos) (X8 tc t u) := by
 intro pins s σ H D I h
 refine wpAny_If (aT (hc pins s σ H _ I h) fun d s1 ⟨H1, I1, q1⟩ => ?_)
 cases d with
 | true => exact ha pins s1 σ H1 D I1 q1
 | false => exact hb pins s1 σ H1 D I1 q1
end
abbrev TG := V -> St -> Hp -> (St -> Hp -> Prop) -> Prop
abbrev j8 := List V -> St -> Hp -> (St -> Hp -> Prop) -> Prop
def PG (X : Cx) (target : Expr) (t : TG) : Prop :=
 ∀ (pins : List (Addr × Obj)) (s : Shared) (σ : St) (H : Hp) (v : V) (u : Value) (Q : St -> Hp -> Prop), Inv X pins σ H s -> RelV v u -> t v σ H Q →
  wpAny (model X.prog X.w) X.A (assign target X.env u) (fun _ s' => ∃ ao H', Inv X pins ao H' s' /\ Q ao H') X.xe s
def fE (X : Cx) (ts : List Expr) (t : j8) : Prop :=
 ∀ (pins : List (Addr × Obj)) (s : Shared) (σ : St) (H : Hp) (vs : List V) (us : List Value) (Q : St -> Hp -> Prop), Inv X pins σ H s -> Vals vs us -> t vs σ H Q →
  wpAny (model X.prog X.w) X.A (assignInOrder ((assignEach ts X.env).map (·.2)) us) (fun _ s' => ∃ ao H', Inv X pins ao H' s' /\ Q ao H') X.xe s
abbrev pM := V -> V -> V -> Hp -> (Hp -> Prop) -> Prop
def jP (X : Cx) (t : pM) : Prop :=
 ∀ (pins : List (Addr × Obj)) (s : Shared) (σ : St) (H : Hp) (o i v : V) (ov iv u : Value) (Q : Hp -> Prop), Inv X pins σ H s -> RelV o ov -> RelV i iv -> RelV v u -> t o i v H Q →
  wpAny (model X.prog X.w) X.A (setItem ov iv u) (fun _ s' => ∃ H', Inv X pins σ H' s' /\ Q H') X.xe s
abbrev uI := V -> V -> Hp -> VK -> Prop
def EZ (X : Cx) (op : Operator) (t : uI) : Prop :=
 ∀ (pins : List (Addr × Obj)) (s : Shared) (σ : St) (H : Hp) (x y : V) (v u : Value) (Q : VK), Inv X pins σ H s -> RelV x v -> RelV y u -> t x y H Q →
  wpAny (model X.prog X.w) X.A (inplaceOp op v u) (EP X pins σ Q) X.xe s
section
variable {X : Cx} {pos : Pos}
def xH (i : Nat) : TG := fun v σ H Q => Q (σ.set i (some v)) H
theorem Rg {i : Nat} {x : Str} (hN : X.N.Nodup) (hi : X.N[i]? = some x) (hx : Loc X.env.scope x) (hf : X.fn x = true \/ X.env.scope.names.lookup x = some .local := by first | exact .inl rfl | exact .inr rfl | assumption) : PG X (.Name x pos) (xH i) := by
 intro pins s σ H v u Q I r h
 exact wpAny_assign_Name (vZ I hN hi hx r (fun s' I' => ⟨_, H, I', h⟩) hf)
def X9 : j8 := fun vs σ H Q => vs = [] /\ Q σ H
def Wl (t : TG) (u : j8) : j8 := fun vs σ H Q => ∃ v r, vs = v :: r /\ t v σ H fun ao H' => u r ao H' Q
theorem Rh : fE X [] X9 := by
 intro pins s σ H vs us Q I r h
 obtain ⟨e, h⟩ := h
 subst e
 cases r
 exact assignInOrder_nil ⟨σ, H, I, h⟩
theorem PN {e : Expr} {es : List Expr} {t : TG} {u : j8} (h1 : PG X e t) (h2 : fE X es u)
  (hs : (assignEach (e :: es) X.env).map (·.2) = assign e X.env :: (assignEach es X.env).map (·.2) := by rfl) : fE X (e :: es) (Wl t u) := by
 intro pins s σ H vs us Q I r h
 obtain ⟨v, vr, e1, h⟩ := h
 subst e1
 cases r with
 | cons r rr =>
  rw [hs]
  refine assignInOrder_cons (aT (h1 pins s σ H _ _ _ I r h) fun _ s1 ⟨aP, H1, I1, q1⟩ => ?_)
  exact h2 pins s1 aP H1 _ _ Q I1 rr q1
def Ya (K : PySem.W.Frag) (n : Nat) (t : j8) : TG := fun v σ H Q => ∃ a xs, v = .ref a /\ ce K H a xs /\ xs.length = n /\ t xs σ H Q
theorem Ts {es : List Expr} {k : Nat} {t : j8} {n : Nat} (hc : X.calm = true) (h : fE X es t)
  (hn : (assignEach es X.env).length = n := by rfl) (fF : (assignEach es X.env).findIdx? (·.1) = none := by rfl) : PG X (.Tuple es k pos) (Ya X.K n t) := by
 intro pins s σ H v u Q I r hw
 obtain ⟨a, xs, e1, hq, hl, hw⟩ := hw
 subst e1
 cases r
 obtain ⟨its, rv, ht, hz⟩ := I.tuple hq
 refine assign_Tuple_tuple (I.ok.hd hc) ht (by simp [hn, <- hl, rv.length]) fF fun h' hx => ?_
 have I1 : Inv X pins σ H { s with heap := h' } := I.kept (t' := s.toks) fun b o e => hx b o (Nat.ne_of_lt (Heap.lt_size e)) e
 exact h pins _ σ H xs _ Q I1 (by simpa using rv) hw
def Yb (to ti : TE) (t : pM) : TG := fun v σ H Q => to σ H fun o H1 => ti σ H1 fun i H2 => t o i v H2 fun H3 => Q σ H3
theorem C3 {o i : Expr} {to ti : TE} {t : pM} (ho : PE X o to) (hi : PE X i ti) (hs : jP X t)
  (ha : ∀ v, assign (.Subscript o i pos) X.env v = (do
   let ov <- holding [v] (eval o X.env)
   let iv <- holding [v, ov] (eval i X.env)
   standAt pos
   holding [v, ov, iv] (setItem ov iv v)
   release [v, ov, iv] []) := by intro _; rfl) : PG X (.Subscript o i pos) (Yb to ti t) := by
 intro pins s σ H v u Q I r h
 rw [ha]
 refine wpAny_bind (wpAny_holding (aT (ho pins s σ H _ I h) fun ov s1 ⟨x, H1, I1, r1, q1⟩ => ?_))
 refine wpAny_bind (wpAny_holding (aT (hi pins s1 σ H1 _ I1 q1) fun iv s2 ⟨y, H2, I2, r2, q2⟩ => ?_))
 refine wpAny_bind (wpAny_standAt (wpAny_bind (wpAny_holding (aT (hs pins s2 σ H2 x y v ov iv u _ I2 r1 r2 r q2) fun _ s3 ⟨H3, I3, q3⟩ => ?_))))
 exact wpAny_release ⟨σ, H3, I3, q3⟩
def uh (te : TE) (g : TG) : TS := fun D σ H => te σ H fun x H1 => g x σ H1 D.nx
theorem Tt {tg e : Expr} {te : TE} {g : TG} (he : PE X e te) (hg : PG X tg g) (hs : swapsWithSole [tg] e pos.line X.env = pure false := by rfl) (hw : swappedStores [tg] e X.env = pure none := by rfl)
  (h1 : (assignEach [tg] X.env).map (·.2) = [assign tg X.env] := by rfl) : PS X (.Assign [tg] e pos) (uh te g) := by
 intro pins s σ H D I h
 refine wpAny_Assign_stores (aT (he pins s σ H _ I h) fun v s1 ⟨x, H1, I1, r1, q1⟩ => ?_) hs hw
 rw [h1]
 exact aT (hg pins s1 σ H1 x v _ I1 r1 q1) fun _ s2 q => q
theorem Tu {i : Nat} {x : Str} {e : Expr} {te : TE} {pos' : Pos} (hN : X.N.Nodup) (hi : X.N[i]? = some x) (hx : Loc X.env.scope x) (he : PE X e te) (hs : swapsWith e (some (.Name x pos')) pos.line X.env = pure false := by rfl) (hf : X.fn x = true \/ X.env.scope.names.lookup x = some .local := by first | exact .inl rfl | exact .inr rfl | assumption) :
  PS X (.Assign [.Name x pos'] e pos) (uh te (xH i)) := by
 intro pins s σ H D I h
 refine wpAny_Assign_Name (aT (he pins s σ H _ I h) fun v s1 ⟨y, H1, I1, r1, q1⟩ => ?_) hs
 exact vZ I1 hN hi hx r1 (fun s2 I2 => ⟨_, H1, I2, q1⟩) hf
def En (i : Nat) (te : TE) (ti : uI) : TS := fun D σ H => ∃ x, σ[i]? = some (some x) /\ te σ H fun y H1 => ti x y H1 fun z H2 => D.nx (σ.set i (some z)) H2
theorem Tv {i : Nat} {x : Str} {e : Expr} {te : TE} {op : Operator} {ti : uI} {pos' : Pos} (hN : X.N.Nodup) (hi : X.N[i]? = some x) (hx : Loc X.env.scope x) (he : PE X e te) (ho : EZ X op ti) (hf : X.fn x = true \/ X.env.scope.names.lookup x = some .local := by first | exact .inl rfl | exact .inr rfl | assumption) :
  PS X (.AugAssign (.Name x pos') op e pos) (En i te ti) := by
 intro pins s σ H D I h
 obtain ⟨v, e1, h⟩ := h
 obtain ⟨m, hn, hl⟩ := I.loc
 have uJ : aJ X.env.scope x := by rcases hx with k | k; exact .inl k; exact .inr (.inl k)
 obtain ⟨u, r, l⟩ := hl i x v hi e1 uJ
 refine wpAny_AugAssign_Name ?_
 have go : wpAny (model X.prog X.w) X.A (eval e X.env) (fun w qV => wpAny (model X.prog X.w) X.A (inplaceOp op u w) (fun r zD => wpAny (model X.prog X.w) X.A (storeName X.env x r) (fun _ => SP X pins D .next) X.xe zD) X.xe qV) X.xe s := by
  refine aT (he pins s σ H _ I h) fun w s1 ⟨y, H1, I1, r1, q1⟩ => ?_
  refine aT (ho pins s1 σ H1 v y u w _ I1 r r1 q1) fun z s2 ⟨zv, H2, I2, r2, q2⟩ => ?_
  exact vZ I2 hN hi hx r2 (fun s3 I3 => ⟨_, H2, I3, q2⟩) hf
 rcases l with ⟨hk, hm⟩ | ⟨hk, c, hc, nF⟩
 ·exact wpAny_loadName_local I.ok.kind hk hn hm go
 ·rcases hk with hk | hk
  ·exact wpAny_loadName_cell I.ok.kind hk hc nF go
  ·rcases hx with k | k
   ·have : X.env.scope.names.lookup x = some .free := hk
    rw [k] at this; cases this
   ·have : X.env.scope.names.lookup x = some .free := hk
    rw [k] at this; cases this
def E0 (f : Int -> Int -> Int) : uI := fun x y H Q => ∃ i j, x = .int i /\ y = .int j /\ Q (.int (f i j)) H
theorem Tw : EZ X .Add (E0 fun i j => i + j) := by
 intro pins s σ H x y v u Q I r1 r2 h
 obtain ⟨i, j, e1, e2, q⟩ := h
 subst e1; subst e2
 obtain ⟨t, rfl⟩ := r1
 obtain ⟨t', rfl⟩ := r2
 exact iadd_int ⟨.int _, H, I.tok _, ⟨_, rfl⟩, q⟩
end
section
variable {X : Cx} {pos : Pos}
def C4 (c : TT) (tb : TS) : TS := fun D σ H => ∃ W : Nat -> St -> Hp -> Prop, (∃ m, W m σ H) /\ ∀ m σ H, W m σ H →
 c σ H fun b H1 => if b = true then ∃ N : St -> Hp -> Prop, (∀ ao H', N ao H' -> ∃ m', m' < m /\ W m' ao H') /\ tb { D with nx := N, ct := N, bk := D.nx } σ H1 else D.nx σ H1
theorem PP {c : Expr} {body : List Stmt} {tc : TT} {tb : TS} (hp : PassesOwn (model X.prog X.w) X.A X.env X.xe) (hc : PT X c tc) (hb : dO X body tb) : PS X (.While c body [] pos) (C4 tc tb) := by
 intro pins s σ H D I h
 obtain ⟨W, ⟨m0, w0⟩, turn⟩ := h
 refine wpAny_While (codeAny_whileLoop (fun n s' => ∃ ao H', Inv X pins ao H' s' /\ W n ao H') ?_ m0 ⟨σ, H, I, w0⟩)
 rintro n s1 ⟨aP, H1, I1, w1⟩
 refine wpAny_passesOwn hp (aT (hc pins s1 aP H1 _ I1 (turn n aP H1 w1)) fun b s2 ⟨H2, I2, q2⟩ => ?_)
 cases b with
 | true =>
  obtain ⟨N, hN, q2⟩ := q2
  rw [if_pos rfl]
  refine wpAny_passesOwn hp (aT (hb pins s2 aP H2 _ I2 q2) fun f s3 q3 => ?_)
  cases f with
  | next =>
   obtain ⟨ir, H3, I3, n3⟩ := q3
   obtain ⟨m', hm, w3⟩ := hN ir H3 n3
   exact ⟨m', hm, ir, H3, I3, w3⟩
  | cont =>
   obtain ⟨ir, H3, I3, n3⟩ := q3
   obtain ⟨m', hm, w3⟩ := hN ir H3 n3
   exact ⟨m', hm, ir, H3, I3, w3⟩
  | brk => exact q3
  | ret v => exact q3
 | false =>
  rw [if_neg Bool.false_ne_true]
  exact wpAny_execs_nil ⟨aP, H2, I2, q2⟩
end
structure It where
 go : Nat -> Hp -> Prop
 qi : Nat -> Hp -> V -> Hp -> Prop
 stop : Nat -> Hp -> Prop
def fB (X : Cx) (pins : List (Addr × Obj)) (H : Hp) (b : Addr) : Prop :=
 H b = none /\ b ≠ X.env.locals /\ b ∉ X.fs /\ (b ∈ X.ex \/ X.aA.heap.objs.size <= b) /\ (∀ x c, X.env.cells.lookup x = some c -> c ≠ b) /\ ∀ p ∈ X.pn ++ pins, p.1 ≠ b
theorem Inv.pN {X : Cx} {pins : List (Addr × Obj)} {σ : St} {H H' : Hp} {s : Shared} {b : Addr} (I : Inv X pins σ H s) (hb : s.heap.objs.size <= b) (hn : H' b = none) : fB X pins H' b := by
 refine ⟨hn, Nat.ne_of_gt (Nat.lt_of_lt_of_le I.lt hb), I.X0 hb, .inr (Nat.le_trans I.sz hb), fun x c e z => ?_, fun p hp z => ?_⟩
 ·obtain ⟨v, q⟩ := I.cell x c e
  exact absurd (Nat.lt_of_lt_of_le q.lt (by rw [z]; exact hb)) (Nat.lt_irrefl _)
 ·exact absurd (Nat.lt_of_lt_of_le (Heap.lt_size (I.pin p hp).1) (by rw [z]; exact hb)) (Nat.lt_irrefl _)
structure Turn (P : Program) (w : World) (K : PySem.W.Frag) (tg : Expr) (J : It) (fp : List Addr) (it : Addr) (tn : Nat -> Heap -> Prop) : Prop where
 mem : it ∈ fp
 obj : ∀ i h, tn i h -> ∀ b ∈ fp, ∃ o, h.get? b = some o /\ ∀ v, o.data ≠ .cell v
 keep : ∀ i h h', tn i h -> (∀ b ∈ fp, ∀ o, h.get? b = some o -> h'.get? b = some o) -> tn i h'
 item : ∀ (X : Cx), X.prog = P -> X.w = w -> X.K = K -> X.calm = true -> ∀ (i : Nat) (pins : List (Addr × Obj)) (s : Shared) (σ : St) (H : Hp) (E : Value -> Shared -> Prop), Inv X pins σ H s -> (∀ b ∈ fp, fB X pins H b) -> tn i s.heap -> J.go i H →
  wpAny (model P w) X.A (pyNext (.ref it)) (fun r s1 => ∃ u, r = some u /\
   wpAny (model P w) X.A (letOwnedTupleGo tg (.ref it) u) (fun _ s2 => ∃ x H', Inv X pins σ H' s2 /\ RelV x u /\ J.qi i H x H' /\ tn (i + 1) s2.heap /\ ∀ b ∈ fp, H' b = none) E s1) E s
 done : ∀ (X : Cx), X.prog = P -> X.w = w -> X.K = K -> X.calm = true -> ∀ (i : Nat) (pins : List (Addr × Obj)) (s : Shared) (σ : St) (H : Hp) (E : Value -> Shared -> Prop), Inv X pins σ H s -> (∀ b ∈ fp, fB X pins H b) -> tn i s.heap -> J.stop i H →
  wpAny (model P w) X.A (pyNext (.ref it)) (fun r s1 => r = none /\ Inv X pins σ H s1) E s
 self : ∀ (A : Around) (i : Nat) (s : Shared) (Q : Value -> Shared -> Prop) (E : Value -> Shared -> Prop), tn i s.heap -> Q (.ref it) s -> wpAny (model P w) A (pyIter (.ref it)) Q E s
abbrev TI := St -> Hp -> (It -> Hp -> Prop) -> Prop
def yA (X : Cx) (pins : List (Addr × Obj)) (σ : St) (tg : Expr) (R : It -> Hp -> Prop) (yB : Value) (s2 : Shared) : Prop :=
 ∃ (it : Addr) (fp : List Addr) (tn : Nat -> Heap -> Prop) (J : It) (H' : Hp), yB = .ref it /\ Inv X pins σ H' s2 /\ Turn X.prog X.w X.K tg J fp it tn /\ tn 0 s2.heap /\ (∀ b ∈ fp, fB X pins H' b) /\ R J H'
def PI (X : Cx) (tg iter : Expr) (wi : TI) : Prop :=
 ∀ (pins : List (Addr × Obj)) (s : Shared) (σ : St) (H : Hp) (R : It -> Hp -> Prop), Inv X pins σ H s -> wi σ H R →
  wpAny (model X.prog X.w) X.A (eval iter X.env) (fun v s1 => wpAny (model X.prog X.w) X.A (pyIter v) (yA X pins σ tg R) X.xe s1) X.xe s
theorem xI {M : Model} {A : Around} {E : Value -> Shared -> Prop} {s : Shared} {tg : Expr} {it : Addr} {u : Value} {o : Obj} {n : String} {vs : Array Value} {Q : Unit -> Shared -> Prop} (ho : s.heap.get? it = some o) (hc : o.cls = .type n) (hd : o.data = .fields vs)
    (hn : ["enumerate", "zip", "dict_itemiterator", "dict_reverseitemiterator", "odict_iterator", "itertools.zip_longest", "itertools.pairwise"].contains n = false) (hQ : Q () s) : wpAny M A (letOwnedTupleGo tg (.ref it) u) Q E s := by
  unfold letOwnedTupleGo
  cases tg <;> first
    | exact wpAny_pure hQ
    | (cases u <;> first
        | exact wpAny_pure hQ
        | (refine wpAny_bind (wpAny_load ho ?_)
           rw [hc, hd]
           show wpAny M A (if (["enumerate", "zip", "dict_itemiterator", "dict_reverseitemiterator", "odict_iterator", "itertools.zip_longest", "itertools.pairwise"].contains n && vs[0]? == some (rawInt _)) = true then _ else _) Q E s
           rw [if_neg (by intro h; rw [hn, Bool.false_and] at h; cases h)]
           exact wpAny_pure hQ))
def E1 (K : PySem.W.Frag) (a : Addr) : It :=
 ⟨fun i H => ∃ xs x, bb K H a xs /\ xs[i]? = some x, fun i H x H' => H' = H /\ ∀ xs, bb K H a xs -> xs[i]? = some x, fun i H => ∃ xs, bb K H a xs /\ xs.length <= i⟩
def Za (K : PySem.W.Frag) (a : Addr) : It :=
 ⟨fun i H => ∃ xs x, ce K H a xs /\ xs[i]? = some x, fun i H x H' => H' = H /\ ∀ xs, ce K H a xs -> xs[i]? = some x, fun i H => ∃ xs, ce K H a xs /\ xs.length <= i⟩
def qj (lo : Int) (n : Nat) : It := ⟨fun i _ => i < n, fun i H x H' => H' = H /\ x = .int (lo + i), fun i _ => n <= i⟩
theorem OL {P : Program} {w : World} {K : PySem.W.Frag} {tg : Expr} (a it : Addr) : Turn P w K tg (E1 K a) [it] it (fun i h => h.IsListIter it a i) where
 mem := by simp
 obj := fun i h st b hb => by
  have e : b = it := by simpa using hb
  subst e
  obtain ⟨o, e, c, d⟩ := st
  exact ⟨o, e, fun v z => by rw [d] at z; cases z⟩
 keep := fun i h h' st k => st.at fun o e => k it (by simp) o e
 item := by
  intro X hP hw hK hc i pins s σ H E I hf st hg
  subst hP hw hK
  obtain ⟨xs, x, hq, hx⟩ := hg
  obtain ⟨its, rv, p, hz⟩ := I.list hq
  obtain ⟨u, hu, ru⟩ := rv.get hx
  obtain ⟨f0, f1, f2, f3, f4, f5⟩ := hf it (by simp)
  refine wpAny_pyNext_list_item st p.isList (x := u) (by simpa using hu) fun h' cJ sb => ?_
  have I1 : Inv X pins σ H { s with heap := h' } := I.turned (t' := s.toks) (fun b o hb e => (sb.2 b hb).trans e) f0 f1 f3 f4 f5
  obtain ⟨o, e, c, d⟩ := id cJ
  exact ⟨u, rfl, xI (s := { s with heap := h' }) e c d (by decide) ⟨x, H, I1, ru, ⟨rfl, fun ys hy => by rw [I.PL hy hq]; exact hx⟩, cJ, fun b hb => (hf b hb).1⟩⟩
 done := by
  intro X hP hw hK hc i pins s σ H E I hf st hg
  subst hP hw hK
  obtain ⟨xs, hq, hx⟩ := hg
  obtain ⟨its, rv, p, hz⟩ := I.list hq
  obtain ⟨f0, f1, f2, f3, f4, f5⟩ := hf it (by simp)
  have hl := rv.length
  exact wpAny_pyNext_list_end (I.ok.hd hc) st p.isList (by simp; omega) fun h' eb => ⟨rfl, I.turned (t' := s.toks) (fun b o hb e => eb b o hb e) f0 f1 f3 f4 f5⟩
 self := fun _ _ _ _ _ st h => wpAny_pyIter_listiter st h
theorem N0 {P : Program} {w : World} {K : PySem.W.Frag} {tg : Expr} (it : Addr) (lo : Int) (n : Nat) : Turn P w K tg (qj lo n) [it] it (fun i h => IsRangeIter h it (lo + (i : Nat) * 1) ((n : Int) - (i : Nat)) 1) where
 mem := by simp
 obj := fun i h st b hb => by
  have e : b = it := by simpa using hb
  subst e
  exact ⟨_, st, fun v z => by
   have z' : Data.fields _ = Data.cell v := z
   cases z'⟩
 keep := fun i h h' st k => k it (by simp) _ st
 item := by
  intro X hP hw hK hc i pins s σ H E I hf st hg
  subst hP hw hK
  obtain ⟨f0, f1, f2, f3, f4, f5⟩ := hf it (by simp)
  have W := Walks.range (prog := X.prog) (w := X.w) (I.ok.hd hc) it lo 1 n
  refine W.item i s _ _ hg st fun v h' tk hv cJ kk => ?_
  obtain ⟨t, rfl⟩ := hv
  have I1 : Inv X pins σ H { s with heap := h', toks := tk } := I.turned (fun b o hb e => kk b o (by simpa using hb) e) f0 f1 f3 f4 f5
  refine ⟨_, rfl, xI (s := { s with heap := h', toks := tk }) (n := "range_iterator") cJ rfl rfl (by decide) ⟨.int (lo + i), H, I1, ⟨t, ?_⟩, ⟨rfl, rfl⟩, cJ, fun b hb => (hf b hb).1⟩⟩
  rw [Int.mul_one]
 done := by
  intro X hP hw hK hc i pins s σ H E I hf st hg
  subst hP hw hK
  obtain ⟨f0, f1, f2, f3, f4, f5⟩ := hf it (by simp)
  exact wpAny_pyNext_range_end (I.ok.hd hc) st (by have : n <= i := hg; omega) fun h' eb => ⟨rfl, I.turned (t' := s.toks) (fun b o hb e => eb b o hb e) f0 f1 f3 f4 f5⟩
 self := fun _ _ _ _ _ st h => wpAny_pyIter_rangeiter st h
section
variable {X : Cx} {tg : Expr}
def Wn (K : PySem.W.Frag) (tl : TE) : TI := fun σ H R => tl σ H fun x H1 => ∃ a, x = .ref a /\ (∃ xs, bb K H1 a xs) /\ R (E1 K a) H1
def aak (K : PySem.W.Frag) (tl : TE) : TI := fun σ H R => tl σ H fun x H1 => ∃ a, x = .ref a /\ (∃ xs, ce K H1 a xs) /\ R (Za K a) H1
theorem Ri {l : Expr} {tl : TE} (hl : PE X l tl) : PI X tg l (Wn X.K tl) := by
 intro pins s σ H R I h
 refine aT (hl pins s σ H _ I h) fun v s1 ⟨x, H1, I1, r1, q1⟩ => ?_
 obtain ⟨a, e, ⟨xs, hq⟩, q⟩ := q1
 subst e
 cases r1
 obtain ⟨its, rv, p, hz⟩ := I1.list hq
 refine wpAny_pyIter_list p.isList ?_
 refine ⟨s1.heap.objs.size, [s1.heap.objs.size], _, _, H1, rfl, I1.kept (t' := s1.toks) fun b o e => Heap.get?_push_of_some _ e, OL a _, ⟨_, Heap.get?_push_size _ rfl, rfl, rfl⟩, fun b hb => ?_, q⟩
 have e : b = s1.heap.objs.size := by simpa using hb
 subst e
 exact I1.pN (Nat.le_refl _) (I1.aF.fresh (Nat.le_refl _))
theorem Bw {pins : List (Addr × Obj)} {σ : St} {H : Hp} {s : Shared} {R : It -> Hp -> Prop} {E : Value -> Shared -> Prop} {lo hi : Int} {t u v : Tok} {tk : Nat} (I : Inv X pins σ H s) (h1 : -(2 ^ 62) <= lo) (h2 : lo < 2 ^ 62) (h3 : -(2 ^ 62) <= hi) (h4 : hi < 2 ^ 62)
  (q : R (qj lo (hi - lo).toNat) H) : wpAny (model X.prog X.w) X.A (pyIter (.ref s.heap.objs.size)) (yA X pins σ tg R) E { s with heap := s.heap.push { cls := .type "range", data := .fields #[.int lo t, .int hi u, .int 1 v] }, toks := tk } := by
 refine wpAny_pyIter_range (IsRange.new ..) (small_one h1 h2 h3 h4) ?_
 have I1 : Inv X pins σ H { s with heap := s.heap.push { cls := .type "range", data := .fields #[.int lo t, .int hi u, .int 1 v] }, toks := tk } := I.kept fun b o e => Heap.get?_push_of_some _ e
 refine ⟨(s.heap.push { cls := .type "range", data := .fields #[.int lo t, .int hi u, .int 1 v] }).objs.size, [(s.heap.push { cls := .type "range", data := .fields #[.int lo t, .int hi u, .int 1 v] }).objs.size], _, _, H, rfl,
  I1.kept (t' := tk) fun b o e => Heap.get?_push_of_some _ e, N0 _ lo (hi - lo).toNat, ?_, fun b hb => ?_, q⟩
 ·have e1 : lo + ((0 : Nat) : Int) * 1 = lo := by simp
  have e2 : (((hi - lo).toNat : Nat) : Int) - ((0 : Nat) : Int) = Builtin.Range.rangeSize lo hi 1 := by rw [rangeSize_one]; split <;> omega
  show IsRangeIter _ _ (lo + ((0 : Nat) : Int) * 1) ((((hi - lo).toNat : Nat) : Int) - ((0 : Nat) : Int)) 1
  rw [e1, e2]
  exact Heap.get?_push_size _ rfl
 ·have e : b = (s.heap.push { cls := .type "range", data := .fields #[.int lo t, .int hi u, .int 1 v] }).objs.size := by simpa using hb
  subst e
  exact I1.pN (Nat.le_refl _) (I1.aF.fresh (Nat.le_refl _))
def Wo (ta : TA) : TI := fun σ H R => ta σ H fun vs H1 => ∃ j : Int, vs = [.int j] /\ -(2 ^ 62) <= j /\ j < 2 ^ 62 /\ R (qj 0 j.toNat) H1
def Wq (ta : TA) : TI := fun σ H R => ta σ H fun vs H1 => ∃ i j : Int, vs = [.int i, .int j] /\ (-(2 ^ 62) <= i /\ i < 2 ^ 62 /\ -(2 ^ 62) <= j /\ j < 2 ^ 62) /\ R (qj i (j - i).toNat) H1
theorem ON {a : Expr} {ta : TA} {p pos : Pos} (hg : Gl X "range") (hm : X.mg "range" = none) (ha : PA X [a] ta) (hs : starEach [a] X.env = [(false, eval a X.env)] := by rfl) : PI X tg (.Call (.Name "range" p) [a] [] pos) (Wo ta) := by
 intro pins s σ H R I h
 refine Call_ (nu I hg hm boot_range (PyProof.Rows.callWith_type1 (aT (ha pos pins s σ H _ I h) fun us s1 ⟨vs, H1, I1, r1, q1⟩ => ?_) hs rfl))
 obtain ⟨j, e, q1, q2, q⟩ := q1
 subst e
 cases r1 with
 | cons r rr =>
  cases rr
  obtain ⟨t, rfl⟩ := r
  exact call_range_1 (Bw I1 (by omega) (by omega) q1 q2 (by simpa using q))
theorem OO {a b : Expr} {ta : TA} {p pos : Pos} (hg : Gl X "range") (hm : X.mg "range" = none) (ha : PA X [a, b] ta) (hs : starEach [a, b] X.env = [(false, eval a X.env), (false, eval b X.env)] := by rfl) (d5 : starEach [b] X.env = [(false, eval b X.env)] := by rfl) :
  PI X tg (.Call (.Name "range" p) [a, b] [] pos) (Wq ta) := by
 intro pins s σ H R I h
 refine Call_ (nu I hg hm boot_range (PyProof.Rows.callWith_type1 (aT (ha pos pins s σ H _ I h) fun us s1 ⟨vs, H1, I1, r1, q1⟩ => ?_) (by rw [hs, d5]) (by rw [d5]; rfl)))
 obtain ⟨i, j, e, ⟨q1, q2, q3, q4⟩, q⟩ := q1
 subst e
 cases r1 with
 | cons r rr =>
  cases rr with
  | cons r' rr =>
   cases rr
   obtain ⟨t, rfl⟩ := r
   obtain ⟨t', rfl⟩ := r'
   exact call_range_2 (Bw I1 q1 q2 q3 q4 q)
def Eo (wi : TI) (g : TG) (tb : TS) : TS := fun D σ H => wi σ H fun J H1 => ∃ W : Nat -> Nat -> St -> Hp -> Prop, (∃ m, W 0 m σ H1) /\ ∀ i m σ H, W i m σ H →
 (J.stop i H /\ D.nx σ H) \/ (J.go i H /\ ∃ N : St -> Hp -> Prop, (∀ ao H', N ao H' -> ∃ m', m' < m /\ W (i + 1) m' ao H') /\ ∀ x H', J.qi i H x H' -> g x σ H' fun bF H2 => tb { D with nx := N, ct := N, bk := D.nx } bF H2)
def pj (fp : List Addr) (h : Heap) : List (Addr × Obj) := fp.filterMap fun b => (h.get? b).map fun o => (b, o)
theorem sA {fp : List Addr} {h : Heap} {b : Addr} {o : Obj} (hb : b ∈ fp) (e : h.get? b = some o) : (b, o) ∈ pj fp h := List.mem_filterMap.mpr ⟨b, hb, by rw [e]; rfl⟩
theorem OP {fp : List Addr} {h : Heap} {p : Addr × Obj} (hp : p ∈ pj fp h) : p.1 ∈ fp /\ h.get? p.1 = some p.2 := by
 obtain ⟨b, hb, e⟩ := List.mem_filterMap.mp hp
 cases q : h.get? b with
 | none => rw [q] at e; cases e
 | some o =>
  rw [q] at e
  have e' : (b, o) = p := Option.some.inj e
  subst e'
  exact ⟨hb, q⟩
theorem Inv.pinned {pins : List (Addr × Obj)} {σ : St} {H : Hp} {s : Shared} {fp : List Addr} (I : Inv X pins σ H s) (hf : ∀ b ∈ fp, fB X pins H b) (ho : ∀ b ∈ fp, ∃ o, s.heap.get? b = some o /\ ∀ v, o.data ≠ .cell v) : Inv X (pins ++ pj fp s.heap) σ H s :=
 I.B3 fun p hp => (List.mem_append.mp hp).elim (fun z => I.pin p (List.mem_append_right _ z)) fun z => by
  obtain ⟨hb, e⟩ := OP z
  obtain ⟨f0, f1, f2, _⟩ := hf p.1 hb
  obtain ⟨o, e', d⟩ := ho p.1 hb
  rw [e] at e'; cases e'
  exact ⟨e, f0, f1, f2, d⟩
theorem Inv.sW {pins pl : List (Addr × Obj)} {σ : St} {H : Hp} {s : Shared} (I : Inv X (pins ++ pl) σ H s) : Inv X pins σ H s := I.B3 fun p hp => I.pin p (List.mem_append_right _ (List.mem_append_left _ hp))
theorem Tz {iter : Expr} {body : List Stmt} {wi : TI} {g : TG} {tb : TS} {pos : Pos} (hp : PassesOwn (model X.prog X.w) X.A X.env X.xe) (hc : X.calm = true) (hi : PI X tg iter wi) (hg : PG X tg g) (hb : dO X body tb)
  (hs : ∀ x, foldedSetIterable iter X.env x = pure x := by intro _; rfl) : PS X (.For tg iter body [] pos) (Eo wi g tb) := by
 intro pins s σ H D I h
 refine wpAny_For (aT (hi pins s σ H _ I h) fun v s1 h1 => aT h1 fun yB s2 h2 => ?_) hs
 obtain ⟨it, fp, tn, J, H2, e, I2, T, gE, f2, W, ⟨m0, w0⟩, turn⟩ := h2
 subst e
 have xT : ∀ {H' : Hp}, (∀ b ∈ fp, H' b = none) -> ∀ b ∈ fp, fB X pins H' b := fun hn b hb => ⟨hn b hb, (f2 b hb).2⟩
 refine codeAny_forLoop_any (fun n s' => ∃ i ao H', Inv X pins ao H' s' /\ tn i s'.heap /\ (∀ b ∈ fp, H' b = none) /\ W i n ao H') ?_ m0 ⟨0, σ, H2, I2, gE, fun b hb => (f2 b hb).1, w0⟩
 rintro n s3 ⟨i, ir, H3, I3, E2, E3, w3⟩
 rcases turn i n ir H3 w3 with ⟨stop, qn⟩ | ⟨go, N, hN, step⟩
 ·refine wpAny_passesOwn hp (aT (T.done X rfl rfl rfl hc i pins s3 ir H3 X.xe I3 (xT E3) E2 stop) fun r s4 ⟨hr, I4⟩ => ?_)
  subst hr
  exact wpAny_execs_nil ⟨ir, H3, I4, qn⟩
 ·refine wpAny_passesOwn hp (aT (T.item X rfl rfl rfl hc i pins s3 ir H3 X.xe I3 (xT E3) E2 go) fun r s4 ⟨u, hr, h4⟩ => ?_)
  subst hr
  refine wpAny_passesOwn hp (aT h4 fun _ s5 ⟨x, H5, I5, r5, y5, og, uK⟩ => ?_)
  have Zb := I5.pinned (xT uK) (T.obj _ _ og)
  refine wpAny_passesOwn hp (aT (hg _ s5 ir H5 x u _ Zb r5 (step x H5 y5)) fun _ s6 ⟨qW, H6, I6, q6⟩ => ?_)
  refine wpAny_passesOwn hp (aT (hb _ s6 qW H6 _ I6 q6) fun f s7 q7 => ?_)
  have again : ∀ {iu : St} {H7 : Hp}, Inv X (pins ++ pj fp s5.heap) iu H7 s7 -> N iu H7 -> ∃ m, m < n /\ ∃ i ao H', Inv X pins ao H' s7 /\ tn i s7.heap /\ (∀ b ∈ fp, H' b = none) /\ W i m ao H' := fun {iu H7} I7 n7 => by
   obtain ⟨m', hm, w7⟩ := hN iu H7 n7
   refine ⟨m', hm, i + 1, iu, H7, I7.sW, T.keep _ _ _ og fun b hb o e => (I7.pin (b, o) (List.mem_append_right _ (List.mem_append_right _ (sA hb e)))).1, fun b hb => ?_, w7⟩
   obtain ⟨o, e, d⟩ := T.obj _ _ og b hb
   exact (I7.pin (b, o) (List.mem_append_right _ (List.mem_append_right _ (sA hb e)))).2.1
  cases f with
  | next => obtain ⟨iu, H7, I7, n7⟩ := q7; exact again I7 n7
  | cont => obtain ⟨iu, H7, I7, n7⟩ := q7; exact again I7 n7
  | brk => obtain ⟨iu, H7, I7, q7⟩ := q7; exact ⟨iu, H7, I7.sW, q7⟩
  | ret v => obtain ⟨x7, iu, H7, I7, r7, q7⟩ := q7; exact ⟨x7, iu, H7, I7.sW, r7, q7⟩
end
abbrev R2 := V -> V -> Hp -> VK -> Prop
def bG (X : Cx) (f : Value -> Value -> Sem Value) (r : R2) : Prop :=
 ∀ (pins : List (Addr × Obj)) (s : Shared) (σ : St) (H : Hp) (x y : V) (v u : Value) (Q : VK), Inv X pins σ H s -> RelV x v -> RelV y u -> r x y H Q →
  wpAny (model X.prog X.w) X.A (f v u) (EP X pins σ Q) X.xe s
def uL (X : Cx) (f : Value -> Sem Value) (r : V -> Hp -> VK -> Prop) : Prop :=
 ∀ (pins : List (Addr × Obj)) (s : Shared) (σ : St) (H : Hp) (x : V) (v : Value) (Q : VK), Inv X pins σ H s -> RelV x v -> r x H Q →
  wpAny (model X.prog X.w) X.A (f v) (EP X pins σ Q) X.xe s
def cs (X : Cx) (f : Value) (r : List V -> Hp -> VK -> Prop) : Prop :=
 ∀ (pins : List (Addr × Obj)) (s : Shared) (σ : St) (H : Hp) (xs : List V) (us : List Value) (Q : VK), Inv X pins σ H s -> Vals xs us -> r xs H Q →
  wpAny (model X.prog X.w) X.A (call f us) (EP X pins σ Q) X.xe s
def Yc (X : Cx) (r : V -> Hp -> (Bool -> Hp -> Prop) -> Prop) : Prop :=
 ∀ (pins : List (Addr × Obj)) (s : Shared) (σ : St) (H : Hp) (x : V) (v : Value) (Q : Bool -> Hp -> Prop), Inv X pins σ H s -> RelV x v -> r x H Q →
  wpAny (model X.prog X.w) X.A (truthy v) (TP X pins σ Q) X.xe s
def ql (r : R2) (ta tb : TE) : TE := fun σ H Q => ta σ H fun x H1 => tb σ H1 fun y H2 => r x y H2 Q
def Zc (r : V -> Hp -> VK -> Prop) (ta : TE) : TE := fun σ H Q => ta σ H fun x H1 => r x H1 Q
def rI (C : Int -> Int -> Prop) (g : Int -> Int -> V) : R2 := fun x y H Q => ∃ i j, x = .int i /\ y = .int j /\ C i j /\ Q (g i j) H
def ji (g : Int -> Int -> V) : R2 := fun x y H Q => ∃ i j, x = .int i /\ y = .int j /\ Q (g i j) H
def rU (g : Int -> V) : V -> Hp -> VK -> Prop := fun x H Q => ∃ i, x = .int i /\ Q (g i) H
section
variable {X : Cx} {a b c : Expr} {ta tb tc : TE} {pos : Pos}
theorem xU (ha : PE X a ta) (hb : PE X b tb) {pins : List (Addr × Obj)} {s : Shared} {σ : St} {H : Hp} {R : V -> V -> Hp -> Prop} (I : Inv X pins σ H s)
  (h : ta σ H fun x H1 => tb σ H1 fun y H2 => R x y H2) {Q : Value -> Shared -> Prop} {f : Value -> Value -> Sem Value}
  (hf : ∀ v u s2 x y H2, Inv X pins σ H2 s2 -> RelV x v -> RelV y u -> R x y H2 -> wpAny (model X.prog X.w) X.A (f v u) Q X.xe s2) :
  wpAny (model X.prog X.w) X.A (eval a X.env) (fun v bA => wpAny (model X.prog X.w) X.A (eval b X.env) (fun u qV => wpAny (model X.prog X.w) X.A (f v u) Q X.xe qV) X.xe bA) X.xe s := by
 refine aT (ha pins s σ H _ I h) fun v s1 ⟨x, H1, I1, r1, q1⟩ => ?_
 refine aT (hb pins s1 σ H1 _ I1 q1) fun u s2 ⟨y, H2, I2, r2, q2⟩ => ?_
 exact hf v u s2 x y H2 I2 r1 r2 q2
theorem Wr {op : Operator} {r : R2} (ho : bG X (binaryOp op) r) (ha : PE X a ta) (hb : PE X b tb) : PE X (.BinOp a op b pos) (ql r ta tb) := by
 intro pins s σ H Q I h
 exact wpAny_BinOp (xU ha hb I h fun v u s2 x y H2 I2 rx ry q => ho pins s2 σ H2 x y v u Q I2 rx ry q)
theorem Ws {op : UnaryOp} {r : V -> Hp -> VK -> Prop} (ho : uL X (unaryOp op) r) (ha : PE X a ta) : PE X (.UnaryOp op a pos) (Zc r ta) := by
 intro pins s σ H Q I h
 exact UnaryOp_ (aT (ha pins s σ H _ I h) fun v s1 ⟨x, H1, I1, r1, q1⟩ => ho pins s1 σ H1 x v Q I1 r1 q1)
theorem yC {f : Value -> Value -> Sem Value} {C : Int -> Int -> Prop} {g : Int -> Int -> Int}
  (rule : ∀ (i j : Int) (t u : Tok) (s : Shared) (Q : Value -> Shared -> Prop) (E : Value -> Shared -> Prop), C i j -> Q (.int (g i j) s.toks) { s with toks := s.toks + 1 } -> wpAny (model X.prog X.w) X.A (f (.int i t) (.int j u)) Q E s) :
  bG X f (rI C fun i j => .int (g i j)) := by
 intro pins s σ H x y v u Q I rx ry h
 obtain ⟨i, j, rfl, rfl, hc, q⟩ := h
 obtain ⟨t, rfl⟩ := rx
 obtain ⟨t', rfl⟩ := ry
 exact rule i j t t' s _ _ hc ⟨.int (g i j), H, I.tok _, ⟨_, rfl⟩, q⟩
theorem Ep {f : Value -> Value -> Sem Value} {g : Int -> Int -> Int}
  (rule : ∀ (i j : Int) (t u : Tok) (s : Shared) (Q : Value -> Shared -> Prop) (E : Value -> Shared -> Prop), Q (.int (g i j) s.toks) { s with toks := s.toks + 1 } -> wpAny (model X.prog X.w) X.A (f (.int i t) (.int j u)) Q E s) :
  bG X f (ji fun i j => .int (g i j)) := by
 intro pins s σ H x y v u Q I rx ry h
 obtain ⟨i, j, rfl, rfl, q⟩ := h
 obtain ⟨t, rfl⟩ := rx
 obtain ⟨t', rfl⟩ := ry
 exact rule i j t t' s _ _ ⟨.int (g i j), H, I.tok _, ⟨_, rfl⟩, q⟩
theorem Er {f : Value -> Value -> Sem Value} {g : Int -> Int -> Bool}
  (rule : ∀ (i j : Int) (t u : Tok) (s : Shared) (Q : Value -> Shared -> Prop) (E : Value -> Shared -> Prop), Q (.bool (g i j)) s -> wpAny (model X.prog X.w) X.A (f (.int i t) (.int j u)) Q E s) :
  bG X f (ji fun i j => .bl (g i j)) := by
 intro pins s σ H x y v u Q I rx ry h
 obtain ⟨i, j, rfl, rfl, q⟩ := h
 obtain ⟨t, rfl⟩ := rx
 obtain ⟨t', rfl⟩ := ry
 exact rule i j t t' s _ _ ⟨.bl (g i j), H, I, rfl, q⟩
def ui (i j : Int) : Prop := (-(2 ^ 64) < i /\ i < 2 ^ 64) \/ (-(2 ^ 64) < j /\ j < 2 ^ 64)
theorem ui.ok {i j : Int} (h : ui i j) : IntMulOk i j := by
 rcases h with ⟨h1, h2⟩ | ⟨h1, h2⟩
 ·exact .of_left (intBits_le_64 h1 h2)
 ·exact .of_right (intBits_le_64 h1 h2)
theorem TB : bG X (binaryOp .Add) (ji fun i j => .int (i + j)) := Ep fun _ _ _ _ _ _ _ q => add_int q
theorem TC : bG X (binaryOp .Sub) (ji fun i j => .int (i - j)) := Ep fun _ _ _ _ _ _ _ q => sub_int q
theorem TF : bG X (binaryOp .Mult) (rI ui fun i j => .int (i * j)) := yC fun _ _ _ _ _ _ _ hc q => mul_int q hc.ok
theorem Rj : bG X (binaryOp .Mod) (rI (fun _ j => j ≠ 0) fun i j => .int (i.fmod j)) := yC fun _ _ _ _ _ _ _ hc q => mod_int' hc q
theorem Zd {f : Value -> Sem Value} {g : Int -> Int}
  (rule : ∀ (i : Int) (t : Tok) (s : Shared) (Q : Value -> Shared -> Prop) (E : Value -> Shared -> Prop), Q (.int (g i) s.toks) { s with toks := s.toks + 1 } -> wpAny (model X.prog X.w) X.A (f (.int i t)) Q E s) :
  uL X f (rU fun i => .int (g i)) := by
 intro pins s σ H x v Q I rx h
 obtain ⟨i, rfl, q⟩ := h
 obtain ⟨t, rfl⟩ := rx
 exact rule i t s _ _ ⟨.int (g i), H, I.tok _, ⟨_, rfl⟩, q⟩
theorem TH : uL X (unaryOp .USub) (rU fun i => .int (-i)) := Zd fun _ _ _ _ _ q => neg_int q
end
section
variable {X : Cx} {a b c : Expr} {ta tb tc : TE} {pos : Pos}
theorem C5 {pins : List (Addr × Obj)} {σ : St} {H : Hp} {s : Shared} {Q : VK} {k k' : Bool} (I : Inv X pins σ H s) (q : Q (.bl k) H) (e : k = k') : EP X pins σ Q (.bool k') s := by
 subst e
 exact ⟨.bl k, H, I, rfl, q⟩
theorem Wt : bG X (compareOp .Lt) (ji fun i j => .bl (decide (i < j))) := Er fun _ _ _ _ _ _ _ q => lt_int q
theorem Wu : bG X (compareOp .Gt) (ji fun i j => .bl (decide (j < i))) := Er fun _ _ _ _ _ _ _ q => gt_int q
theorem TJ : bG X (compareOp .Is) (fun x y H Q => y = .az /\ Q (.bl (decide (x = .az))) H) := by
 intro pins s σ H x y v u Q I rx ry h
 obtain ⟨rfl, q⟩ := h
 cases ry
 refine is_none_gen (C5 I q ?_)
 cases x <;> first
  | (cases rx; rfl)
  | (obtain ⟨t, rfl⟩ := rx; rfl)
theorem Rk : bG X (compareOp .IsNot) (fun x y H Q => y = .az /\ Q (.bl (!decide (x = .az))) H) := by
 intro pins s σ H x y v u Q I rx ry h
 obtain ⟨rfl, q⟩ := h
 cases ry
 refine isnot_none_gen (C5 I q ?_)
 cases x <;> first
  | (cases rx; rfl)
  | (obtain ⟨t, rfl⟩ := rx; rfl)
theorem bG.or {f : Value -> Value -> Sem Value} {r r' : R2} (h : bG X f r) (h' : bG X f r') : bG X f (fun x y H Q => r x y H Q \/ r' x y H Q) := by
 intro pins s σ H x y v u Q I rx ry q
 rcases q with q | q
 ·exact h pins s σ H x y v u Q I rx ry q
 ·exact h' pins s σ H x y v u Q I rx ry q
theorem lV (b : Expr) {op : CmpOp} (h : op ≠ .In := by decide) (h2 : op ≠ .NotIn := by decide) : behindInMarks op b = false := by
 have e1 : (op == CmpOp.In) = false := by cases op <;> first | rfl | exact absurd rfl h
 have e2 : (op == CmpOp.NotIn) = false := by cases op <;> first | rfl | exact absurd rfl h2
 cases b <;> simp [behindInMarks, e1, e2]
theorem Rl {op : CmpOp} {r : R2} (ho : bG X (compareOp op) r) (ha : PE X a ta) (hb : PE X b tb) (hm : behindInMarks op b = false) : PE X (.Compare a [op] [b] pos) (ql r ta tb) := by
 intro pins s σ H Q I h
 exact wpAny_Compare1 (xU ha hb I h fun v u s2 x y H2 I2 rx ry q => ho pins s2 σ H2 x y v u Q I2 rx ry q) hm
def Wv (t : TE) : TT := fun σ H Q => t σ H fun x H' => ∃ k, x = .bl k /\ Q k H'
theorem Rm {op : CmpOp} {r : R2} (ho : bG X (compareOp op) r) (ha : PE X a ta) (hb : PE X b tb) (hm : behindInMarks op b = false) : PT X (.Compare a [op] [b] pos) (Wv (ql r ta tb)) := by
 intro pins s σ H Q I h
 refine wpAny_isTrue_Compare1 (aT (ha pins s σ H _ I h) fun v s1 ⟨x, H1, I1, r1, q1⟩ => aT (hb pins s1 σ H1 _ I1 q1) fun u s2 ⟨y, H2, I2, r2, q2⟩ =>
  aT (ho pins s2 σ H2 x y v u _ I2 r1 r2 q2) fun c s3 ⟨z, H3, I3, r3, k, e, q3⟩ => ?_) hm
 subst e
 cases r3
 exact wpAny_truthy_bool ⟨H3, I3, q3⟩
def Es (K : PySem.W.Frag) (x : V) (H : Hp) (k : Bool) : Prop :=
 match x with
 | .az => k = false
 | .bl b => k = b
 | .int i => k = (i != 0)
 | .str y => y.length <= sizeLine /\ k = ((y.length : Int) != 0)
 | .n6 y => y.size <= sizeLine /\ k = ((y.size : Int) != 0)
 | .ref p => (∃ xs, bb K H p xs /\ k = !xs.isEmpty) \/ (∃ xs, ce K H p xs /\ k = !xs.isEmpty) \/ ∃ kvs, H p = some (.dK kvs) /\ k = !kvs.isEmpty
 | _ => False
theorem N1 {κ : Type} {kvs : List (κ × V)} {vs : List (κ × Value)} (r : KV kvs vs) : (!vs.isEmpty) = !kvs.isEmpty := by
 cases r <;> rfl
theorem AW {xs : List V} {its : List Value} (r : Vals xs its) : (!its.toArray.isEmpty) = !xs.isEmpty := by
 cases r <;> simp
theorem lX : (sizeLine : Nat) < 2 ^ 63 := by rw [sizeLine_eq]; decide
theorem TK : Yc X (fun x H Q => ∃ k, Es X.K x H k /\ Q k H) := by
 intro pins s σ H x v Q I rx h
 obtain ⟨k, e, q⟩ := h
 have hl := lX
 have hs : sizeLine = 16777216 := sizeLine_eq
 cases x with
 | az =>
  cases rx
  have e' : k = false := e
  subst e'
  exact truthy_none ⟨H, I, q⟩
 | bl b =>
  cases rx
  have e' : k = b := e
  subst e'
  exact wpAny_truthy_bool ⟨H, I, q⟩
 | int i =>
  obtain ⟨t, rfl⟩ := rx
  have e' : k = (i != 0) := e
  subst e'
  exact PySem.P.truthy_int ⟨H, I, q⟩
 | str y =>
  obtain ⟨t, rfl⟩ := rx
  obtain ⟨hy, e'⟩ : y.length <= sizeLine /\ k = ((y.length : Int) != 0) := e
  subst e'
  exact PySem.P.truthy_str (by omega) ⟨H, I.tok _, q⟩
 | n6 y =>
  obtain ⟨t, rfl⟩ := rx
  obtain ⟨hy, e'⟩ : y.size <= sizeLine /\ k = ((y.size : Int) != 0) := e
  subst e'
  exact PySem.W.truthy_bytes (by omega) ⟨H, I.tok _, q⟩
 | ref p =>
  cases rx
  have e' : (∃ xs, bb X.K H p xs /\ k = !xs.isEmpty) \/ (∃ xs, ce X.K H p xs /\ k = !xs.isEmpty) \/ ∃ kvs, H p = some (.dK kvs) /\ k = !kvs.isEmpty := e
  rcases e' with ⟨xs, hx, e'⟩ | ⟨xs, hx, e'⟩ | ⟨kvs, hx, e'⟩
  ·subst e'
   obtain ⟨its, r, pl, hz⟩ := I.list hx
   have bz := r.length
   exact wpAny_truthy_list pl.isList (by simp only [List.size_toArray]; omega) ⟨H, I.tok _, by rw [AW r]; exact q⟩
  ·subst e'
   obtain ⟨its, r, pl, hz⟩ := I.tuple hx
   have bz := r.length
   exact truthy_tuple pl (by simp only [List.size_toArray]; omega) ⟨H, I.tok _, by rw [AW r]; exact q⟩
  ·subst e'
   obtain ⟨hz, hS, vs, r, m⟩ : kvs.length <= sizeLine /\ (p == sysModules) = false /\ ∃ vs, KV kvs vs /\ s.heap.DictOf (bi X.prog X.w) p vs := I.aF p _ hx
   have bz : kvs.length = vs.length := Paired.length r
   exact wpAny_truthy_dict hS m (by omega) ⟨H, I.tok _, by rw [N1 r]; exact q⟩
 | _ => exact (show False from e).elim
theorem PQ (ha : PE X a ta) (he : ∀ whole, isTrue a X.env whole = (do let v <- whole; standAt a.pos; holding [v] (truthy v))) :
  PT X a (fun σ H Q => ta σ H fun x H' => ∃ k, Es X.K x H' k /\ Q k H') := by
 intro pins s σ H Q I h
 exact isTrue_plain (aT (ha pins s σ H _ I h) fun v s1 ⟨x, H1, I1, r1, q1⟩ => TK pins s1 σ H1 x v Q I1 r1 q1) (he _)
theorem vals1 {x : V} {us : List Value} (r : Vals [x] us) : ∃ u, us = [u] /\ RelV x u := by
 cases r with
 | cons r1 r2 => cases r2; exact ⟨_, rfl, r1⟩
theorem vals2 {x y : V} {us : List Value} (r : Vals [x, y] us) : ∃ u w', us = [u, w'] /\ RelV x u /\ RelV y w' := by
 cases r with
 | cons r1 r2 =>
  cases r2 with
  | cons r3 r4 => cases r4; exact ⟨_, _, rfl, r1, r3⟩
theorem oO (hc : X.calm = true) : cs X (.builtin "max") (fun xs H Q => ∃ i j, xs = [.int i, .int j] /\ Q (.int (if j > i then j else i)) H) := by
 intro pins s σ H xs us Q I r h
 obtain ⟨i, j, rfl, q⟩ := h
 obtain ⟨u, w', rfl, ⟨t, rfl⟩, ⟨t', rfl⟩⟩ := vals2 r
 refine max_two_ints (I.ok.hd hc) fun h' tk k => ⟨_, H, I.kept k, ?_, q⟩
 by_cases hj : j > i
 ·rw [if_pos hj, if_pos hj]; exact ⟨_, rfl⟩
 ·rw [if_neg hj, if_neg hj]; exact ⟨_, rfl⟩
end
structure nQ (h : Heap) (x dx C : Addr) (mA : Str -> Option Value) : Prop where
 obj : h.get? x = some (PySem.W.instObj C dx)
 ns : h.Ns1 dx mA
 ne : dx ≠ x
theorem OQ {h : Heap} {dx : Addr} {mA : Str -> Option Value} (n : h.Ns1 dx mA) : ∃ od, h.get? dx = some od /\ ∀ name, PySem.W.lookIn name od = some (mA name) := by
 obtain ⟨o, es, ep, ho, hd, hk, _, hm⟩ := n
 refine ⟨o, ho, fun name => ?_⟩
 have e := hm name
 unfold nsFind findBy at e
 rw [<- Array.find?_toList] at e
 unfold PySem.W.lookIn
 rw [hd]
 dsimp only
 split
 ·rename_i y q
  rw [q] at e
  exact congrArg some e
 ·rename_i q
  rw [q] at e
  have a : es.toList.any (·.refKey) = false := by
   rw [List.any_eq_false]
   intro y hy
   obtain ⟨z, t, mr⟩ := hk y (Array.mem_toList_iff.mp hy)
   simp [DictEntry.refKey, mr]
  have a' : ¬ es.toList.any (·.refKey) = true := by rw [a]; exact Bool.false_ne_true
  rw [if_neg a']
  exact congrArg some e
theorem nQ.look {h : Heap} {x dx C : Addr} {mA : Str -> Option Value} (I : nQ h x dx C mA) : ∃ od, PySem.W.InstAt h x (PySem.W.instObj C dx) C (some od) /\ ∀ name, PySem.W.lookIn name od = some (mA name) :=
 let ⟨od, ho, hl⟩ := OQ I.ns
 ⟨od, ⟨I.obj, rfl, rfl, ho⟩, hl⟩
section
variable {prog : Program} {w : World} {A : Around} {E : Value -> Shared -> Prop} {s : Shared} {K : PySem.W.Frag} {x dx C f : Addr} {mA : Str -> Option Value} {name : Str} {v : Value}
theorem get_map {expr : Bool} {Q : Value -> Shared -> Prop} (X : K.In s.heap) (I : nQ s.heap x dx C mA) (hg : PySem.W.plainGet K C name = true) (hh : PySem.W.hasDictIn K C = true)
  (ha : PySem.W.findIn K (.ref C) name = some none) (hv : mA name = some v) (j9 : PySem.W.handedIn v = true) (h : Q v { s with toks := s.toks + 1 }) :
  wpAny (model prog w) A (getAttr (.ref x) name expr) Q E s := by
 obtain ⟨od, J, hl⟩ := I.look
 exact PySem.W.get_value X J (PySem.W.plainGet_of hg).1 (PySem.W.findObj_own hh ha rfl (by rw [hl, hv])) j9 h
theorem Rn {ns : List Str} {Q : Unit -> Shared -> Prop} (X : K.In s.heap) (I : nQ s.heap x dx C mA)
  (hs : PySem.W.findIn K (.ref C) "__setattr__" = some (some (.builtin "object.__setattr__"))) (hp : PySem.W.plainOver K C = true) (ht : PySem.W.takerIn K C name = some none) (hh : PySem.W.hasDictIn K C = true)
  (hw : PySem.Within mA ns) (hsz : ns.length <= sizeLine)
  (h : ∀ h', nQ h' x dx C (fun y => if y = name then some v else mA y) -> Heap.SameBut dx s.heap h' -> Q () { s with heap := h', toks := s.toks + 2 }) :
  wpAny (model prog w) A (setAttr (.ref x) name v) Q E s := by
 obtain ⟨od, J, hl⟩ := I.look
 refine PySem.W.set_plain X J hs (PySem.W.osa_open (s := { s with toks := s.toks + 1 }) (r := none) X J hp ht fun b => ?_)
 obtain ⟨cd, hc, j5⟩ := PySem.W.any_some hh
 have hx : s.heap.get? x = some ⟨.ref C, some dx, .plain, #[]⟩ := I.obj
 refine wpAny_bind (wpAny_pure (wpAny_bind (wpAny_bind (wpAny_loadPart hx (wpAny_bind (PySem.W.Looks.here (s := { s with toks := s.toks + 1 }) (PySem.W.looks_clsIn X hc) ?_))))))
 rw [j5]
 refine wpAny_pure (a := some dx) (wpAny_bind (wpAny_pure (wpAny_bind ?_)))
 refine wpAny_nsSet1 (s := { s with toks := s.toks + 1 }) I.ns fun h' kd d5 => ?_
 obtain ⟨oD, esD, epD, Ze, Zf, Zg⟩ := kd.count (PySem.Within.cons name v hw)
 refine wpAny_bind (wpAny_lookBehind Ze (by rw [Zf]; exact pastItsLine_dict (Nat.le_trans Zg (by rw [List.length_cons]; omega))) ?_)
 exact wpAny_pure (h _ ⟨(d5.2 _ (Ne.symm I.ne)).trans I.obj, kd, I.ne⟩ d5)
theorem PR {R : Result -> Shared -> Prop} {vs : List Value} {kw : List (Str × Value)} (X : K.In s.heap) (hm : PySem.W.makesIn K C = true)
  (hi : PySem.W.findIn K (.ref C) "__init__" = some (some (.ref f))) (hf : PySem.W.typeIn K (.ref f) = some (.type "function"))
  (h : codeAny (model prog w) (A.under (.builtin "type.__call__" ⟨.ref C :: vs, kw⟩)) (.call (.ref f) ⟨.ref (s.heap.objs.size + 1) :: vs, kw⟩) (PySem.W.InitBack (s.heap.objs.size + 1) R)
   { s with heap := (s.heap.push PySem.W.emptyDict).push (PySem.W.instObj C s.heap.objs.size) }) :
  codeAny (model prog w) A (.call (.ref C) ⟨vs, kw⟩) R s := by
 obtain ⟨hh, g, d, t, os⟩ := s
 exact PySem.W.make_core (PySem.W.makes_of X hm) (PySem.W.looks_findIn X hi) (fun self => PySem.W.bind_fn X self hf) (.inl rfl) h
end
def dD (f : Str) (v : V) : List (Str × V) -> List (Str × V)
 | [] => [(f, v)]
 | (g, x) :: r => if g = f then (g, v) :: r else (g, x) :: dD f v r
theorem AF (f g : Str) (v : V) : ∀ fs : List (Str × V), (dD f v fs).lookup g = if g = f then some v else fs.lookup g
  | [] => by
    show List.lookup g [(f, v)] = _
    by_cases h : g = f
    · have hb : (g == f) = true := beq_iff_eq.mpr h
      simp only [List.lookup, hb, if_pos h]
    · have hb : (g == f) = false := beq_eq_false_iff_ne.mpr h
      simp only [List.lookup, hb, if_neg h]
  | (k, x) :: r => by
    have ih := AF f g v r
    rw [show dD f v ((k, x) :: r) = (if k = f then (k, v) :: r else (k, x) :: dD f v r) from rfl]
    by_cases hk : k = f
    · rw [if_pos hk]
      by_cases h : g = k
      · have hb : (g == k) = true := beq_iff_eq.mpr h
        simp only [List.lookup, hb, if_pos (h.trans hk)]
      · have hb : (g == k) = false := beq_eq_false_iff_ne.mpr h
        simp only [List.lookup, hb, if_neg (fun e : g = f => h (e.trans hk.symm))]
    · rw [if_neg hk]
      by_cases h : g = k
      · have hb : (g == k) = true := beq_iff_eq.mpr h
        simp only [List.lookup, hb, if_neg (fun e : g = f => hk (h.symm.trans e))]
      · have hb : (g == k) = false := beq_eq_false_iff_ne.mpr h
        simp only [List.lookup, hb]
        exact ih
theorem vT (f : Str) (v : V) : ∀ fs : List (Str × V), f ∈ (dD f v fs).map (·.1) /\ ∀ g, g ∈ fs.map (·.1) -> g ∈ (dD f v fs).map (·.1)
  | [] => ⟨by simp [dD], fun g h => by simp at h⟩
  | (k, x) :: r => by
    obtain ⟨i1, i2⟩ := vT f v r
    rw [show dD f v ((k, x) :: r) = (if k = f then (k, v) :: r else (k, x) :: dD f v r) from rfl]
    by_cases hk : k = f
    · rw [if_pos hk]
      subst hk
      exact ⟨by simp, fun g h => by simpa using h⟩
    · rw [if_neg hk]
      refine ⟨?_, fun g h => ?_⟩
      · rw [List.map_cons]
        exact List.mem_cons_of_mem _ i1
      · rw [List.map_cons] at h ⊢
        rcases List.mem_cons.mp h with e | e
        · exact List.mem_cons.mpr (.inl e)
        · exact List.mem_cons_of_mem _ (i2 g e)
theorem AG (f : Str) (v : V) : ∀ fs : List (Str × V), (dD f v fs).length <= fs.length + 1
 | [] => by simp [dD]
 | (k, x) :: r => by
  have ih := AG f v r
  rw [show dD f v ((k, x) :: r) = (if k = f then (k, v) :: r else (k, x) :: dD f v r) from rfl]
  by_cases hk : k = f
  ·rw [if_pos hk, List.length_cons, List.length_cons]; omega
  ·rw [if_neg hk, List.length_cons, List.length_cons]; omega
theorem eQ.some_of {v : V} {o : Option Value} (r : eQ (some v) o) : ∃ u, o = some u /\ RelV v u := by
 cases o with
 | none => exact (show False from r).elim
 | some u => exact ⟨u, rfl, r⟩
theorem OR {v : V} {u : Value} (r : RelV v u) : PySem.W.handedIn u = true := by
 cases v with
 | az => cases (show u = Value.none from r); rfl
 | bl b => cases (show u = Value.bool b from r); rfl
 | int i => obtain ⟨t, e⟩ := (show ∃ t, u = Value.int i t from r); cases e; rfl
 | str x => obtain ⟨t, e⟩ := (show ∃ t, u = Value.str x t from r); cases e; rfl
 | n6 b => obtain ⟨t, e⟩ := (show ∃ t, u = Value.bytes b t from r); cases e; rfl
 | uF b => obtain ⟨t, e⟩ := (show ∃ t, u = Value.float b t from r); cases e; rfl
 | ref a => cases (show u = Value.ref a from r); rfl
 | ty n => cases (show u = Value.type n from r); rfl
section
variable {P : Program} {w : World} {H H' : Hp} {h h' : Heap} {a C dx : Addr} {fs yu : List (Str × V)}
theorem B5 (aF : bX P w H h) (e : H a = some (.ins C dx fs)) : ∃ mA, nQ h a dx C mA /\ (∀ f, eQ (fs.lookup f) (mA f)) /\ PySem.Within mA (fs.map (·.1)) /\ fs.length <= 1000 /\ H dx = some (.own a) := by
 obtain ⟨d, z, ne, ob, mA, n, r, q⟩ := (show b8 P w H h a (.ins C dx fs) from aF a _ e)
 exact ⟨mA, ⟨ob, n, ne⟩, r, q, z, d⟩
end
structure h9 (K : PySem.W.Frag) (C : Addr) : Prop where
 pg : PySem.W.plainGet K C Str.empty = true
 hd : PySem.W.hasDictIn K C = true
 po : PySem.W.plainOver K C = true
 sa : PySem.W.findIn K (.ref C) "__setattr__" = some (some (.builtin "object.__setattr__"))
theorem h9.get {K : PySem.W.Frag} {C : Addr} (c : h9 K C) (f : Str) : PySem.W.plainGet K C f = true := c.pg
def fP (K : PySem.W.Frag) (C : Addr) (f : Str) : Prop := PySem.W.findIn K (.ref C) f = some none
theorem fP.Ww {K : PySem.W.Frag} {C : Addr} {f : Str} (n : fP K C f) : PySem.W.takerIn K C f = some none := by
 unfold PySem.W.takerIn
 rw [show PySem.W.findIn K (.ref C) f = some none from n]
 rfl
section
variable {X : Cx} {pins : List (Addr × Obj)} {σ : St} {H : Hp} {s : Shared} {a C dx : Addr} {fs : List (Str × V)} {f : Str} {v : V} {A : Around} {E : Value -> Shared -> Prop}
theorem N2 {b : Bool} {Q : Value -> Shared -> Prop} (I : Inv X pins σ H s) (e : H a = some (.ins C dx fs)) (c : h9 X.K C) (n : fP X.K C f) (l : fs.lookup f = some v)
  (h : ∀ u s', Inv X pins σ H s' -> RelV v u -> Q u s') : wpAny (model X.prog X.w) A (getAttr (.ref a) f b) Q E s := by
 obtain ⟨mA, O, r, _, _, _⟩ := B5 I.aF e
 obtain ⟨u, hu, ru⟩ := eQ.some_of (v := v) (o := mA f) (by rw [<- l]; exact r f)
 exact get_map I.dN O (c.get f) c.hd n hu (OR ru) (h u _ (I.tok _) ru)
theorem N3 {y : V} {u : Value} {Q : Unit -> Shared -> Prop} (I : Inv X pins σ H s) (e : H a = some (.ins C dx fs)) (c : h9 X.K C) (n : fP X.K C f) (hl : fs.length < 1000) (ry : RelV y u)
  (h : ∀ s', Inv X pins σ (upd H a (.ins C dx (dD f y fs))) s' -> Q () s') : wpAny (model X.prog X.w) A (setAttr (.ref a) f u) Q E s := by
 obtain ⟨mA, O, r, wi, _, ho⟩ := B5 I.aF e
 have hz : (fs.map (·.1)).length <= sizeLine := by rw [List.length_map, sizeLine_eq]; omega
 refine Rn I.dN O c.sa c.po n.Ww c.hd wi hz fun h' O' sb => h _ ?_
 have hd : ∃ o, h'.get? dx = some o := let ⟨o, _, _, e', _⟩ := O'.ns; ⟨o, e'⟩
 refine I.write (x := a) (e := dx) (by rw [e]; exact True.intro) (.inr ho) (fun b q hb z => (sb.2 b hb).trans z) hd ?_
 refine ⟨by rw [aM O.ne]; exact ho, ?_, O.ne, O'.obj, _, O'.ns, fun g => ?_, fun g hg => ?_⟩
 ·have := AG f y fs; omega
 ·show eQ ((dD f y fs).lookup g) (if g = f then some u else mA g)
  rw [AF]
  by_cases q : g = f
  ·rw [if_pos q, if_pos q]; exact ry
  ·rw [if_neg q, if_neg q]; exact r g
 ·by_cases q : g = f
  ·rw [q]; exact (vT f y fs).1
  ·refine (vT f y fs).2 g (wi g fun z => hg ?_)
   show (if g = f then some u else mA g) = none
   rw [if_neg q]; exact z
theorem Inv.made (I : Inv X pins σ H s) : Inv X pins σ (upd (upd H s.heap.objs.size (.own (s.heap.objs.size + 1))) (s.heap.objs.size + 1) (.ins C s.heap.objs.size []))
  { s with heap := (s.heap.push PySem.W.emptyDict).push (PySem.W.instObj C s.heap.objs.size) } := by
 have e1 : (s.heap.push PySem.W.emptyDict).get? s.heap.objs.size = some PySem.W.emptyDict := Heap.get?_push_size s.heap rfl
 have e2 : ((s.heap.push PySem.W.emptyDict).push (PySem.W.instObj C s.heap.objs.size)).get? (s.heap.objs.size + 1) = some (PySem.W.instObj C s.heap.objs.size) := by
  have := Heap.get?_push_size (s.heap.push PySem.W.emptyDict) (o := PySem.W.instObj C s.heap.objs.size) rfl
  rwa [Heap.size_push] at this
 have e3 : (s.heap.push PySem.W.emptyDict).Ns s.heap.objs.size (fun _ => none) := ⟨PySem.W.emptyDict, #[], _, e1, rfl, (fun e he => absurd he (by simp)), fun _ => rfl⟩
 have I1 := I.laid (a := s.heap.objs.size) (o := .own (s.heap.objs.size + 1)) (h' := s.heap.push PySem.W.emptyDict) (t' := s.toks) (fun b u q => Heap.get?_push_of_some _ q) (Nat.le_refl _) ⟨_, e1⟩
 refine I1.laid (a := s.heap.objs.size + 1) (o := .ins C s.heap.objs.size []) (t' := s.toks) (fun b u q => Heap.get?_push_of_some _ q) (Nat.le_of_eq (Heap.size_push _ _)) ?_
 have ne : s.heap.objs.size ≠ s.heap.objs.size + 1 := Nat.ne_of_lt (Nat.lt_succ_self _)
 refine ⟨by rw [aM ne, bw], Nat.zero_le _, ne, e2, fun _ => none, (Heap.Ns1.of_empty e3).at fun o q => Heap.get?_push_of_some _ q, fun _ => True.intro, fun y hy => absurd rfl hy⟩
theorem Ro {prog : Program} {w : World} {env : Env} {e : Expr} {f : Str} {pos : Pos} {s : Shared} {Q : Value -> Shared -> Prop} (hb : attributeBase e f env (eval e env) = eval e env)
  (h : wpAny (model prog w) A (eval e env) (fun o bA => wpAny (model prog w) A (getAttr o f true) Q E bA) E s) : wpAny (model prog w) A (eval (.Attribute e f pos) env) Q E s :=
 Attribute_any_ h (by rw [arm_eval_Attribute, hb])
end
def Yd (K : PySem.W.Frag) (ta : TE) (f : Str) : TE := fun σ H Q => ta σ H fun x H1 => ∃ a C dx fs v, x = .ref a /\ H1 a = some (.ins C dx fs) /\ h9 K C /\ fP K C f /\ fs.lookup f = some v /\ Q v H1
def Ye (K : PySem.W.Frag) (ta tv : TE) (f : Str) : TS := fun D σ H => tv σ H fun y H1 => ta σ H1 fun x H2 => ∃ a C dx fs, x = .ref a /\ H2 a = some (.ins C dx fs) /\ h9 K C /\ fP K C f /\ fs.length < 1000 /\
 D.nx σ (upd H2 a (.ins C dx (dD f y fs)))
section
variable {X : Cx} {o e value : Expr} {f : Str} {pos pos' aal : Pos} {ta tv : TE}
theorem TN (he : PE X e ta) (hb : attributeBase e f X.env (eval e X.env) = eval e X.env) : PE X (.Attribute e f pos) (Yd X.K ta f) := by
 intro pins s σ H Q I h
 refine Ro hb (aT (he pins s σ H _ I h) fun u s1 ⟨x, H1, I1, rx, a, C, dx, fs, v, ex, ea, c, n, l, q⟩ => ?_)
 subst ex
 obtain rfl : u = Value.ref a := rx
 exact N2 I1 ea c n l fun u' s2 I2 ru => ⟨v, H1, I2, ru, q⟩
theorem TQ (ha : PE X o ta) (hv : PE X value tv) (hs : swapsWith value (some (.Attribute o f pos')) pos.line X.env = pure false) : PS X (.Assign [.Attribute o f pos'] value pos) (Ye X.K ta tv f) := by
 intro pins s σ H D I h
 refine plainObj_wpAny_Assign_Attribute (aT (hv pins s σ H _ I h) fun u s1 ⟨y, H1, I1, ry, q⟩ => aT (ha pins s1 σ H1 _ I1 q) fun ov s2 ⟨x, H2, I2, rx, a, C, dx, fs, ex, ea, c, n, l, q2⟩ => ?_) hs
 subst ex
 obtain rfl : ov = Value.ref a := rx
 exact N3 I2 ea c n l ry fun s3 I3 => ⟨σ, _, I3, q2⟩
end
structure bV (k : Nat) (A : Around) : Prop where
 hd : A.handled = none
 dp : A.depth + 3 * k + 5 < recursionLimit
 un : A.units + 16 * k + 200 < cLine
theorem bV.mono {j k : Nat} {A : Around} (r : bV k A) (h : j <= k) : bV j A := ⟨r.hd, by have := r.dp; omega, by have := r.un; omega⟩
theorem bV.deeper {k : Nat} {A : Around} (r : bV (k + 1) A) (env : Env) : bV k (A.deeper env) :=
 ⟨r.hd, by have := r.dp; show A.depth + 1 + 3 * k + 5 < _; omega, by have := r.un; show A.units + 3 + 16 * k + 200 < _; omega⟩
theorem bV.in1 {k : Nat} {A : Around} (r : bV (k + 1) A) : bV k A.in1 :=
 ⟨r.hd, by have := r.dp; show A.depth + 3 * k + 5 < _; omega, by have := r.un; show A.units + 1 + 16 * k + 200 < _; omega⟩
theorem N4 {A : Around} {C : Addr} {us : List Value} {kw : List (Str × Value)} : (A.under (.builtin "type.__call__" ⟨.ref C :: us, kw⟩)).depth = A.depth + 1 := by
 first | rfl | simp [Around.under, Code.weight, Code.isCreation, Code.isGuard, Code.isCaller, Code.frames, Code.isFrame, guardIds]
theorem N5 {A : Around} {C : Addr} {us : List Value} {kw : List (Str × Value)} : (A.under (.builtin "type.__call__" ⟨.ref C :: us, kw⟩)).units = A.units + 1 := by
 first | rfl | simp [Around.under, Code.cUnits, Code.frames, Code.isFrame]
theorem bV.make {k : Nat} {A : Around} (r : bV (k + 1) A) (C : Addr) (us : List Value) (kw : List (Str × Value)) : bV k (A.under (.builtin "type.__call__" ⟨.ref C :: us, kw⟩)) :=
 ⟨r.hd, by have := r.dp; rw [N4]; omega, by have := r.un; rw [N5]; omega⟩
theorem bV.depth {k : Nat} {A : Around} (r : bV k A) : A.depth < recursionLimit := by have := r.dp; omega
theorem bV.units {k : Nat} {A : Around} (r : bV k A) : A.units + 64 < cLine := by have := r.un; omega
def Et : TA := fun _ H Q => Q [] H
def Wx (ta : TE) (tr : TA) : TA := fun σ H Q => ta σ H fun x H1 => tr σ H1 fun xs H2 => Q (x :: xs) H2
section
variable {X : Cx} {e : Expr} {es : List Expr} {te : TE} {t : TA} {pos : Pos}
theorem C6 : PA X [] Et := fun _ _ _ _ H Q I h => Calls.spliced_nil ⟨[], H, I, .nil, h⟩
theorem wD (ha : PE X e te) (hr : PA X es t) (hs : starEach (e :: es) X.env = (false, eval e X.env) :: starEach es X.env := by rfl) : PA X (e :: es) (Wx te t) := by
 intro pos pins s σ H Q I h
 rw [hs]
 show wpAny _ _ (spliced ((false, eval e X.env) :: backTo pos (starEach es X.env))) _ _ s
 refine Calls.spliced_cons (aT (ha pins s σ H _ I h) fun u s1 ⟨x, H1, I1, r1, q1⟩ => ?_)
 exact aT (hr pos pins s1 σ H1 _ I1 q1) fun us s2 ⟨xs, H2, I2, r2, q2⟩ => ⟨x :: xs, H2, I2, .cons r1 r2, q2⟩
def Yf (t : TA) : TE := fun σ H Q => t σ H fun xs H1 => xs.length <= sizeLine /\ ∀ p, H1 p = none -> Q (.ref p) (upd H1 p (.tup xs))
def Yg (t : TA) : TE := fun σ H Q => t σ H fun xs H1 => xs.length <= sizeLine /\ ∀ p, H1 p = none -> Q (.ref p) (upd H1 p (.lst xs))
theorem TR {x1} (h : PA X es t) : PE X (.Tuple es x1 pos) (Yf t) := by
 intro pins s σ H Q I hq
 refine wpAny_Tuple_spliced (aT (h pos pins s σ H _ I hq) fun us s1 ⟨xs, H1, I1, r, z, q⟩ => ⟨by rw [<- r.length]; exact z, ?_⟩)
 have hf : H1 s1.heap.objs.size = none := I1.aF.fresh (Nat.le_refl _)
 refine ⟨.ref s1.heap.objs.size, upd H1 s1.heap.objs.size (.tup xs), I1.laid (t' := s1.toks) (fun b u e => Heap.get?_push_of_some _ e) (Nat.le_refl _) ?_, rfl, q _ hf⟩
 exact ⟨z, us, r, ⟨_, Heap.get?_push_size _ rfl, rfl, _, rfl⟩⟩
theorem TU (h : PA X es t) : PE X (.List es pos) (Yg t) := by
 intro pins s σ H Q I hq
 refine wpAny_List_spliced (aT (h pos pins s σ H _ I hq) fun us s1 ⟨xs, H1, I1, r, z, q⟩ => ⟨by rw [<- r.length]; exact z, ?_⟩)
 have hf : H1 s1.heap.objs.size = none := I1.aF.fresh (Nat.le_refl _)
 refine ⟨.ref s1.heap.objs.size, upd H1 s1.heap.objs.size (.lst xs), I1.laid (t' := s1.toks) (fun b u e => Heap.get?_push_of_some _ e) (Nat.le_refl _) ?_, rfl, q _ hf⟩
 exact ⟨z, us, 0, r, Heap.get?_push_size _ rfl⟩
end
abbrev Sp := List V -> Hp -> VK -> XK -> Prop
abbrev fG := List Env -> Hp -> Shared -> XK -> Value -> Shared -> Prop
structure i5 (P : Program) (w : World) (K : PySem.W.Frag) (mg : Str -> Option Value) (base : Heap) (A : Around) (outer : List Env) (s : Shared) (H : Hp) : Prop where
 frames : A.frames = some outer
 mod : Mod K mg base
 bs : ∀ b o, base.get? b = some o -> s.heap.get? b = some o /\ H b = none
 hZ : base.objs.size <= s.heap.objs.size
 eR : s.heap.FunFrames base outer
 j4 : ∀ b ∈ dM outer, H b = none
 aF : bX P w H s.heap
 bare : AllBare s.gens
def CE (outer : List Env) (P : Program) (w : World) (H : Hp) (s : Shared) (Q : VK) (u : Value) (s' : Shared) : Prop :=
 ∃ v H', s'.os = s.os /\ AllBare s'.gens /\ Un (dM outer) [] H H' s.heap s'.heap /\ bX P w H' s'.heap /\ RelV v u /\ Q v H'
def CR (CX : fG) (outer : List Env) (P : Program) (w : World) (H : Hp) (s : Shared) (Q : VK) (E : XK) (r : Result) (s' : Shared) : Prop :=
 match r with
 | .ok (.ret u) => CE outer P w H s Q u s'
 | .ok _ => False
 | .error e => CX outer H s E e s'
structure bp (P : Program) (w : World) (K : PySem.W.Frag) (mg : Str -> Option Value) (base : Heap) (CX : fG) (k : Nat) (f : Addr) (fd : FuncData) (ps : List Str) (sp : Sp) : Prop where
 len : ∀ vs H Q E, sp vs H Q E -> vs.length = ps.length
 run : ∀ (A : Around) (outer : List Env) (s : Shared) (H : Hp) (args : Args) (us : List Value) (vs : List V) (Q : VK) (E : XK), bV k A -> i5 P w K mg base A outer s H -> BindsTo s fd args (ps.zip us) -> Vals vs us -> sp vs H Q E →
  codeAny (model P w) A (.call (.ref f) args) (CR CX outer P w H s Q E) s
theorem bp.mono {P : Program} {w : World} {K : PySem.W.Frag} {mg : Str -> Option Value} {base : Heap} {CX : fG} {j k : Nat} {f : Addr} {fd : FuncData} {ps : List Str} {sp : Sp} (F : bp P w K mg base CX j f fd ps sp) (h : j <= k) :
  bp P w K mg base CX k f fd ps sp := ⟨F.len, fun A outer s H args us vs Q E hr => F.run A outer s H args us vs Q E (hr.mono h)⟩
theorem bp.imp {P : Program} {w : World} {K : PySem.W.Frag} {mg : Str -> Option Value} {base : Heap} {CX : fG} {k : Nat} {f : Addr} {fd : FuncData} {ps : List Str} {sp E4 : Sp} (F : bp P w K mg base CX k f fd ps sp)
  (h : ∀ vs H Q E, E4 vs H Q E -> sp vs H Q E) : bp P w K mg base CX k f fd ps E4 :=
 ⟨fun vs H Q E q => F.len vs H Q E (h _ _ _ _ q), fun A outer s H args us vs Q E hr he hb hv hs => F.run A outer s H args us vs Q E hr he hb hv (h _ _ _ _ hs)⟩
theorem i5.make {P : Program} {w : World} {K : PySem.W.Frag} {mg : Str -> Option Value} {base : Heap} {A : Around} {outer : List Env} {s : Shared} {H : Hp} (e : i5 P w K mg base A outer s H) (C : Addr) (us : List Value) (kw : List (Str × Value)) :
  i5 P w K mg base (A.under (.builtin "type.__call__" ⟨.ref C :: us, kw⟩)) outer s H := ⟨by first | exact e.frames | (simpa [Around.under, Code.envs, Code.isFrame, pushEnvs] using e.frames), e.mod, e.bs, e.hZ, e.eR, e.j4, e.aF, e.bare⟩
theorem i5.in1 {P : Program} {w : World} {K : PySem.W.Frag} {mg : Str -> Option Value} {base : Heap} {A : Around} {outer : List Env} {s : Shared} {H : Hp} (e : i5 P w K mg base A outer s H) :
  i5 P w K mg base A.in1 outer s H := ⟨e.frames, e.mod, e.bs, e.hZ, e.eR, e.j4, e.aF, e.bare⟩
section
variable {X : Cx} {pins : List (Addr × Obj)} {σ : St} {H : Hp} {s s' : Shared}
theorem Inv.Eu (I : Inv X pins σ H s) : i5 X.prog X.w X.K X.mg X.base X.A X.stack s H :=
 ⟨I.ok.frames, I.ok.mod, I.bs, Nat.le_trans I.ok.hZ I.sz, I.stack, I.wC, I.aF, I.bare⟩
theorem Inv.after {Q : VK} {u : Value} (I : Inv X pins σ H s) (h : CE X.stack X.prog X.w H s Q u s') : EP X pins σ Q u s' := by
 obtain ⟨v, H', os, bare, un, aF, r, q⟩ := h
 obtain ⟨hh, g, d, t, Zh⟩ := s'
 obtain rfl : Zh = s.os := os
 exact ⟨v, H', I.call (h' := hh) (g' := g) (d' := d) (t' := t) (ch := []) un aF bare (fun b z => absurd z (by simp)), r, q⟩
end
def Wy (C : Addr) (sp : Sp) (dvs : List V) (E : XK) (t : TA) : TE := fun σ H Q => t σ H fun vs H1 => ∀ x dx, H1 x = none -> H1 dx = none -> dx ≠ x →
 sp (.ref x :: (vs ++ dvs)) (upd (upd H1 dx (.own x)) x (.ins C dx [])) (fun v H2 => v = .az /\ Q (.ref x) H2) E
def Binds (K : PySem.W.Frag) (fd : FuncData) (ps : List Str) (ds : List Value) : Prop :=
 ∀ (s : Shared) (us : List Value), K.In s.heap -> (us ++ ds).length = ps.length -> BindsTo s fd ⟨us, []⟩ (ps.zip (us ++ ds))
theorem Binds.all {K : PySem.W.Frag} {fd : FuncData} {ps : List Str} (h : ∀ us : List Value, us.length = ps.length -> bindArgs fd ⟨us, []⟩ = pure (ps.zip us)) : Binds K fd ps [] := fun s us _ hl => by
 rw [List.append_nil] at hl ⊢
 exact .of_eq (h us hl)
def C7 (CX : fG) (X : Cx) (E : XK) : Prop := ∀ (pins : List (Addr × Obj)) (σ : St) (H : Hp) (s : Shared) (e : Value) (s' : Shared), Inv X pins σ H s -> CX X.stack H s E e s' -> X.xe e s'
section
variable {X : Cx} {CX : fG} {k : Nat} {f C : Addr} {fd : FuncData} {ps : List Str} {sp : Sp} {dvs : List V} {ds : List Value} {E : XK} {x m : Str} {p pos apos : Pos} {e o : Expr} {es : List Expr} {ta : TE} {t : TA}
structure Mk (K : PySem.W.Frag) (C f : Addr) : Prop where
 makes : PySem.W.makesIn K C = true
 init : PySem.W.findIn K (.ref C) "__init__" = some (some (.ref f))
 fn : PySem.W.isFn K (.ref f) = true
 kp : PySem.W.keepIn K (.ref C) = true
theorem PU {pins : List (Addr × Obj)} {σ : St} {H : Hp} {s : Shared} {Q : VK} {us : List Value} {vs : List V} (M : Mk X.K C f) (F : bp X.prog X.w X.K X.mg X.base CX k f fd ps sp) (hr : bV (k + 1) X.A) (hb : Binds X.K fd ps ds) (hd : Vals dvs ds)
  (hx : C7 CX X E) (I : Inv X pins σ H s) (r : Vals vs us)
  (h : ∀ x dx, H x = none -> H dx = none -> dx ≠ x -> sp (.ref x :: (vs ++ dvs)) (upd (upd H dx (.own x)) x (.ins C dx [])) (fun v H2 => v = .az /\ Q (.ref x) H2) E) :
  wpAny (model X.prog X.w) X.A (call (.ref C) us) (EP X pins σ Q) X.xe s := by
 have hq := h (s.heap.objs.size + 1) s.heap.objs.size (I.aF.fresh (Nat.le_succ _)) (I.aF.fresh (Nat.le_refl _)) (Nat.ne_of_lt (Nat.lt_succ_self _))
 have I2 := Inv.made (C := C) I
 have r2 : Vals (V.ref (s.heap.objs.size + 1) :: (vs ++ dvs)) (Value.ref (s.heap.objs.size + 1) :: (us ++ ds)) := .cons rfl (r.append hd)
 have hl : (Value.ref (s.heap.objs.size + 1) :: us ++ ds).length = ps.length := by
  have e := r2.length
  rw [F.len _ _ _ _ hq] at e
  exact e.symm
 refine wpAny_call (PR (f := f) I.dN M.makes M.init (beq_iff_eq.mp M.fn) (codeAny_mono (F.run _ X.stack _ _ ⟨Value.ref (s.heap.objs.size + 1) :: us, []⟩ (Value.ref (s.heap.objs.size + 1) :: (us ++ ds)) _ _ E (hr.make C us [])
  (I2.Eu.make C us []) (hb _ (Value.ref (s.heap.objs.size + 1) :: us) I2.dN hl) r2 hq) fun r s' qm => ?_))
 cases r with
 | error e => exact hx pins σ _ _ e s' I2 qm
 | ok fl =>
  cases fl with
  | ret u =>
   obtain ⟨v, H', I3, rv, ev, q3⟩ := I2.after qm
   subst ev
   exact ⟨rv, ⟨V.ref (s.heap.objs.size + 1), H', I3, rfl, q3⟩⟩
  | next => exact False.elim qm
  | brk => exact False.elim qm
  | cont => exact False.elim qm
theorem PV (M : Mk X.K C f) (F : bp X.prog X.w X.K X.mg X.base CX k f fd ps sp) (hr : bV (k + 1) X.A) (hg : Gl X x) (hm : X.mg x = some (.ref C)) (hb : Binds X.K fd ps ds) (hd : Vals dvs ds) (hx : C7 CX X E)
  (cy : (x == ("__debug__" : Str)) = false := by decide) : PE X (.Call (.Name x p) [] [] pos) (Wy C sp dvs E Et) := by
 intro pins s σ H Q I h
 refine wpAny_Call_Name_kw (B4 I hg hm ?_ cy)
 exact PySem.W.callWith_K0 I.dN M.kp (PU (us := []) M F hr hb hd hx I .nil h)
end
structure bZ (N P : List Str) (sc : Scope) : Prop where
 kind : sc.kind = .function
 co : sc.isCoroutine = false
 gen : sc.isGenerator = false
 nd : N.Nodup
 pre : N.take P.length = P
 E5 : ∀ x ∈ P, sc.names.lookup x = some .local \/ sc.names.lookup x = some .cell
 TV : ∀ y ∈ sc.names, y.2 ≠ .free
theorem A9 {kindOf : Str -> Option NameKind} {x : Str} : ∀ {binds : List (Str × Value)} {m : Str -> Option Value}, (∀ v, (x, v) ∉ binds) -> bindL kindOf binds m x = m x
 | [], _, _ => rfl
 | (n, v) :: r, m, h => by
  unfold bindL
  rw [A9 fun w hw => h w (List.mem_cons_of_mem _ hw)]
  split
  ·have : x ≠ n := by rintro rfl; exact h v List.mem_cons_self
   simp [this]
  ·rfl
theorem Ba {kindOf : Str -> Option NameKind} {x : Str} : ∀ {binds : List (Str × Value)} {m : Str -> Option Value}, (∀ v, (x, v) ∉ binds) -> bindC kindOf binds m x = m x
 | [], _, _ => rfl
 | (n, v) :: r, m, h => by
  unfold bindC
  rw [Ba fun w hw => h w (List.mem_cons_of_mem _ hw)]
  split
  ·rfl
  ·have : x ≠ n := by rintro rfl; exact h v List.mem_cons_self
   simp [this]
theorem Bb {kindOf : Str -> Option NameKind} {x : Str} {v : Value} : ∀ {P : List Str} {vs : List Value} {i : Nat} {m : Str -> Option Value}, P.Nodup -> P[i]? = some x -> vs[i]? = some v -> kindOf x = some .local →
  bindL kindOf (P.zip vs) m x = some v
 | [], _, _, _, _, h, _, _ => by simp at h
 | _ :: _, [], _, _, _, _, h, _ => by simp at h
 | p :: P, w :: vs, 0, m, nd, h1, h2, hk => by
  simp at h1 h2; subst h1; subst h2
  show bindL kindOf ((p, w) :: P.zip vs) m p = _
  unfold bindL
  rw [A9 fun v hv => (List.nodup_cons.mp nd).1 (List.of_mem_zip hv).1, if_pos hk]
  simp
 | p :: P, w :: vs, i + 1, m, nd, h1, h2, hk => by
  show bindL kindOf ((p, w) :: P.zip vs) m x = _
  unfold bindL
  exact Bb (i := i) (List.nodup_cons.mp nd).2 (by simpa using h1) (by simpa using h2) hk
theorem Bc {kindOf : Str -> Option NameKind} {x : Str} {v : Value} : ∀ {P : List Str} {vs : List Value} {i : Nat} {m : Str -> Option Value}, P.Nodup -> P[i]? = some x -> vs[i]? = some v -> kindOf x ≠ some .local →
  bindC kindOf (P.zip vs) m x = some v
 | [], _, _, _, _, h, _, _ => by simp at h
 | _ :: _, [], _, _, _, _, h, _ => by simp at h
 | p :: P, w :: vs, 0, m, nd, h1, h2, hk => by
  simp at h1 h2; subst h1; subst h2
  show bindC kindOf ((p, w) :: P.zip vs) m p = _
  unfold bindC
  rw [Ba fun v hv => (List.nodup_cons.mp nd).1 (List.of_mem_zip hv).1, if_neg hk]
  simp
 | p :: P, w :: vs, i + 1, m, nd, h1, h2, hk => by
  show bindC kindOf ((p, w) :: P.zip vs) m x = _
  unfold bindC
  exact Bc (i := i) (List.nodup_cons.mp nd).2 (by simpa using h1) (by simpa using h2) hk
def start (N : List Str) (vs : List V) : St := vs.map some ++ List.replicate (N.length - vs.length) none
def i6 (CX : fG) (P : Program) (w : World) (K : PySem.W.Frag) (mg : Str -> Option Value) (base : Heap) (N : List Str) (qual : Str) (scope : Scope) (f : Addr) (cd : Value) (A : Around) (outer : List Env) (s : Shared) (H : Hp) (E : XK) : Cx where
 prog := P
 w := w
 K := K
 mg := mg
 base := base
 A := A.deeper (envOfC qual scope s.heap.objs.size f cd)
 N := N
 aA := s
 aG := H
 env := envOfC qual scope s.heap.objs.size f cd
 outer := outer
 stack := envOfC qual scope s.heap.objs.size f cd :: outer
 ex := []
 calm := true
 fn := fun _ => true
 pn := []
 xe := fun e s' => wpAny (model P w) (A.deeper (envOfC qual scope s.heap.objs.size f cd)) (leaving (envOfC qual scope s.heap.objs.size f cd) e) (fun _ gF => CX outer H s E e gF) (fun e' gF => CX outer H s E e' gF) s'
theorem Bx {sc : Scope} {n : Nat} {x : Str} (h : sc.names.lookup x = some .cell) : ∃ c, (cellsFrom n sc.names []).lookup x = some c := by
 have q := PySem.W.cellsFrom_some sc.names n [] (.inl h)
 exact Option.isSome_iff_exists.mp q
theorem OS {CX : fG} {P : Program} {w : World} {K : PySem.W.Frag} {mg : Str -> Option Value} {base : Heap} {N ps : List Str} {qual : Str} {scope : Scope} {f : Addr} {cd : Value} {A : Around} {outer : List Env} {s s1 : Shared} {H : Hp} {E : XK} {us : List Value} {vs : List V}
  (S : bZ N ps scope) (hd : A.handled = none) (e0 : i5 P w K mg base A outer s H) (hl : vs.length = ps.length) (r : Vals vs us)
  (x : InCallC s s.heap.objs.size (bindL (envOfC qual scope s.heap.objs.size f cd).kindOf (ps.zip us) fun _ => none) (cellsFrom (s.heap.objs.size + 1) scope.names []) (bindC (envOfC qual scope s.heap.objs.size f cd).kindOf (ps.zip us) fun _ => none) s1) :
  Inv (i6 CX P w K mg base N qual scope f cd A outer s H E) [] (start N vs) H s1 := by
 have hpl : ps.length <= N.length := by have := congrArg List.length S.pre; rw [List.length_take] at this; omega
 obtain ⟨h1, tk, rfl, hk⟩ := x.done
 have qo : ∀ b : Addr, b ∉ (i6 CX P w K mg base N qual scope f cd A outer s H E).ex := fun b z => absurd (show b ∈ ([] : List Addr) from z) (by simp)
 refine ⟨⟨e0.mod, S.kind, rfl, rfl, Nat.le_refl _, fun y z c h1 h2 => ?_, fun y hy => ?_, fun y c _ h => ?_, fun _ => hd, Around.frames_deeper e0.frames, .inr ⟨rfl, rfl⟩, fun b z => absurd z (qo b), e0.bs, e0.hZ, fun b _ _ => qo b, fun b z => absurd z (qo b), e0.eR, e0.j4⟩,
  rfl, e0.bare, Un.kept hk, ⟨_, x.toInCall.ns, fun i y v h1 h2 h3 => ?_⟩, fun y c h => ⟨_, x.cell y c h⟩, e0.aF.fresh (Nat.le_refl _), fun y c h => ?_, fun p hp => absurd (show p ∈ ([] : List (Addr × Obj)) from hp) (by simp), e0.aF.kept hk, ?_⟩
 ·exact name_of_addr x.apart (PySem.mem_of_lookup h1) (PySem.mem_of_lookup h2)
 ·have hy : scope.names.lookup y = some .cell \/ scope.names.lookup y = some .free := hy
  rcases hy with hy | hy
  ·exact Bx hy
  ·exact absurd rfl (S.TV _ (PySem.mem_of_lookup hy))
 ·exact Nat.le_of_lt (x.above y c (PySem.mem_of_lookup h))
 ·have hi : i < vs.length := by
   unfold start at h2
   by_cases hi : i < vs.length
   ·exact hi
   ·rw [List.getElem?_append_right (by simpa using hi)] at h2
    rw [List.getElem?_replicate] at h2
    split at h2 <;> cases h2
  have ha : vs[i]? = some v := by
   unfold start at h2
   rw [List.getElem?_append_left (by simpa using hi), List.getElem?_map] at h2
   cases e : vs[i]? with
   | none => rw [e] at h2; cases h2
   | some a => rw [e] at h2; cases h2; rfl
  obtain ⟨u, hu, rv⟩ := r.get ha
  have hp : ps[i]? = some y := by
   rw [<- S.pre, List.getElem?_take_of_lt (by omega)]; exact h1
  have E6 : ps.Nodup := by rw [<- S.pre]; exact S.nd.sublist (List.take_sublist _ _)
  refine ⟨u, rv, ?_⟩
  rcases S.E5 y (List.mem_of_getElem? hp) with k | k
  ·exact .inl ⟨k, Bb E6 hp hu k⟩
  ·obtain ⟨c, e⟩ := Bx (n := s.heap.objs.size + 1) k
   refine .inr ⟨.inl k, c, e, ?_⟩
   have q := x.cell y c e
   rw [Bc E6 hp hu (by show scope.names.lookup y ≠ _; rw [k]; decide)] at q
   exact q
 ·exact e0.aF.fresh (Nat.le_of_lt (x.above y c (PySem.mem_of_lookup h)))
 ·unfold start
  show _ = N.length
  rw [List.length_append, List.length_map, List.length_replicate]
  omega
theorem DR {CX : fG} {P : Program} {w : World} {K : PySem.W.Frag} {mg : Str -> Option Value} {base : Heap} {k : Nat} {f : Addr} {name qual : Str} {params : Arguments} {body : List Stmt} {scope : Scope} {dV kV doc pm bT ct oc : Value} {an od : Option Addr}
  {ic : Array (Option Value)} {N ps : List Str} {sp : Sp} (lk : K.lookup f = some ⟨oc, od, .func (PySem.W.fnOf name qual params body scope dV kV doc pm an bT ct), ic⟩) (hcd : PySem.W.codeIn K bT qual = true) (S : bZ N ps scope)
  (len : ∀ vs H Q E, sp vs H Q E -> vs.length = ps.length)
  (l6 : ∀ (A : Around) (outer : List Env) (s : Shared) (H : Hp) (vs : List V) (Q : VK) (E : XK), bV k (A.deeper (envOfC qual scope s.heap.objs.size f bT)) -> sp vs H Q E →
   ∃ t, dO (i6 CX P w K mg base N qual scope f bT A outer s H E) body t /\ t { nx := fun _ H' => Q .az H', rt := Q } (start N vs) H) :
  bp P w K mg base CX (k + 1) f (PySem.W.fnOf name qual params body scope dV kV doc pm an bT ct) ps sp := by
 refine ⟨len, fun A outer s H args us vs Q E hr e0 hb r lb => ?_⟩
 have hl := len _ _ _ _ lb
 have KX : K.In s.heap := e0.mod.yw.keeps fun b o e => (e0.bs b o e).1
 have lim : s.heap.NoLimit := e0.mod.nolimit.keeps fun b o e => (e0.bs b o e).1
 have Wz : ∀ y ∈ ps.zip us, scope.names.lookup y.1 = some .local \/ (scope.names.lookup y.1 = some .cell /\ ((cellsFrom (s.heap.objs.size + 1) scope.names []).lookup y.1).isSome = true) := fun ⟨n, v⟩ hy => by
  rcases S.E5 n (List.of_mem_zip hy).1 with q | q
  ·exact .inl q
  ·exact .inr ⟨q, PySem.W.cellsFrom_some _ _ _ (.inl q)⟩
 refine codeAny_call_function hr.depth (KX _ _ lk) rfl S.co S.gen rfl (PySem.W.codeRec_of KX hcd) (hb _ _ _ _ ?_)
 refine wpAny_newFunctionEnv_cells S.kind Wz fun env he s1 x => ?_
 subst he
 refine ⟨lim.keeps x.toInCall.keep, codeAny_func ?_⟩
 obtain ⟨t, ht, hq⟩ := l6 A outer s H vs Q E (hr.deeper _) lb
 have I : Inv (i6 CX P w K mg base N qual scope f bT A outer s H E) [] (start N vs) H s1 := OS S hr.hd e0 hl r x
 refine wpAny_mono (ht [] s1 (start N vs) H _ I hq) (fun fl s' hs => ?_) fun e s' hs => hs
 have fin : ∀ {ao : St} {H' : Hp} {v : V} {u : Value}, Inv (i6 CX P w K mg base N qual scope f bT A outer s H E) [] ao H' s' -> RelV v u -> Q v H' -> CE outer P w H s Q u s' :=
  fun {ao H' v u} J rv q => ⟨v, H', J.os, J.bare, J.base, J.aF, rv, q⟩
 cases fl with
 | ret u =>
  obtain ⟨v, ao, H', J, rv, q⟩ := hs
  exact fin J rv q
 | next =>
  obtain ⟨ao, H', J, q⟩ := hs
  exact fin (v := V.az) (u := Value.none) J rfl q
 | brk =>
  obtain ⟨_, _, _, q⟩ := hs
  exact False.elim q
 | cont =>
  obtain ⟨_, _, _, q⟩ := hs
  exact False.elim q
section
variable {X : Cx} {x : Str} {p pos : Pos} {e : Expr} {es : List Expr} {t : TA} {id T : String} {r : List V -> Hp -> VK -> Prop}
def yD (r : List V -> Hp -> VK -> Prop) (t : TA) : TE := fun σ H Q => t σ H fun vs H1 => r vs H1 Q
theorem By (hc : cs X (.builtin id) r) (hg : Gl X x) (hm : X.mg x = none) (hv : bootBuiltins x = some (.builtin id)) (ha : PA X (e :: es) t) (hn : x ≠ "__name__" := by decide) (cy : (x == ("__debug__" : Str)) = false := by decide)
  (he : starEach (e :: es) X.env = (false, eval e X.env) :: starEach es X.env := by rfl) (hpl : (backTo pos (starEach es X.env)).any (·.1) = false := by rfl) : PE X (.Call (.Name x p) (e :: es) [] pos) (yD r t) := by
 intro pins s σ H Q I h
 refine wpAny_Call_Name_kw (nu I hg hm hv ?_ hn cy)
 exact PyProof.Rows.callWith_builtin1 (aT (ha pos pins s σ H _ I h) fun us s1 ⟨vs, H1, I1, r1, q1⟩ => hc pins s1 σ H1 vs us Q I1 r1 q1) he hpl
theorem OT (hc : cs X (.type T) r) (hg : Gl X x) (hm : X.mg x = none) (hv : bootBuiltins x = some (.type T)) (ha : PA X (e :: es) t) (hn : x ≠ "__name__" := by decide) (cy : (x == ("__debug__" : Str)) = false := by decide)
  (he : starEach (e :: es) X.env = (false, eval e X.env) :: starEach es X.env := by rfl) (hpl : (backTo pos (starEach es X.env)).any (·.1) = false := by rfl) : PE X (.Call (.Name x p) (e :: es) [] pos) (yD r t) := by
 intro pins s σ H Q I h
 refine wpAny_Call_Name_kw (nu I hg hm hv ?_ hn cy)
 exact PyProof.Rows.callWith_type1 (aT (ha pos pins s σ H _ I h) fun us s1 ⟨vs, H1, I1, r1, q1⟩ => hc pins s1 σ H1 vs us Q I1 r1 q1) he hpl
end
end L2
namespace HT
open PySem PyProof.Rows
section
open PySem.SeqAt
open PySem.AutoSeq1 (wpAny_loadPart')
open PySem.MeetsSeq PySem.MeetsSeq2 PySem.MeetsSeq3
end
section
variable {prog : Program} {w : World} {A : Around} {E : Value -> Shared -> Prop} {s : Shared}
def c4 (n d : Nat) : Option Int -> Nat
 | none => d
 | some v => if v < 0 then (v + (n : Int)).toNat else min v.toNat n
end
end HT
namespace L2
open PySem PySem.Spec PyProof.Rows
abbrev TO := St -> Hp -> (Option Int -> Hp -> Prop) -> Prop
def PO (X : Cx) (e : Option Expr) (t : TO) : Prop :=
 ∀ (pins : List (Addr × Obj)) (s : Shared) (σ : St) (H : Hp) (Q : Option Int -> Hp -> Prop), Inv X pins σ H s -> t σ H Q →
  wpAny (model X.prog X.w) X.A (evalPart e X.env) (fun u s' => ∃ o H', Inv X pins σ H' s' /\ IsPart u o /\ Q o H') X.xe s
def Rp : TO := fun _ H Q => Q none H
def WA (t : TE) : TO := fun σ H Q => t σ H fun x H1 => ∃ i, x = .int i /\ Q (some i) H1
section
variable {X : Cx} {e : Expr} {te : TE} {lo hi : Option Expr} {tl th : TO} {pos p2 : Pos}
theorem Rq : PO X none Rp := by
 intro pins s σ H Q I h
 rw [evalPart_none]
 exact wpAny_pure ⟨none, H, I, .none, h⟩
theorem Rr (h : PE X e te) : PO X (some e) (WA te) := by
 intro pins s σ H Q I hw
 rw [evalPart_some]
 refine aT (h pins s σ H _ I hw) fun u s1 ⟨x, H1, I1, r1, q1⟩ => ?_
 obtain ⟨i, rfl, q⟩ := q1
 obtain ⟨t, rfl⟩ := r1
 exact ⟨some i, H1, I1, .int i t, q⟩
def oh (X : Cx) (r : V -> Option Int -> Option Int -> Hp -> VK -> Prop) : Prop :=
 ∀ (pins : List (Addr × Obj)) (s : Shared) (σ : St) (H : Hp) (x : V) (v vl vu : Value) (lo hi : Option Int) (sl : Addr) (Q : VK), Inv X pins σ H s -> RelV x v -> s.heap.IsSliceOf sl vl vu .none -> IsPart vl lo -> IsPart vu hi -> r x lo hi H Q →
  ∃ T id, typeLookup (.type T) "__getitem__" = pure (some (.builtin id)) /\ s.TypeIs v T /\ wpAny (model X.prog X.w) X.A (getItem v (.ref sl)) (EP X pins σ Q) X.xe s
theorem oh.or {r r' : V -> Option Int -> Option Int -> Hp -> VK -> Prop} (h : oh X r) (h' : oh X r') : oh X (fun x lo hi H Q => r x lo hi H Q \/ r' x lo hi H Q) := by
 intro pins s σ H x v vl vu lo hi sl Q I rx hs pl pu q
 rcases q with q | q
 ·exact h pins s σ H x v vl vu lo hi sl Q I rx hs pl pu q
 ·exact h' pins s σ H x v vl vu lo hi sl Q I rx hs pl pu q
def Zi (r : V -> Option Int -> Option Int -> Hp -> VK -> Prop) (te : TE) (tl th : TO) : TE := fun σ H Q => te σ H fun x H1 => tl σ H1 fun l H2 => th σ H2 fun u H3 => r x l u H3 Q
theorem PX {r : V -> Option Int -> Option Int -> Hp -> VK -> Prop} (hr : oh X r) (he : PE X e te) (hl : PO X lo tl) (hu : PO X hi th) : PE X (.Subscript e (.Slice lo hi none p2) pos) (Zi r te tl th) := by
 intro pins s σ H Q I h
 refine Subscript_ (aT (he pins s σ H _ I h) fun v s1 ⟨x, H1, I1, r1, q1⟩ => ?_)
 refine wpAny_Slice (aT (hl pins s1 σ H1 _ I1 q1) fun vl s2 ⟨l, H2, I2, pl, q2⟩ => aT (hu pins s2 σ H2 _ I2 q2) fun vu s3 ⟨u, H3, I3, pu, q3⟩ => ?_)
 rw [evalPart_none]
 refine wpAny_pure ?_
 have I4 : Inv X pins σ H3 { s3 with heap := s3.heap.push { cls := .type "slice", data := .fields #[vl, vu, .none] } } := I3.kept (t' := s3.toks) fun b ob q => Heap.get?_push_of_some _ q
 obtain ⟨T, id, hT, ht, hg⟩ := hr pins { s3 with heap := s3.heap.push { cls := .type "slice", data := .fields #[vl, vu, .none] } } σ H3 x v vl vu l u s3.heap.objs.size Q I4 r1 (Heap.IsSliceOf.new ..) pl pu q3
 show wpAny (model X.prog X.w) X.A (subscriptTail e (.Slice lo hi none p2) v (.ref s3.heap.objs.size)) (EP X pins σ Q) X.xe { s3 with heap := s3.heap.push { cls := .type "slice", data := .fields #[vl, vu, .none] } }
 exact tail_any (ops := [.ref s3.heap.objs.size, v]) ht hT hg (by with_unfolding_all rfl)
def mw (xs : List V) (lo hi : Option Int) : List V := (xs.drop (HT.c4 xs.length 0 lo)).take (HT.c4 xs.length xs.length hi - HT.c4 xs.length 0 lo)
theorem Na (xs : List V) (lo hi : Option Int) : (mw xs lo hi).length <= xs.length := by
 unfold mw
 rw [List.length_take, List.length_drop]
 omega
def aam (K : PySem.W.Frag) : V -> Option Int -> Option Int -> Hp -> VK -> Prop := fun x lo hi H Q => ∃ a xs, x = .ref a /\ ce K H a xs /\
 ¬ (HT.c4 xs.length 0 lo = 0 /\ HT.c4 xs.length xs.length hi = xs.length) /\ ∀ p, H p = none -> Q (.ref p) (upd H p (.tup (mw xs lo hi)))
theorem Vals.aaf {xs : List V} {us : List Value} (r : Vals xs us) : us = [] ↔ xs = [] := by
 cases r with
 | nil => simp
 | cons _ _ => simp
end
def cF (n : Nat) (i : Int) : Option Nat := if 0 <= i then (if i < n then some i.toNat else none) else if -(n : Int) <= i then some (i + n).toNat else none
def bL {α : Type} (xs : List α) (i : Int) : Option α := (cF xs.length i).bind fun j => xs[j]?
theorem B6 {n : Nat} {i : Int} {j : Nat} (h : cF n i = some j) : seqIndex? i n = some j /\ j < n /\ -(n : Int) <= i /\ i < n := by
 unfold cF at h
 by_cases h0 : 0 <= i
 ·rw [if_pos h0] at h
  by_cases h1 : i < n
  ·rw [if_pos h1] at h
   have e : i.toNat = j := Option.some.inj h
   exact ⟨by rw [seqIndex_of h0 h1, e], by omega, by omega, h1⟩
  ·rw [if_neg h1] at h; cases h
 ·rw [if_neg h0] at h
  by_cases h1 : -(n : Int) <= i
  ·rw [if_pos h1] at h
   have e : (i + n).toNat = j := Option.some.inj h
   exact ⟨by rw [seqIndex_neg (by omega) h1, e], by omega, h1, by omega⟩
  ·rw [if_neg h1] at h; cases h
theorem wF {α : Type} {xs : List α} {i : Int} {v : α} (h : bL xs i = some v) : ∃ j, seqIndex? i xs.length = some j /\ xs[j]? = some v /\ j < xs.length /\ -(xs.length : Int) <= i /\ i < xs.length := by
 unfold bL at h
 cases e : cF xs.length i with
 | none => rw [e] at h; cases h
 | some j =>
  rw [e] at h
  obtain ⟨h1, h2, h3, h4⟩ := B6 e
  exact ⟨j, h1, h, h2, h3, h4⟩
theorem wG {α : Type} {xs : List α} {j : Nat} {v : α} (h : xs[j]? = some v) : bL xs (j : Int) = some v := by
 have hj : j < xs.length := (List.getElem?_eq_some_iff.mp h).1
 have e : cF xs.length (j : Int) = some j := by
  unfold cF
  rw [if_pos (by omega), if_pos (by omega)]; simp
 unfold bL; rw [e]; exact h
theorem wa {α : Type} (xs : List α) (v : α) : bL (xs ++ [v]) (-1) = some v := by
 have hl : (xs ++ [v]).length = xs.length + 1 := by simp
 have e : cF (xs ++ [v]).length (-1) = some xs.length := by
  unfold cF
  rw [hl, if_neg (by decide), if_pos (by omega)]
  congr 1
  omega
 unfold bL
 rw [e]
 show (xs ++ [v])[xs.length]? = some v
 simp
def wH (b : Expr) : Prop := ∀ o i, subscripted b false o i = operate [o, i] (getItem o i)
def ie (X : Cx) (r : R2) : Prop :=
 ∀ (value slice : Expr) (pins : List (Addr × Obj)) (s : Shared) (σ : St) (H : Hp) (x y : V) (v u : Value) (Q : VK), Inv X pins σ H s -> RelV x v -> RelV y u -> r x y H Q →
  subscripted slice false v u = operate [v, u] (getItem v u) -> wpAny (model X.prog X.w) X.A (subscriptTail value slice v u) (EP X pins σ Q) X.xe s
def ig (X : Cx) (id : String) (r : V -> List V -> Hp -> VK -> Prop) : Prop :=
 ∀ (pins : List (Addr × Obj)) (s : Shared) (σ : St) (H : Hp) (x : V) (xs : List V) (v : Value) (us : List Value) (Q : VK), Inv X pins σ H s -> RelV x v -> Vals xs us -> r x xs H Q →
  wpAny (model X.prog X.w) X.A (call (.builtin id) (v :: us)) (EP X pins σ Q) X.xe s
section
variable {X : Cx} {a b : Expr} {ta tb : TE} {pos : Pos}
theorem ie.or {r r' : R2} (h : ie X r) (h' : ie X r') : ie X (fun x y H Q => r x y H Q \/ r' x y H Q) := by
 intro value slice pins s σ H x y v u Q I rx ry q hs
 rcases q with q | q
 ·exact h value slice pins s σ H x y v u Q I rx ry q hs
 ·exact h' value slice pins s σ H x y v u Q I rx ry q hs
theorem ig.or {id : String} {r r' : V -> List V -> Hp -> VK -> Prop} (h : ig X id r) (h' : ig X id r') : ig X id (fun x xs H Q => r x xs H Q \/ r' x xs H Q) := by
 intro pins s σ H x xs v us Q I rx rs q
 rcases q with q | q
 ·exact h pins s σ H x xs v us Q I rx rs q
 ·exact h' pins s σ H x xs v us Q I rx rs q
theorem WB {r : R2} (hr : ie X r) (ha : PE X a ta) (hb : PE X b tb) (hs : wH b) : PE X (.Subscript a b pos) (ql r ta tb) := by
 intro pins s σ H Q I h
 exact Subscript_ (xU ha hb I h fun v u s2 x y H2 I2 rx ry q => hr a b pins s2 σ H2 x y v u Q I2 rx ry q (hs _ _))
def Ew (K : PySem.W.Frag) : R2 := fun x y H Q => ∃ p xs i v, x = .ref p /\ y = .int i /\ bb K H p xs /\ bL xs i = some v /\ Q v H
def Ey (K : PySem.W.Frag) : R2 := fun x y H Q => ∃ p xs i v, x = .ref p /\ y = .int i /\ ce K H p xs /\ bL xs i = some v /\ Q v H
def Ez : R2 := fun x y H Q => ∃ z i c, x = .str z /\ y = .int i /\ z.length <= sizeLine /\ bL z.cps.toList i = some c /\ Q (.str ⟨#[c]⟩) H
theorem Rt : ie X (Ew X.K) := by
 intro value slice pins s σ H x y v u Q I rx ry h hs
 obtain ⟨p, xs, i, z, rfl, rfl, hq, he, q⟩ := h
 cases rx
 obtain ⟨t, rfl⟩ := ry
 obtain ⟨its, r, pl, hz⟩ := I.list hq
 obtain ⟨j, h1, h2, h3, h4, h5⟩ := wF he
 obtain ⟨w, ew, cR⟩ := r.get h2
 have hl := r.length
 have hn := lX
 have fin : EP X pins σ Q w s := ⟨z, H, I, cR, q⟩
 by_cases h0 : 0 <= i
 ·have hj : i.toNat = j := by
   rw [seqIndex_of h0 h5] at h1
   exact Option.some.inj h1
  exact item_listR pl.isList h0 (by omega) (by rw [hj]; simpa using ew) fin hs
 ·have hj : (i + (its.toArray.size : Int)).toNat = j := by
   rw [seqIndex_neg (by omega) h4] at h1
   rw [List.size_toArray, <- hl]
   exact Option.some.inj h1
  exact subscriptTail_builtinR (x := w) pl.isList.typeIs slot_list_getitem.lookup
   (wpAny_getItem_list_neg (Q := fun r s' => r = w /\ EP X pins σ Q r s') pl.isList (by omega) (by rw [List.size_toArray] <;> omega) (by omega) (by rw [hj]; simpa using ew) ⟨rfl, fin⟩) hs
theorem TX : ie X (Ey X.K) := by
 intro value slice pins s σ H x y v u Q I rx ry h hs
 obtain ⟨p, xs, i, z, rfl, rfl, hq, he, q⟩ := h
 cases rx
 obtain ⟨t, rfl⟩ := ry
 obtain ⟨its, r, pl, hz⟩ := I.tuple hq
 obtain ⟨j, h1, h2, h3, h4, h5⟩ := wF he
 obtain ⟨w, ew, cR⟩ := r.get h2
 have hl := r.length
 have hn := lX
 have fin : EP X pins σ Q w s := ⟨z, H, I, cR, q⟩
 exact subscriptTail_builtinR (x := w) pl.typeIs slot_tuple_getitem.lookup
  (getItem_tuple (j := j) (Q := fun r s' => r = w /\ EP X pins σ Q r s') pl (by omega) (by omega) (by rw [List.size_toArray, <- hl]; exact h1) (by simpa using ew) ⟨rfl, fin⟩) hs
theorem TY : ie X Ez := by
 intro value slice pins s σ H x y v u Q I rx ry h hs
 obtain ⟨z, i, c, rfl, rfl, hz, he, q⟩ := h
 obtain ⟨t, rfl⟩ := rx
 obtain ⟨t', rfl⟩ := ry
 obtain ⟨j, h1, h2, h3, h4, h5⟩ := wF he
 have hl : z.cps.toList.length = z.length := by simp [Str.length]
 rw [hl] at h1 h4 h5
 have hn := lX
 exact tail_any (typeIs_str s z t) slot_str_getitem.lookup (getItem_str (c := c) (by
  have e1 : decide (i < -(2 ^ 63 : Int)) = false := decide_eq_false (by omega)
  have e2 : decide (i >= 2 ^ 63) = false := decide_eq_false (by omega)
  rw [e1, e2, Bool.or_false]) (by rw [h1]; simpa using h2) ⟨.str ⟨#[c]⟩, H, I.tok _, ⟨_, rfl⟩, q⟩) hs
def yE (K : PySem.W.Frag) : R2 := fun x y H Q => Ew K x y H Q \/ Ey K x y H Q \/ Ez x y H Q
theorem TZ : ie X (yE X.K) := Rt.or (TX.or TY)
theorem N6 (its : List Value) (n j : Nat) (u : Value) : Obj.mapSeq (·.setIfInBounds j u) { cls := .type "list", data := .seq its.toArray n } = { cls := .type "list", data := .seq (its.set j u).toArray n } := by
 simp [Obj.mapSeq]
theorem Inv.lst {pins : List (Addr × Obj)} {σ : St} {H : Hp} {s : Shared} {p : Addr} {xs : List V} (I : Inv X pins σ H s) (h : H p = some (.lst xs)) :
  ∃ (its : List Value) (n : Nat), Vals xs its /\ s.heap.get? p = some { cls := .type "list", data := .seq its.toArray n } /\ xs.length <= sizeLine := by
 obtain ⟨z, its, n, r, e⟩ := I.aF p _ h
 exact ⟨its, n, r, e, z⟩
theorem Inv.T1 {pins : List (Addr × Obj)} {σ : St} {H : Hp} {s : Shared} {p : Addr} {xs ys : List V} {its its' : List Value} {n n' : Nat} {f : Obj -> Obj} (I : Inv X pins σ H s) (h : H p = some (.lst xs))
  (ho : s.heap.get? p = some { cls := .type "list", data := .seq its.toArray n }) (hf : f { cls := .type "list", data := .seq its.toArray n } = { cls := .type "list", data := .seq its'.toArray n' }) (r : Vals ys its') (hz : ys.length <= sizeLine) (t : Nat) :
  Inv X pins σ (upd H p (.lst ys)) { s with heap := s.heap.update p f, toks := t } := by
 have e : (s.heap.update p f).get? p = some { cls := .type "list", data := .seq its'.toArray n' } := by
  rw [Heap.get?_update_self f ho (by rw [hf] <;> rfl), hf]
 refine I.write (x := p) (e := p) (by rw [h]; trivial) (.inl rfl) (fun b u hb q => (Heap.get?_update_other _ _ (Ne.symm hb)).trans q) ⟨_, e⟩ ?_
 exact ⟨hz, its', n', r, e⟩
def WC : V -> V -> V -> Hp -> (Hp -> Prop) -> Prop := fun o i v H Q => ∃ p xs k j, o = .ref p /\ i = .int k /\ H p = some (.lst xs) /\ cF xs.length k = some j /\ Q (upd H p (.lst (xs.set j v)))
theorem set_list : jP X WC := by
 intro pins s σ H o i v ov iv u Q I ro ri rv h
 obtain ⟨p, xs, k, j, rfl, rfl, hp, hj, q⟩ := h
 cases ro
 obtain ⟨t, rfl⟩ := ri
 obtain ⟨its, n, r, ho, hz⟩ := I.lst hp
 obtain ⟨h1, h2, h3, h4⟩ := B6 hj
 have hl := r.length
 have hn := lX
 have I' : Inv X pins σ (upd H p (.lst (xs.set j v))) { s with heap := s.heap.update p (Obj.mapSeq (·.setIfInBounds j u)) } :=
  I.T1 hp ho (N6 its n j u) (r.set rv j) (by rw [List.length_set]; exact hz) s.toks
 by_cases h0 : 0 <= k
 ·have hk : k.toNat = j := by
   rw [seqIndex_of h0 h4] at h1
   exact Option.some.inj h1
  exact PySem.W.ki_setAt ho h0 (by omega) (by rw [List.size_toArray, <- hl]; exact h4) (by rw [hk]; exact ⟨_, I', q⟩)
 ·have hk : (k + (its.toArray.size : Int)).toNat = j := by
   rw [seqIndex_neg (by omega) h3] at h1
   rw [List.size_toArray, <- hl]
   exact Option.some.inj h1
  exact PySem.W.ki_setBack ho (by omega) (by rw [List.size_toArray, <- hl]; exact h3) (by omega) (by rw [hk]; exact ⟨_, I', q⟩)
theorem Mr (lo hi : Option Int) (n : Nat) : (sliceBounds lo hi none n).1 = ((HT.c4 n 0 lo : Nat) : Int) /\ (sliceBounds lo hi none n).2.1 = ((HT.c4 n n hi : Nat) : Int) /\ (sliceBounds lo hi none n).2.2 = 1 := by
 refine ⟨?_, ?_, rfl⟩
 ·cases lo with
  | none => simp [sliceBounds, HT.c4]
  | some i =>
   simp only [sliceBounds, HT.c4, Option.getD_none, show (1 : Int) > 0 by decide, if_true]
   by_cases h : i < 0
   ·simp only [h, if_true] <;> omega
   ·simp only [h, if_false] <;> omega
 ·cases hi with
  | none => simp [sliceBounds, HT.c4]
  | some i =>
   simp only [sliceBounds, HT.c4, Option.getD_none, show (1 : Int) > 0 by decide, if_true]
   by_cases h : i < 0
   ·simp only [h, if_true] <;> omega
   ·simp only [h, if_false] <;> omega
theorem K4 (its : List Value) (lo hi : Option Int) : slicePick its.toArray lo hi none = ((its.drop (HT.c4 its.length 0 lo)).take (HT.c4 its.length its.length hi - HT.c4 its.length 0 lo)).toArray := by
 obtain ⟨h1, h2, h3⟩ := Mr lo hi its.toArray.size
 unfold slicePick
 rw [h1, h2, h3]
 simp only [sliceRange_one, pick_run, List.size_toArray] <;> rfl
def Yh (K : PySem.W.Frag) : V -> Option Int -> Option Int -> Hp -> VK -> Prop := fun x lo hi H Q => ∃ a xs, x = .ref a /\ bb K H a xs /\ ∀ p, H p = none -> Q (.ref p) (upd H p (.lst (mw xs lo hi)))
theorem Ru : oh X (Yh X.K) := by
 intro pins s σ H x v vl vu lo hi sl Q I rx hs pl pu h
 obtain ⟨a, xs, rfl, hx, q⟩ := h
 cases rx
 obtain ⟨its, r, ht, hz⟩ := I.list hx
 have bz := r.length
 refine ⟨"list", _, slot_list_getitem.lookup, ht.isList.typeIs, ?_⟩
 refine wpAny_getItem_list_slice ht.isList hs pl pu .none (by simp) ?_ (by rw [List.size_toArray] <;> omega)
 rw [K4, <- bz]
 refine ⟨.ref s.heap.objs.size, _, I.laid (t' := s.toks) (o := .lst (mw xs lo hi)) (fun b ob q => Heap.get?_push_of_some _ q) (Nat.le_refl _) ?_, rfl, q _ (I.aF.fresh (Nat.le_refl _))⟩
 exact ⟨Nat.le_trans (Na xs lo hi) hz, _, 0, (r.drop (HT.c4 xs.length 0 lo)).take (HT.c4 xs.length xs.length hi - HT.c4 xs.length 0 lo), Heap.get?_push_size _ rfl⟩
def E7 : V -> V -> Bool
 | .az, .az => true
 | .bl a, .bl b => a == b
 | .bl a, .int b => (if a then 1 else 0) == b
 | .int a, .bl b => a == (if b then 1 else 0)
 | .int a, .int b => a == b
 | .str a, .str b => a == b
 | _, _ => false
def cD (x : V) (xs : List V) : Bool := xs.any fun y => E7 y x
theorem Ms : cs X (.builtin "len") (fun xs H Q => ∃ p ys, xs = [.ref p] /\ (bb X.K H p ys \/ ce X.K H p ys) /\ Q (.int ys.length) H) := by
 intro pins s σ H xs us Q I r h
 obtain ⟨p, ys, rfl, hq, q⟩ := h
 obtain ⟨u, rfl, rx⟩ := vals1 r
 cases rx
 have hn := lX
 rcases hq with hq | hq
 ·obtain ⟨its, r', pl, hz⟩ := I.list hq
  have bz := r'.length
  exact Calls.call_len_list pl.isList (by simp only [List.size_toArray] <;> omega) ⟨.int ys.length, H, I.tok _, ⟨s.toks + 1, by rw [List.size_toArray, bz]⟩, q⟩
 ·obtain ⟨its, r', pl, hz⟩ := I.tuple hq
  have bz := r'.length
  exact len_tuple pl (by simp only [List.size_toArray] <;> omega) ⟨.int ys.length, H, I.tok _, ⟨s.toks + 1, by rw [List.size_toArray, bz]⟩, q⟩
theorem Mu : cs X (.builtin "len") (fun xs H Q => ∃ z, xs = [.str z] /\ z.length <= sizeLine /\ Q (.int z.length) H) := by
 intro pins s σ H xs us Q I r h
 obtain ⟨z, rfl, hz, q⟩ := h
 obtain ⟨u, rfl, t, rfl⟩ := vals1 r
 have hn := lX
 exact len_str (by omega) ⟨.int z.length, H, I.tok _, ⟨_, rfl⟩, q⟩
theorem cs.or {f : Value} {r r' : List V -> Hp -> VK -> Prop} (h : cs X f r) (h' : cs X f r') : cs X f (fun xs H Q => r xs H Q \/ r' xs H Q) := by
 intro pins s σ H xs us Q I rs q
 rcases q with q | q
 ·exact h pins s σ H xs us Q I rs q
 ·exact h' pins s σ H xs us Q I rs q
theorem vB : cs X (.type "list") (fun xs H Q => ∃ p ys, xs = [.ref p] /\ (bb X.K H p ys \/ ce X.K H p ys) /\ ∀ l, H l = none -> Q (.ref l) (upd H l (.lst ys))) := by
 intro pins s σ H xs us Q I r h
 obtain ⟨p, ys, rfl, hq, q⟩ := h
 obtain ⟨u, rfl, rx⟩ := vals1 r
 cases rx
 have fin : ∀ (its : List Value), Vals ys its -> ys.length <= sizeLine -> ∀ (h' : Heap) (c' : Nat), (∀ b o', s.heap.get? b = some o' -> h'.get? b = some o') →
   h'.get? s.heap.objs.size = some { cls := .type "list", dict := none, data := .seq its.toArray c', slots := #[] } -> EP X pins σ Q (.ref s.heap.objs.size) { s with heap := h' } := fun its r' hz h' c' kp e =>
  ⟨.ref s.heap.objs.size, _, I.laid (t' := s.toks) kp (Nat.le_refl _) (show b8 X.prog X.w _ h' _ (.lst ys) from ⟨hz, its, c', r', e⟩), rfl, q _ (I.aF.fresh (Nat.le_refl _))⟩
 rcases hq with hq | hq
 ·obtain ⟨its, r', pl, hz⟩ := I.list hq
  have bz := r'.length
  obtain ⟨o, ho, hc, n, hd⟩ := pl.isList
  exact call_list_seq p (.inl rfl) ho hc hd (fun h' c' kp e => fin its r' hz h' c' kp e) (by simp only [List.size_toArray] <;> omega)
 ·obtain ⟨its, r', pl, hz⟩ := I.tuple hq
  have bz := r'.length
  obtain ⟨o, ho, hc, n, hd⟩ := pl
  exact call_list_seq p (.inr rfl) ho hc hd (fun h' c' kp e => fin its r' hz h' c' kp e) (by simp only [List.size_toArray] <;> omega)
def yF (K : PySem.W.Frag) (T : String) (x : V) (H : Hp) : Prop := match x with
 | .str _ => T = "str"
 | .int _ => T = "int"
 | .ref p => (T = "list" /\ ∃ xs, bb K H p xs) \/ (T = "tuple" /\ ∃ o, K.lookup p = some o /\ o.cls = .type "tuple" /\ o.dict = none) \/
   (T = "dict" /\ ((∃ kvs, H p = some (.dK kvs)) \/ ∃ kvs, H p = some (.dT kvs))) \/ (T = "set" /\ ∃ S n, H p = some (.set S n)) \/ (T = "dict" /\ ∃ kvs, H p = some (.dU kvs))
 | _ => False
theorem T2 {pins : List (Addr × Obj)} {σ : St} {H : Hp} {s : Shared} {T : String} {x : V} {v : Value} (I : Inv X pins σ H s) (r : RelV x v) (ty : yF X.K T x H) :
  s.TypeIs v T /\ ∀ a, v = .ref a -> ∃ ob, s.heap.get? a = some ob /\ ob.dict = none := by
 cases x with
 | str z =>
  obtain ⟨t, rfl⟩ := r
  cases (show T = "str" from ty)
  exact ⟨typeIs_str s z t, fun _ e => nomatch e⟩
 | int i =>
  obtain ⟨t, rfl⟩ := r
  cases (show T = "int" from ty)
  exact ⟨typeIs_int s i t, fun _ e => nomatch e⟩
 | ref p =>
  cases r
  rcases ty with ⟨rfl, xs, hq⟩ | ⟨rfl, o, hk, hc, hd⟩ | ⟨rfl, hk⟩ | ⟨rfl, S, n, hk⟩ | ⟨rfl, kvs, hk⟩
  ·obtain ⟨its, _, pl, _⟩ := I.list hq
   refine ⟨pl.isList.typeIs, fun a e => ?_⟩
   cases e
   obtain ⟨o, n, e, c, hd, _⟩ := pl
   exact ⟨o, e, hd⟩
  ·refine ⟨⟨o, I.dN p o hk, hc⟩, fun a e => ?_⟩
   cases e
   exact ⟨o, I.dN _ o hk, hd⟩
  ·have z : ∃ o, s.heap.get? p = some o /\ o.ExactDict := by
    rcases hk with ⟨kvs, hk⟩ | ⟨kvs, hk⟩
    ·obtain ⟨_, _, _, _, o, _, _, e, ex, _⟩ := I.aF p _ hk
     exact ⟨o, e, ex⟩
    ·obtain ⟨_, _, _, _, o, _, _, e, ex, _⟩ := I.aF p _ hk
     exact ⟨o, e, ex⟩
   obtain ⟨o, e, ex⟩ := z
   refine ⟨⟨o, e, ex.1⟩, fun a e2 => ?_⟩
   cases e2
   exact ⟨o, e, ex.2.1⟩
  ·obtain ⟨o, _, _, _, e, ex, _⟩ := I.aF p _ hk
   refine ⟨⟨o, e, ex.1⟩, fun a e2 => ?_⟩
   cases e2
   exact ⟨o, e, ex.2.1⟩
  ·obtain ⟨_, _, o, _, _, e, ex, _⟩ := I.aF p _ hk
   refine ⟨⟨o, e, ex.1⟩, fun a e2 => ?_⟩
   cases e2
   exact ⟨o, e, ex.2.1⟩
 | _ => exact False.elim ty
def E8 (K : PySem.W.Frag) (T : String) (r : V -> List V -> Hp -> VK -> Prop) (to : TE) (t : TA) : TE := fun σ H Q => to σ H fun x H1 => yF K T x H1 /\ t σ H1 fun xs H2 => r x xs H2 Q
variable {o e : Expr} {es : List Expr} {to : TE} {t : TA} {name : Str} {apos b5 : Pos} {T id : String} {r : V -> List V -> Hp -> VK -> Prop}
theorem WD (pa : PlainAttrs T) (slot : Slot T name id) (mJ : typeOf (.builtin id) = pure (.type "method_descriptor")) (hm : ig X id r) (ho : PE X o to) (ha : PA X (e :: es) t)
  (fT : attributeBase o name X.env (eval o X.env) = eval o X.env := by rfl)
  (xV : ((backTo b5 (starEach (e :: es) X.env)).all (fun x => !x.1) && (backToKw b5 (keywordEach [] X.env)).all (fun x => x.1.isSome)
   && decide ((e :: es).length + ([] : List Keyword).length + (if ([] : List Keyword).isEmpty then 0 else 1) < 30)) = true := by rfl)
  (fU : (apos.endLine == b5.line) = true := by rfl) (hs : starEach (e :: es) X.env = (false, eval e X.env) :: starEach es X.env := by rfl) (xk : (backTo b5 (starEach es X.env)).any (·.1) = false := by rfl) :
  PE X (.Call (.Attribute o name apos) (e :: es) [] b5) (E8 X.K T r to t) := by
 intro pins s σ H Q I h
 refine wpAny_Call_method_late fT xV fU rfl (aT (ho pins s σ H _ I h) fun v s1 ⟨x, H1, I1, r1, ty, q1⟩ => ?_)
 obtain ⟨h1, h2⟩ := T2 I1 r1 ty
 refine ⟨T, id, pa, slot, mJ, h1, h2, ?_⟩
 have hA := ha b5 pins s1 σ H1 _ I1 q1
 rw [hs] at hA ⊢
 refine Calls.callWith_builtin (by show (false || (backTo b5 (starEach es X.env)).any (·.1)) = false; rw [xk] <;> rfl) (Calls.evalArgs_plain ?_)
 exact aT hA fun us s2 ⟨vs, H2, I2, r2, q2⟩ => hm pins s2 σ H2 x vs v us Q I2 r1 r2 q2
end
def E9 (X : Cx) (id : String) (r : V -> List V -> Hp -> VK -> Prop) : Prop :=
 ∀ (pins : List (Addr × Obj)) (s : Shared) (σ : St) (H : Hp) (x : V) (xs : List V) (v : Value) (us : List Value) (Q : VK), Inv X pins σ H s -> RelV x v -> Vals xs us -> r x xs H Q →
  wpAny (model X.prog X.w) X.A (call (.builtin id) (v :: us)) (EP X pins σ Q) X.xe s
theorem Vals.one {x : V} {us : List Value} (h : Vals [x] us) : ∃ u, us = [u] /\ RelV x u := by
 cases h with
 | cons r t => cases t; exact ⟨_, rfl, r⟩
theorem Vals.two {x y : V} {us : List Value} (h : Vals [x, y] us) : ∃ u v, us = [u, v] /\ RelV x u /\ RelV y v := by
 cases h with
 | cons r t =>
  obtain ⟨v, e, q⟩ := Vals.one t
  subst e
  exact ⟨_, _, rfl, r, q⟩
theorem Vals.zero : ∀ {us : List Value}, Vals [] us -> us = []
 | _, .nil => rfl
theorem Vals.reverse {xs : List V} {us : List Value} (h : Vals xs us) : Vals xs.reverse us.reverse := by
 induction h with
 | nil => exact .nil
 | cons r t ih => rw [List.reverse_cons, List.reverse_cons]; exact Vals.append ih (.cons r .nil)
theorem Vals.rep {xs : List V} {us : List Value} (h : Vals xs us) : ∀ k : Nat, Vals (List.replicate k xs).flatten (List.replicate k us).flatten
 | 0 => .nil
 | k + 1 => by
  rw [List.replicate_succ, List.replicate_succ, List.flatten_cons, List.flatten_cons]
  exact Vals.append h (Vals.rep h k)
theorem foldl_rep (its : List Value) : ∀ (k : Nat) (acc : List Value),
  List.foldl (fun x1 x2 => x1 ++ x2) acc.toArray (List.replicate k its.toArray) = (acc ++ (List.replicate k its).flatten).toArray
 | 0, acc => by simp
 | k + 1, acc => by
  have e : acc.toArray ++ its.toArray = (acc ++ its).toArray := by simp
  have e2 : (acc ++ its) ++ (List.replicate k its).flatten = acc ++ (List.replicate (k + 1) its).flatten := by
   rw [List.replicate_succ, List.flatten_cons, List.append_assoc]
  rw [<- e2, <- foldl_rep its k (acc ++ its), <- e, List.replicate_succ, List.foldl_cons]
section
variable {X : Cx} {pins : List (Addr × Obj)} {σ : St} {H : Hp} {s : Shared} {l b : Addr} {xs ys zs : List V}
theorem Inv.EA {its its' : List Value} {n : Nat} {f : Array Value -> Array Value} {t' : Nat} (I : Inv X pins σ H s) (hH : H l = some (.lst xs))
  (e : s.heap.get? l = some { cls := .type "list", data := .seq its.toArray n }) (hf : f its.toArray = its'.toArray) (hv : Vals ys its') (hz : ys.length <= sizeLine) :
  Inv X pins σ (upd H l (.lst ys)) { s with heap := s.heap.update l (Obj.mapSeq f), toks := t' } := by
 have q := PySem.IsL.update e f
 rw [hf] at q
 refine I.write (x := l) (e := l) (by rw [hH]; exact trivial) (.inl rfl) (fun b' u hb hu => (Heap.get?_update_other s.heap (Obj.mapSeq f) (Ne.symm hb)).trans hu) ⟨_, q⟩ ?_
 exact ⟨hz, its', _, hv, q⟩
theorem Inv.EB {its : List Value} {t' : Nat} (I : Inv X pins σ H s) (hv : Vals ys its) (hz : ys.length <= sizeLine) :
  Inv X pins σ (upd H s.heap.objs.size (.lst ys)) { s with heap := s.heap.push { cls := .type "list", data := .seq its.toArray }, toks := t' } :=
 I.laid (fun _ _ q => Heap.get?_push_of_some _ q) (Nat.le_refl _) ⟨hz, its, 0, hv, Heap.get?_push_size _ rfl⟩
theorem Inv.fresh (I : Inv X pins σ H s) : H s.heap.objs.size = none := I.aF.fresh (Nat.le_refl _)
theorem Inv.pO (I : Inv X pins σ H s) (hH : H l = some (.lst xs)) : xs.length <= sizeLine /\ ∃ (its : List Value) (n : Nat), Vals xs its /\ xs.length = its.length /\ s.heap.get? l = some { cls := .type "list", data := .seq its.toArray n } := by
 obtain ⟨z, its, n, r, e⟩ := I.aF l _ hH
 exact ⟨z, its, n, r, r.length, e⟩
theorem PY {n : Nat} (h : n <= sizeLine) : Builtin.List.listTooLong n = false := by
 unfold Builtin.List.listTooLong
 exact decide_eq_false (by omega)
end
section
variable {X : Cx}
def B7 : V -> List V -> Hp -> VK -> Prop := fun x vs H Q => ∃ l xs y, x = .ref l /\ vs = [y] /\ H l = some (.lst xs) /\ xs.length < sizeLine /\ Q .az (upd H l (.lst (xs ++ [y])))
theorem sM : E9 X "list.append" B7 := by
 intro pins s σ H x vs v us Q I rx rv h
 obtain ⟨l, xs, y, rfl, rfl, hH, hz, q⟩ := h
 cases rx
 obtain ⟨u, rfl, ru⟩ := rv.one
 obtain ⟨z, its, n, r, hl, e⟩ := I.pO hH
 refine call_meets F.slot_list_append ⟨_, e, rfl⟩ F.entry_list_append (F.args_list_append_2 _ _) (PySem.list_append l its.toArray n u (by rw [List.size_toArray]; omega)) ⟨e, ?_⟩
 refine ⟨.az, _, I.EA (its' := its ++ [u]) hH e (by simp) (r.append (.cons ru .nil)) ?_, rfl, q⟩
 rw [List.length_append, List.length_singleton]
 omega
def B8 : V -> List V -> Hp -> VK -> Prop := fun x vs H Q => ∃ l b xs zs, x = .ref l /\ vs = [.ref b] /\ H l = some (.lst xs) /\ H b = some (.lst zs) /\ xs.length + zs.length <= sizeLine /\ Q .az (upd H l (.lst (xs ++ zs)))
theorem OU : E9 X "list.extend" B8 := by
 intro pins s σ H x vs v us Q I rx rv h
 obtain ⟨l, b, xs, zs, rfl, rfl, hH, hB, hz, q⟩ := h
 cases rx
 obtain ⟨u, rfl, ru⟩ := rv.one
 cases ru
 obtain ⟨z, its, n, r, hl, e⟩ := I.pO hH
 obtain ⟨z2, dg, n2, r2, fY, e2⟩ := I.pO hB
 have hsz : its.toArray.size + dg.toArray.size <= sizeLine := by rw [List.size_toArray, List.size_toArray]; omega
 have WE : ¬ (!its.toArray.isEmpty && Builtin.List.listTooLong (its.toArray.size + dg.toArray.size)) = true := by
  rw [PY hsz, Bool.and_false]
  exact Bool.false_ne_true
 refine call_meets F.slot_list_extend ⟨_, e, rfl⟩ F.entry_list_extend (F.args_list_extend_2 _ _)
  (AutoSeq1.list_extend_list_list_0 l its.toArray n b dg.toArray n2 WE (by rw [List.size_toArray]; omega) (by omega)) ⟨e, e2, ?_⟩
 refine ⟨.az, _, I.EA (its' := its ++ dg) hH e (by simp) (r.append r2) ?_, rfl, q⟩
 rw [List.length_append]
 omega
def EC : R2 := fun x y H Q => ∃ l b xs zs, x = .ref l /\ y = .ref b /\ H l = some (.lst xs) /\ H b = some (.lst zs) /\ xs.length + zs.length <= sizeLine /\ ∀ p, H p = none -> Q (.ref p) (upd H p (.lst (xs ++ zs)))
theorem T3 : bG X (binaryOp .Add) EC := by
 intro pins s σ H x y v u Q I rx ry h
 obtain ⟨l, b, xs, zs, rfl, rfl, hH, hB, hz, q⟩ := h
 cases rx
 cases ry
 obtain ⟨z, its, n, r, hl, e⟩ := I.pO hH
 obtain ⟨z2, dg, n2, r2, fY, e2⟩ := I.pO hB
 refine PySem.P.add_list e e2 ?_ (by rw [List.size_toArray, List.size_toArray]; omega)
 have ea : its.toArray ++ dg.toArray = (its ++ dg).toArray := by simp
 rw [ea]
 exact ⟨.ref _, _, I.EB (t' := s.toks) (r.append r2) (by rw [List.length_append]; omega), rfl, q _ I.fresh⟩
theorem len_rep {α : Type} (xs : List α) (k : Nat) : (List.replicate k xs).flatten.length = k * xs.length := by
 induction k with
 | zero => simp
 | succ k ih => rw [List.replicate_succ, List.flatten_cons, List.length_append, ih, Nat.succ_mul, Nat.add_comm]
end
end L2
namespace Fb
open PySem PySem.W PySem.Calls PyProof.Rows
theorem IK {P : Params} {h : Heap} : ∀ (ns : List Int) (vs : List Value), WellAll P h vs (ns.map WData.int) -> IntsAre vs ns := by
 intro ns
 induction ns with
 | nil =>
  intro vs w
  rw [List.map_nil] at w
  cases w
  exact .nil
 | cons n ns ih =>
  intro vs w
  rw [List.map_cons] at w
  cases w with
  | cons a b =>
   cases a
   exact .cons _ _ (ih _ b)
theorem OV {l : OpenLaw} {n : Nat} (hn : l.most = some n) {P : Params} {h : Heap} {args : List WData} {vals : List Value}
  (uj : l.row.toRowW.claim.pre args = true) (yG : WellAll P h vals args) :
  ∃ a vs ns, vals = [Value.ref a] /\ args = [WData.list (ns.map WData.int)] /\ h.get? a = some { cls := .type "list", data := .seq vs.toArray } /\ IntsAre vs ns /\ ns.length <= n := by
 have Zj : WShape.hasAll [] args [.list .int] = true := (pre_splitW uj).1
 have hc : l.pre.holds [] { args := args } = true := (pre_splitW uj).2
 obtain ⟨d, r, rfl, h1, h2⟩ := hasAllW_cons Zj
 obtain rfl := hasAllW_nil h2
 obtain ⟨xs, rfl, h3⟩ := hasW_list h1
 obtain ⟨ns, rfl⟩ := items_int h3
 have bz : ns.length <= n := by
  unfold OpenLaw.pre at hc
  have h4 : (WTm.not (.lt (.lit (.int (n : Int))) (.len (.arg 0)))).holds [] { args := [.list (ns.map .int)] } = true := by
   have h4 := (holds_andW hc).1
   rw [hn] at h4
   exact h4
  have h5 := condW_of h4 (w_not (w_lt w_lit (w_len_list (w_arg rfl))))
  rw [List.length_map] at h5
  refine Nat.le_of_not_lt fun q => ?_
  have q' : (n : Int) < ((ns.length : Nat) : Int) := by omega
  first
   | (rw [decide_eq_true q'] at h5; exact absurd h5 (by decide))
   | (simp at h5; omega)
 cases yG with
 | cons w1 w2 =>
  cases w2
  cases w1 with
  | list ho xW => exact ⟨_, _, ns, rfl, rfl, ho, IK ns _ xW, bz⟩
theorem OW (l : OpenLaw) (args : List WData) : l.row.toRowW.claim.post args (.bool true) args = true :=
 postW_of (r := l.row.toRowW) (X := (true == true))
  (show WShape.has [] (.bool true) .bool = true by first | rfl | decide | simp [WShape.has, WShape.arms, WShape.armsAll])
  (show (WTm.eq .res (.lit (.bool true))).value [] { args := args, res := some (.bool true), after := args } = some (.bool (true == true)) from w_eq_bool (w_res rfl) w_lit) rfl
theorem Nb {l : OpenLaw} {n : Nat} {q : Program} {loose : List Str} {XP : (Str -> Option Value) -> Heap -> Prop} {YP : World -> Heap -> Prop} {d : DefRec}
  (hn : l.most = some n) (mK : d.params.defaults = [])
  (call : ∀ (w : World) (aA bA : Shared) (mg mb : Str -> Option Value) (fa : Addr) (o : Obj) (pm cd doc : Value) (a : Addr) (vs : List Value) (ns : List Int),
   Ground q loose [] XP w aA mg mb bA.heap -> YP w bA.heap →
   bA.heap.get? fa = some o -> o.data = .func (docDef d.name d.params d.body d.scope pm cd doc) -> bA.heap.CodeRec cd d.name -> mg d.name = some (.ref fa) →
   bA.heap.get? a = some { cls := .type "list", data := .seq vs.toArray } -> IntsAre vs ns -> ns.length <= n -> bA.gens = #[] →
   codeAny (model l.prog w) callerA (.call (.ref fa) ⟨[.ref a], []⟩) (fun r s' => r = .ok (.ret (.bool true)) /\ OldK bA.heap s'.heap /\ s'.os = bA.os /\ AllBare s'.gens) bA) :
  WalkO q loose XP YP l.row.toRowW d [] (fun f vs => PySem.call f vs) := by
 intro w aA bA mg mb G Y fa o pm cd doc dV kV ho hd hcd hD hmg hg args vals as uj aan hrd yG hlo
 obtain rfl : dV = .none := Dflts.none hD mK
 obtain rfl : kV = .none := Dflts.noKw hD
 obtain ⟨a, vs, ns, rfl, rfl, xX, xJ, bz⟩ := OV hn uj yG
 refine enter_call (codeAny_mono (call w aA bA mg mb fa o pm cd doc a vs ns G Y ho (fd_plain hd) hcd hmg xX xJ bz hg) fun r s' hq => ?_)
 obtain ⟨rfl, h2, h3, h4⟩ := hq
 exact ⟨.inl ⟨.bool true, .bool true, [], rfl, fun _ => rfl, .bool true, OW l _, fun _ => ⟨List.Pairwise.nil, fun _ hm => (nomatch hm)⟩⟩, h2, h3, h4⟩
end Fb
namespace L2
open PySem PySem.Spec PyProof.Rows
theorem Be : ∀ {vs : List Value} {ns : List Int}, IntsAre vs ns -> Vals (ns.map V.int) vs
 | _, _, .nil => .nil
 | _, _, .cons n t h => .cons ⟨t, rfl⟩ (Be h)
def pP (H : Hp) : Prop := ∀ b, H b = none \/ ∃ o xs, H b = some (.bu o (.lst xs))
theorem PZ {P : Program} {w : World} {K : PySem.W.Frag} {mg mb : Str -> Option Value} {CX : fG} {k : Nat} {fa a : Addr} {fd : FuncData} {x : Str} {sp : Sp} {bA : Shared} {vs : List Value} {ns : List Int}
  (KX : K.In bA.heap) (bD : bA.heap.Ns mainGlobals mg) (hb : bA.heap.Ns builtinsNs mb) (uM : ∀ x : Str, x ≠ "__name__" -> mb x = bootBuiltins x) (Yi : bA.heap.NoLimit) (hg : bA.gens = #[])
  (ha : bA.heap.get? a = some { cls := .type "list", data := .seq vs.toArray }) (hi : IntsAre vs ns) (hl : ns.length <= sizeLine) (hr : bV k callerA)
  (F : ∀ base : Heap, K.In base -> base.Ns mainGlobals mg -> bp P w K mg base CX k fa fd [x] sp) (WG : ∀ (s : Shared) (u : Value), BindsTo s fd ⟨[u], []⟩ [(x, u)])
  (lb : ∀ H : Hp, pP H -> bb K H a (ns.map V.int) -> sp [.ref a] H (fun v _ => v = .bl true) fun _ _ _ => False)
  (yH : ∀ H e s', CX [] H bA (fun _ _ _ => False) e s' -> False) :
  codeAny (model P w) callerA (.call (.ref fa) ⟨[.ref a], []⟩) (fun r s' => r = .ok (.ret (.bool true)) /\ OldK bA.heap s'.heap /\ s'.os = bA.os /\ AllBare s'.gens) bA := by
 have rv := Be hi
 have Yj := hi.length
 have core : ∀ H : Hp, pP H -> bb K H a (ns.map V.int) -> bX P w H bA.heap -> (∀ b, H b ≠ none -> b = a) -> (H a ≠ none -> K.lookup a = none) →
   codeAny (model P w) callerA (.call (.ref fa) ⟨[.ref a], []⟩) (fun r s' => r = .ok (.ret (.bool true)) /\ OldK bA.heap s'.heap /\ s'.os = bA.os /\ AllBare s'.gens) bA := by
  intro H hO hS aF hA hK
  have B9 : ∀ {b : Addr} {o : Obj}, bA.heap.get? b = some o -> H b = none -> (jO bA.heap H).get? b = some o := fun e n => PK e n
  have qo : ∀ {b : Addr} {o : Obj} {es : Array DictEntry} {ep : Nat}, bA.heap.get? b = some o -> o.data = .dict es ep -> H b = none := fun {b o es ep} e d => by
   cases q : H b with
   | none => rfl
   | some u =>
    have e' : b = a := hA b (by rw [q]; simp)
    subst e'
    rw [ha] at e; cases e
    have d' : Data.seq vs.toArray _ = Data.dict es ep := d
    cases d'
  have uN : ∀ {b : Addr} {m : Str -> Option Value}, bA.heap.Ns b m -> (jO bA.heap H).Ns b m := fun {b m} ⟨o, es, ep, e, d, r⟩ => ⟨o, es, ep, B9 e (qo e d), d, r⟩
  have Fc : K.In (jO bA.heap H) := fun b o e => B9 (KX b o e) (by
   cases q : H b with
   | none => rfl
   | some u =>
    have e' : b = a := hA b (by rw [q]; simp)
    subst e'
    rw [hK (by rw [q]; simp)] at e; cases e)
  have hM : Mod K mg (jO bA.heap H) := ⟨Fc, uN bD, ⟨mb, uN hb, uM⟩, let ⟨mc, h1, h2⟩ := Yi; ⟨mc, uN h1, h2⟩⟩
  have e0 : i5 P w K mg (jO bA.heap H) callerA [] bA H := ⟨rfl, hM, fun b o e => Q7 e, Nat.le_of_eq (OK _ _), trivial, fun b hb => absurd (show b ∈ ([] : List Addr) from hb) (by simp), aF, .of_eq hg⟩
  refine codeAny_mono ((F _ Fc (uN bD)).run callerA [] bA H ⟨[.ref a], []⟩ [.ref a] [.ref a] _ _ hr e0 (WG bA (.ref a)) (.cons rfl .nil) (lb H hO hS)) fun r s' h => ?_
  cases r with
  | error e => exact (yH H e s' h).elim
  | ok fl =>
   cases fl with
   | next => exact False.elim h
   | brk => exact False.elim h
   | cont => exact False.elim h
   | ret u =>
    obtain ⟨v, H', os, bare, un, Yk, r', q⟩ := h
    have q' : v = .bl true := q
    subst q'
    obtain rfl : u = Value.bool true := r'
    refine ⟨rfl, OldK.of_keep fun b o e => ?_, os, bare⟩
    cases q : H b with
    | none => exact un.keep b o e q (by intro z; exact absurd (show b ∈ ([] : List Addr) from z) (by simp)) (by simp)
    | some u =>
     rcases hO b with z | ⟨ob, xs, z⟩
     ·rw [q] at z; cases z
     ·have z2 := un.dC b ob _ z
      obtain ⟨e1, _⟩ := aF b _ z
      obtain ⟨e2, _⟩ := Yk b _ z2
      rw [e] at e1; cases e1
      exact e2
 cases hk : K.lookup a with
 | some o =>
  have e := KX a o hk
  rw [ha] at e
  cases e
  refine core (fun _ => none) (fun _ => .inl rfl) (.inr ⟨_, vs.toArray, _, hk, rfl, rfl, rfl, by rw [List.size_toArray, Yj]; exact hl, by simpa using rv⟩) (fun b u z => by have z' : (none : Option HO) = some u := z; cases z') (fun b z => absurd rfl z) fun z => absurd rfl z
 | none =>
  refine core (fun b => if b = a then some (.bu { cls := .type "list", data := .seq vs.toArray } (.lst (ns.map V.int))) else none) (fun b => ?_) (.inl (.inr ⟨{ cls := .type "list", data := .seq vs.toArray }, if_pos rfl⟩)) (fun b u z => ?_) (fun b z => ?_) fun _ => hk
  ·by_cases hb : b = a
   ·exact .inr ⟨_, _, if_pos hb⟩
   ·exact .inl (if_neg hb)
  ·by_cases hb : b = a
   ·have z' := (if_pos hb).symm.trans z
    cases z'
    subst hb
    exact ⟨ha, by rw [List.length_map]; exact hl, vs, _, rv, ha⟩
   ·have z' := (if_neg hb).symm.trans z
    cases z'
  ·by_cases hb : b = a
   ·exact hb
   ·exact absurd (if_neg hb) z
theorem Rv {l : PySem.W.OpenLaw} {n k : Nat} {q : Program} {loose : List Str} {XP : (Str -> Option Value) -> Heap -> Prop} {YP : World -> Heap -> Prop} {d : DefRec} {K : Params -> PySem.W.Frag} {CX : World -> fG} {sp : World -> Sp} {x : Str}
  (hn : l.most = some n) (kd : n <= sizeLine) (mK : d.params.defaults = []) (hr : bV k callerA)
  (hY : ∀ (w : World) (h : Heap), YP w h -> (K w.params).In h)
  (F : ∀ (w : World) (mg : Str -> Option Value) (fa : Addr) (h : Heap), (K w.params).In h -> h.Ns mainGlobals mg -> mg d.name = some (.ref fa) →
   ∃ fd : FuncData, (∀ (s : Shared) (u : Value), BindsTo s fd ⟨[u], []⟩ [(x, u)]) /\
    ∀ base : Heap, (K w.params).In base -> base.Ns mainGlobals mg -> bp l.prog w (K w.params) mg base (CX w) k fa fd [x] (sp w))
  (lb : ∀ (w : World) (H : Hp) (a : Addr) (ns : List Int), ns.length <= n -> pP H -> bb (K w.params) H a (ns.map V.int) -> sp w [.ref a] H (fun v _ => v = .bl true) fun _ _ _ => False)
  (yH : ∀ (w : World) (H : Hp) (s : Shared) (e : Value) (s' : Shared), CX w [] H s (fun _ _ _ => False) e s' -> False) :
  PySem.W.WalkO q loose XP YP l.row.toRowW d [] (fun f vs => PySem.call f vs) := by
 refine Fb.Nb hn mK fun w aA bA mg mb fa o pm cd doc a vs ns G Y ho hd hcd hmg xX xJ bz hg => ?_
 have KX := hY w _ Y
 obtain ⟨fd, hb, hF⟩ := F w mg fa _ KX G.T.g hmg
 exact PZ KX G.T.g G.T.b G.T.builtins G.T.nolimit hg xX xJ (Nat.le_trans bz kd) hr hF hb (fun H hO hS => lb w H a ns bz hO hS) fun H e s' => yH w H bA e s'
def inClass (s : Stmt) (j : Nat) : Stmt := match s with
 | .ClassDef _ _ _ body _ _ _ _ _ _ _ => body.getD j (.Pass ⟨0, 0, 0, 0⟩)
 | _ => .Pass ⟨0, 0, 0, 0⟩
def b3 (s : Stmt) : Arguments := match s with
 | .FunctionDef _ a _ _ _ _ _ _ _ _ => a
 | _ => { posonlyargs := [], args := [], vararg := none, kwonlyargs := [], kw_defaults := [], kwarg := none, defaults := [] }
def aW (s : Stmt) : List Stmt := match s with
 | .FunctionDef _ _ b _ _ _ _ _ _ _ => b
 | _ => []
def af (s : Stmt) : Scope := match s with
 | .FunctionDef _ _ _ _ _ _ sc _ _ _ => sc
 | _ => { kind := .function, names := [], isGenerator := false, isCoroutine := false }
abbrev Fd : fG := fun _ _ _ _ _ _ => False
structure bY (K : PySem.W.Frag) (x qual : Str) (st : Stmt) (f : Addr) (fd : FuncData) : Prop where
 ex : ∃ (oc : Value) (od : Option Addr) (kV doc pm : Value) (an : Option Addr) (bT ct : Value) (ic : Array (Option Value)),
  fd = PySem.W.fnOf x qual (b3 st) (aW st) (af st) .none kV doc pm an bT ct /\ K.lookup f = some ⟨oc, od, .func fd, ic⟩ /\ PySem.W.codeIn K bT qual = true
 kp : PySem.W.keepIn K (.ref f) = true
section
variable {P : Program} {w : World} {K : PySem.W.Frag} {mg : Str -> Option Value} {base : Heap}
theorem bY.ok {x qual : Str} {st : Stmt} {f : Addr} {fd : FuncData} {N ps : List Str} {k : Nat} {sp : Sp} (F : bY K x qual st f fd) (S : bZ N ps (af st)) (len : ∀ vs H Q E, sp vs H Q E -> vs.length = ps.length)
  (l6 : ∀ (bT : Value) (A : Around) (outer : List Env) (s : Shared) (H : Hp) (vs : List V) (Q : VK) (E : XK), bV k (A.deeper (envOfC qual (af st) s.heap.objs.size f bT)) -> sp vs H Q E →
   ∃ t, dO (i6 Fd P w K mg base N qual (af st) f bT A outer s H E).j7 (aW st) t /\ t { nx := fun _ H' => Q .az H', rt := Q } (start N vs) H) : bp P w K mg base Fd (k + 1) f fd ps sp := by
 obtain ⟨oc, od, kV, doc, pm, an, bT, ct, ic, rfl, lk, hcd⟩ := F.ex
 refine DR lk hcd S len fun A outer s H vs Q E hr lb => ?_
 obtain ⟨t, h, q⟩ := l6 bT A outer s H vs Q E hr lb
 exact ⟨t, h.j7, q⟩
theorem bY.binds {x qual : Str} {st : Stmt} {f : Addr} {fd : FuncData} {ps : List Str} (F : bY K x qual st f fd)
  (h : ∀ (kV doc pm : Value) (an : Option Addr) (bT ct : Value) (us : List Value), us.length = ps.length -> bindArgs (PySem.W.fnOf x qual (b3 st) (aW st) (af st) .none kV doc pm an bT ct) ⟨us, []⟩ = pure (ps.zip us)) : Binds K fd ps [] := by
 obtain ⟨oc, od, kV, doc, pm, an, bT, ct, ic, rfl, lk, hcd⟩ := F.ex
 exact .all (h kV doc pm an bT ct)
theorem cB {x qual : Str} {st : Stmt} {f : Addr} {oc : Value} {od an : Option Addr} {ic : Array (Option Value)} {kV doc pm bT ct : Value} (l : K.lookup f = some ⟨oc, od, .func (PySem.W.fnOf x qual (b3 st) (aW st) (af st) .none kV doc pm an bT ct), ic⟩)
  (c : PySem.W.codeIn K bT qual = true) (k : PySem.W.keepIn K (.ref f) = true) : bY K x qual st f (PySem.W.fnOf x qual (b3 st) (aW st) (af st) .none kV doc pm an bT ct) := ⟨⟨oc, od, kV, doc, pm, an, bT, ct, ic, rfl, l, c⟩, k⟩
end
theorem px {A : Around} {k : Nat} (hr : bV k A) : A.units + 1 < cLine := Nat.lt_of_le_of_lt (Nat.add_le_add_left (by decide : 1 <= 64) _) hr.units
theorem mz {A B : Prop} (h : B) : if false = true then A else B := by
 rw [if_neg Bool.false_ne_true]
 exact h
theorem mB {A B : Prop} (h : A) : if true = true then A else B := by
 rw [if_pos rfl]
 exact h
def i7 (H H' : Hp) : Prop := ∀ b o, H b = some o -> H' b = some o
theorem i7.refl (H : Hp) : i7 H H := fun _ _ h => h
theorem i7.trans {H H1 H2 : Hp} (a : i7 H H1) (b : i7 H1 H2) : i7 H H2 := fun c o h => b c o (a c o h)
theorem i7.free {H H' : Hp} (e : i7 H H') {l : Addr} (h : H' l = Option.none) : H l = Option.none := by
 cases q : H l with
 | none => rfl
 | some o =>
  rw [e l o q] at h
  cases h
theorem i7.seq {K : PySem.W.Frag} {H H' : Hp} {a : Addr} {xs : List V} (e : i7 H H') (h : bb K H a xs) : bb K H' a xs := by
 rcases h with (h | ⟨o, h⟩) | h
 ·exact .inl (.inl (e _ _ h))
 ·exact .inl (.inr ⟨o, e _ _ h⟩)
 ·exact .inr h
section
variable {κ : Type} [DecidableEq κ]
def d4 (kvs : List (κ × V)) (k : κ) : Option V := (kvs.find? fun kv => decide (kv.1 = k)).map (·.2)
def putK (kvs : List (κ × V)) (k : κ) (v : V) : List (κ × V) :=
 if (kvs.any fun kv => decide (kv.1 = k)) = true then kvs.map (fun kv => if kv.1 = k then (kv.1, v) else kv) else kvs ++ [(k, v)]
def DS (kvs : List (κ × V)) (k : κ) : List (κ × V) := kvs.filter fun kv => decide (kv.1 ≠ k)
theorem oS {p : κ × V} {r : List (κ × V)} {k : κ} (e : p.1 = k) : d4 (p :: r) k = some p.2 := by simp [d4, List.find?_cons, e]
theorem oT {p : κ × V} {r : List (κ × V)} {k : κ} (e : ¬ p.1 = k) : d4 (p :: r) k = d4 r k := by simp [d4, List.find?_cons, e]
theorem Bz (k : κ) : ∀ kvs : List (κ × V), (kvs.any fun kv => decide (kv.1 = k)) = (d4 kvs k).isSome
 | [] => rfl
 | p :: r => by
  rw [List.any_cons]
  by_cases e : p.1 = k
  ·simp only [oS e, decide_eq_true e, Bool.true_or, Option.isSome_some]
  ·rw [oT e, decide_eq_false e, Bool.false_or]; exact Bz k r
theorem sg (kvs : List (κ × V)) (k : κ) (v : V) : (putK kvs k v).length <= kvs.length + 1 := by
 unfold putK
 split
 ·rw [List.length_map]; omega
 ·rw [List.length_append, List.length_cons, List.length_nil]; omega
theorem eQ.oP {o : Option V} {u : Option Value} (r : eQ o u) : o.isSome = u.isSome := by
 cases o with
 | none => cases u with
  | none => rfl
  | some _ => exact (show False from r).elim
 | some _ => cases u with
  | none => exact (show False from r).elim
  | some _ => rfl
theorem eQ.getD {o : Option V} {u : Option Value} {d : V} {d' : Value} (r : eQ o u) (rd : RelV d d') : RelV (o.getD d) (u.getD d') := by
 cases o with
 | none => cases u with
  | none => exact rd
  | some _ => exact (show False from r).elim
 | some _ => cases u with
  | none => exact (show False from r).elim
  | some _ => exact r
theorem KV.val {kvs : List (κ × V)} {vs : List (κ × Value)} (r : KV kvs vs) (k : κ) : eQ (d4 kvs k) (valueAt vs k) := by
 unfold KV at r
 induction r with
 | nil => exact True.intro
 | @cons p q ps qs h t ih =>
  obtain ⟨h1, h2⟩ := h
  by_cases e : p.1 = k
  ·have e' : q.1 = k := h1.symm.trans e
   have b : valueAt (q :: qs) k = some q.2 := by simp [valueAt, List.find?_cons, e']
   rw [oS e, b]; exact h2
  ·have e' : ¬ q.1 = k := fun z => e (h1.trans z)
   have b : valueAt (q :: qs) k = valueAt qs k := by simp [valueAt, List.find?_cons, e']
   rw [oT e, b]; exact ih
theorem KV.any {kvs : List (κ × V)} {vs : List (κ × Value)} (r : KV kvs vs) (k : κ) : (kvs.any fun kv => decide (kv.1 = k)) = vs.any fun kv => decide (kv.1 = k) := by
 unfold KV at r
 induction r with
 | nil => rfl
 | cons h t ih => rw [List.any_cons, List.any_cons, ih, h.1]
theorem KV.hU {kvs : List (κ × V)} {vs : List (κ × Value)} (r : KV kvs vs) (k : κ) {y : V} {u : Value} (ry : RelV y u) :
  KV (kvs.map fun kv => if kv.1 = k then (kv.1, y) else kv) (vs.map fun kv => if kv.1 = k then (kv.1, u) else kv) := by
 unfold KV at r ⊢
 induction r with
 | nil => exact .nil
 | @cons p q ps qs h t ih =>
  rw [List.map_cons, List.map_cons]
  refine .cons ?_ ih
  obtain ⟨h1, h2⟩ := h
  by_cases e : p.1 = k
  ·rw [if_pos e, if_pos (h1.symm.trans e)]; exact ⟨h1, ry⟩
  ·rw [if_neg e, if_neg (fun z => e (h1.trans z))]; exact ⟨h1, h2⟩
theorem KV.put {kvs : List (κ × V)} {vs : List (κ × Value)} (r : KV kvs vs) (k : κ) {y : V} {u : Value} (ry : RelV y u) : KV (putK kvs k y) (stored vs k u) := by
 unfold putK stored
 rw [r.any k]
 by_cases e : (vs.any fun kv => decide (kv.1 = k)) = true
 ·rw [if_pos e, if_pos e]; exact r.hU k ry
 ·rw [if_neg e, if_neg e]; exact Paired.snoc r ⟨rfl, ry⟩
theorem KV.drop {kvs : List (κ × V)} {vs : List (κ × Value)} (r : KV kvs vs) (k : κ) : KV (DS kvs k) (without vs k) := by
 unfold KV at r ⊢
 unfold DS without
 induction r with
 | nil => exact .nil
 | @cons p q ps qs h t ih =>
  obtain ⟨h1, h2⟩ := h
  rw [List.filter_cons, List.filter_cons]
  by_cases e : p.1 = k
  ·have a : ¬ decide (p.1 ≠ k) = true := by simp [e]
   have b : ¬ decide (q.1 ≠ k) = true := by simp [h1.symm.trans e]
   rw [if_neg a, if_neg b]; exact ih
  ·have e' : ¬ q.1 = k := fun z => e (h1.trans z)
   have a : decide (p.1 ≠ k) = true := by simp [e]
   have b : decide (q.1 ≠ k) = true := by simp [e']
   rw [if_pos a, if_pos b]; exact .cons ⟨h1, h2⟩ ih
theorem KV.keys {kvs : List (κ × V)} {vs : List (κ × Value)} (r : KV kvs vs) : kvs.map (·.1) = vs.map (·.1) := by
 unfold KV at r
 induction r with
 | nil => rfl
 | cons h t ih => rw [List.map_cons, List.map_cons, ih, h.1]
theorem KV.length {kvs : List (κ × V)} {vs : List (κ × Value)} (r : KV kvs vs) : kvs.length = vs.length := Paired.length r
end
theorem kS {P : Program} {w : World} {k : Key} {u : Value} (r : RelV (kV k) u) : (bi P w).is k u = true := by
 cases k with
 | inl i => obtain ⟨t, e⟩ := (show ∃ t, u = Value.int i t from r); subst e; exact M8 P w i t
 | inr x => obtain ⟨t, e⟩ := (show ∃ t, u = Value.str x t from r); subst e; exact M9 P w x t
theorem Bf {P : Program} {w : World} : ∀ {ks : List Key} {us : List Value}, Vals (ks.map kV) us -> ItemsAre (bi P w) ks us
 | [], _, r => by rw [List.map_nil] at r; cases r; exact .nil
 | k :: ks, _, r => by
  rw [List.map_cons] at r
  cases r with
  | cons h t => exact .cons (kS h) (Bf t)
abbrev KT (H : Hp) : List (List Key × V) -> List (List Key × Addr × Value) -> Prop := Paired fun p q => p.1 = q.1 /\ H q.2.1 = some (.tup (p.1.map kV)) /\ RelV p.2 q.2.2
theorem KT.val {H : Hp} {kvs : List (List Key × V)} {xs : List (List Key × Addr × Value)} (r : KT H kvs xs) (k : List Key) : eQ (d4 kvs k) ((atKey xs k).map (·.2)) := by
 induction r with
 | nil => exact True.intro
 | @cons p q ps qs h t ih =>
  obtain ⟨h1, _, h2⟩ := h
  by_cases e : p.1 = k
  ·have e' : q.1 = k := h1.symm.trans e
   have b : atKey (q :: qs) k = some q.2 := by simp [atKey, List.find?_cons, e']
   rw [oS e, b]; exact h2
  ·have e' : ¬ q.1 = k := fun z => e (h1.trans z)
   have b : atKey (q :: qs) k = atKey qs k := by simp [atKey, List.find?_cons, e']
   rw [oT e, b]; exact ih
theorem KT.hU {H : Hp} {kvs : List (List Key × V)} {xs : List (List Key × Addr × Value)} (r : KT H kvs xs) (k : List Key) {y : V} {u : Value} (ry : RelV y u) :
  KT H (kvs.map fun kv => if kv.1 = k then (kv.1, y) else kv) (xs.map (putAt k u)) := by
 induction r with
 | nil => exact .nil
 | @cons p q ps qs h t ih =>
  rw [List.map_cons, List.map_cons]
  refine .cons ?_ ih
  obtain ⟨h1, h2, h3⟩ := h
  unfold putAt
  by_cases e : p.1 = k
  ·rw [if_pos e, if_pos (h1.symm.trans e)]; exact ⟨h1, h2, ry⟩
  ·rw [if_neg e, if_neg (fun z => e (h1.trans z))]; exact ⟨h1, h2, h3⟩
theorem KT.put {H : Hp} {kvs : List (List Key × V)} {xs : List (List Key × Addr × Value)} (r : KT H kvs xs) (k : List Key) {b : Addr} {y : V} {u : Value} (hb : H b = some (.tup (k.map kV))) (ry : RelV y u) :
  KT H (putK kvs k y) (storedH xs k b u) := by
 have e : (kvs.any fun kv => decide (kv.1 = k)) = (atKey xs k).isSome := by
  rw [Bz, (r.val k).oP, Option.isSome_map]
 unfold putK storedH
 rw [e]
 by_cases q : (atKey xs k).isSome = true
 ·rw [if_pos q, if_pos q]; exact r.hU k ry
 ·rw [if_neg q, if_neg q]; exact Paired.snoc r ⟨rfl, hb, ry⟩
theorem KT.keeps {H H' : Hp} {kvs : List (List Key × V)} {xs : List (List Key × Addr × Value)} (r : KT H kvs xs) (ht : ∀ b ys, H b = some (.tup ys) -> H' b = some (.tup ys)) : KT H' kvs xs :=
 Paired.i4 r fun _ _ z => ⟨z.1, ht _ _ z.2.1, z.2.2⟩
section
variable {P : Program} {w : World} {H : Hp} {h : Heap} {a : Addr}
theorem DT {u : HO} (ok : bX P w H h) (e : Rd H a u) : b8 P w H h a u := e.ok ok
theorem l7 {kvs : List (Key × V)} (ok : bX P w H h) (e : Rd H a (.dK kvs)) : kvs.length <= sizeLine /\ (a == sysModules) = false /\ ∃ vs, KV kvs vs /\ h.DictOf (bi P w) a vs :=
 show b8 P w H h a (.dK kvs) from DT ok e
theorem nG {kvs : List (Key × V)} (ok : bX P w H h) (e : H a = some (.dK kvs)) : kvs.length <= sizeLine /\ (a == sysModules) = false /\ ∃ vs, KV kvs vs /\ h.DictOf (bi P w) a vs := l7 ok (.inl e)
theorem kQ {ks : List Key} (ok : bX P w H h) (e : H a = some (.tup (ks.map kV))) : (tupleKind (bi P w)).is h ks a := by
 obtain ⟨_, its, r, o, h1, h2, n, h3⟩ := (show b8 P w H h a (.tup (ks.map kV)) from ok a _ e)
 exact ⟨o, its.toArray, n, h1, h2, h3, by simpa using Bf r⟩
theorem l8 {kvs : List (List Key × V)} (ok : bX P w H h) (e : Rd H a (.dT kvs)) : kvs.length <= sizeLine /\ (a == sysModules) = false /\
  ∃ xs, KT H kvs xs /\ h.DictOfH (tupleKind (bi P w)) a xs := by
 obtain ⟨z, y, xs, r, o, es, ep, h1, h2, h3, h4, h5⟩ := (show b8 P w H h a (.dT kvs) from DT ok e)
 refine ⟨z, y, xs, r, o, es, ep, h1, h2, h3, h4, fun x hx => ?_, h5⟩
 have all : ∀ {l : List (List Key × V)} {m : List (List Key × Addr × Value)}, KT H l m -> ∀ x ∈ m, (tupleKind (bi P w)).is h x.1 x.2.1 := by
  intro l m q
  induction q with
  | nil => intro x hx; exact nomatch hx
  | @cons p q ps qs hq t ih =>
   intro x hx
   rcases List.mem_cons.mp hx with e | hx
   ·subst e
    exact kQ ok (by rw [<- hq.1]; exact hq.2.1)
   ·exact ih x hx
 exact all r x hx
theorem nH {kvs : List (List Key × V)} (ok : bX P w H h) (e : H a = some (.dT kvs)) : kvs.length <= sizeLine /\ (a == sysModules) = false /\
  ∃ xs, KT H kvs xs /\ h.DictOfH (tupleKind (bi P w)) a xs := l8 ok (.inl e)
end
def dh (H : Hp) (a : Addr) (y : V) (r : Option V) : Prop :=
 (∃ kvs k, Rd H a (.dK kvs) /\ y = kV k /\ r = d4 kvs k) \/ ∃ kvs k b, Rd H a (.dT kvs) /\ y = .ref b /\ H b = some (.tup (k.map kV)) /\ r = d4 kvs k
def hV (H : Hp) (a : Addr) (y v : V) (H' : Hp) : Prop :=
 (∃ kvs k, H a = some (.dK kvs) /\ y = kV k /\ kvs.length < sizeLine /\ H' = upd H a (.dK (putK kvs k v))) \/
 ∃ kvs k b, H a = some (.dT kvs) /\ y = .ref b /\ H b = some (.tup (k.map kV)) /\ kvs.length < sizeLine /\ H' = upd H a (.dT (putK kvs k v))
theorem dh.k {H : Hp} {a : Addr} {kvs : List (Key × V)} {k : Key} (e : H a = some (.dK kvs)) : dh H a (kV k) (d4 kvs k) := .inl ⟨kvs, k, .inl e, rfl, rfl⟩
theorem dh.t {H : Hp} {a b : Addr} {kvs : List (List Key × V)} {k : List Key} (e : H a = some (.dT kvs)) (eb : H b = some (.tup (k.map kV))) : dh H a (.ref b) (d4 kvs k) := .inr ⟨kvs, k, b, .inl e, rfl, eb, rfl⟩
theorem hV.k {H : Hp} {a : Addr} {kvs : List (Key × V)} {k : Key} {v : V} (e : H a = some (.dK kvs)) (hl : kvs.length < sizeLine) : hV H a (kV k) v (upd H a (.dK (putK kvs k v))) := .inl ⟨kvs, k, e, rfl, hl, rfl⟩
theorem hV.t {H : Hp} {a b : Addr} {kvs : List (List Key × V)} {k : List Key} {v : V} (e : H a = some (.dT kvs)) (eb : H b = some (.tup (k.map kV))) (hl : kvs.length < sizeLine) :
  hV H a (.ref b) v (upd H a (.dT (putK kvs k v))) := .inr ⟨kvs, k, b, e, rfl, eb, hl, rfl⟩
section
variable {X : Cx} {pins : List (Addr × Obj)} {σ : St} {H : Hp} {s : Shared} {a : Addr} {y v : V} {u r : Value} {o : Option V} {A : Around} {E : Value -> Shared -> Prop}
theorem Inv.big (I : Inv X pins σ H s) : sysModules < s.heap.objs.size := by
 have h : mainGlobals < s.heap.objs.size := (I.mod.glob.keeps I.bk).lt
 exact Nat.lt_trans (by decide) h
theorem OX {Q : Value -> Shared -> Prop} (hu : A.units + 1 < cLine) (I : Inv X pins σ H s) (g : dh H a y (some v)) (ry : RelV y u) (h : ∀ w' s', Inv X pins σ H s' -> RelV v w' -> Q w' s') :
  wpAny (model X.prog X.w) A (getItem (.ref a) u) Q E s := by
 rcases g with ⟨kvs, k, e, ey, l⟩ | ⟨kvs, k, b, e, ey, eb, l⟩
 ·subst ey
  obtain ⟨z, hd, vs, rel, dd⟩ := l7 I.aF e
  obtain ⟨w', hw, cR⟩ := eQ.some_of (v := v) (o := valueAt vs k) (by rw [l]; exact rel.val k)
  exact wpAny_getItem_of (kS ry) dd.mapOf hw (h w' _ (I.tok _) cR)
 ·subst ey
  cases (show u = Value.ref b from ry)
  obtain ⟨z, hd, xs, rel, dd⟩ := l8 I.aF e
  obtain ⟨w', hw, cR⟩ := eQ.some_of (v := v) (o := (atKey xs k).map (·.2)) (by rw [l]; exact rel.val k)
  obtain ⟨p, hp, Zk⟩ := Option.map_eq_some_iff.mp hw
  refine wpAny_getItem_heap (tupleKind_room_in1 hu) (kQ I.aF eb) dd hp ?_
  rw [Zk]
  exact h w' _ (I.tok _) cR
theorem xY {Q : Value -> Shared -> Prop} (hu : A.units + 1 < cLine) (I : Inv X pins σ H s) (g : dh H a y o) (ry : RelV y u) (h : ∀ s', Inv X pins σ H s' -> Q (.bool o.isSome) s') :
  wpAny (model X.prog X.w) A (compareOp .In u (.ref a)) Q E s := by
 rcases g with ⟨kvs, k, e, ey, l⟩ | ⟨kvs, k, b, e, ey, eb, l⟩
 ·subst ey
  obtain ⟨z, hd, vs, rel, dd⟩ := l7 I.aF e
  refine wpAny_in_of (kS ry) hd dd.mapOf ?_
  rw [<- (rel.val k).oP, <- l]
  exact h _ (I.tok _)
 ·subst ey
  cases (show u = Value.ref b from ry)
  obtain ⟨z, hd, xs, rel, dd⟩ := l8 I.aF e
  refine wpAny_in_heap (tupleKind_room_in1 hu) (kQ I.aF eb) hd dd ?_
  have q := (rel.val k).oP
  rw [Option.isSome_map] at q
  rw [<- q, <- l]
  exact h _ (I.tok _)
theorem wI {Q : Value -> Shared -> Prop} (hu : A.units + 1 < cLine) (I : Inv X pins σ H s) (g : dh H a y o) (ry : RelV y u) (h : ∀ s', Inv X pins σ H s' -> Q (.bool (!o.isSome)) s') :
  wpAny (model X.prog X.w) A (compareOp .NotIn u (.ref a)) Q E s := by
 rcases g with ⟨kvs, k, e, ey, l⟩ | ⟨kvs, k, b, e, ey, eb, l⟩
 ·subst ey
  obtain ⟨z, hd, vs, rel, dd⟩ := l7 I.aF e
  refine wpAny_notIn_of (kS ry) hd dd.mapOf ?_
  rw [<- (rel.val k).oP, <- l]
  exact h _ (I.tok _)
 ·subst ey
  cases (show u = Value.ref b from ry)
  obtain ⟨z, hd, xs, rel, dd⟩ := l8 I.aF e
  refine wpAny_notIn_heap (tupleKind_room_in1 hu) (kQ I.aF eb) hd dd ?_
  have q := (rel.val k).oP
  rw [Option.isSome_map] at q
  rw [<- q, <- l]
  exact h _ (I.tok _)
theorem nj {h' : Heap} {t' : Nat} {ob : HO} (I : Inv X pins σ H s) (mu : jf (H a)) (hs : Heap.SameBut a s.heap h') (he : ∃ q, h'.get? a = some q) (new : b8 X.prog X.w (upd H a ob) h' a ob) :
  Inv X pins σ (upd H a ob) { s with heap := h', toks := t' } :=
 I.write (x := a) (e := a) mu (.inl rfl) (fun b q hb z => (hs.2 b hb).trans z) he new
theorem C8 {P : Program} {w : World} {H' : Hp} {h' : Heap} {kvs : List (Key × V)} {vs : List (Key × Value)} (z : kvs.length <= sizeLine) (hd : (a == sysModules) = false) (rel : KV kvs vs) (dd : h'.DictOf (bi P w) a vs) :
  b8 P w H' h' a (.dK kvs) := ⟨z, hd, vs, rel, dd⟩
theorem vU {H' : Hp} {Q : Unit -> Shared -> Prop} (hu : A.units + 1 < cLine) (I : Inv X pins σ H s) (g : hV H a y v H') (ry : RelV y u) (rv : RelV v r) (h : ∀ s', Inv X pins σ H' s' -> Q () s') :
  wpAny (model X.prog X.w) A (setItem (.ref a) u r) Q E s := by
 rcases g with ⟨kvs, k, e, ey, l, eH⟩ | ⟨kvs, k, b, e, ey, eb, l, eH⟩
 ·subst ey eH
  obtain ⟨z, hd, vs, rel, dd⟩ := nG I.aF e
  have hz : vs.length <= sizeLine := by rw [<- rel.length]; exact z
  have hl : (putK kvs k v).length <= sizeLine := by have := sg kvs k v; omega
  refine wpAny_setItem_pairs (hsz := hz) (kS ry) dd fun h' ke hs => h _ ?_
  have he : ∃ q, h'.get? a = some q := let ⟨q, _, _, hq, _⟩ := ke; ⟨q, hq⟩
  exact nj I (by rw [e]; exact True.intro) hs he (C8 hl hd (rel.put k rv) ke)
 ·subst ey eH
  cases (show u = Value.ref b from ry)
  obtain ⟨z, hd, xs, rel, dd⟩ := nH I.aF e
  have hz : xs.length <= sizeLine := by rw [<- Paired.length rel]; exact z
  have hl : (putK kvs k v).length <= sizeLine := by have := sg kvs k v; omega
  refine wpAny_setItem_heap (hsz := hz) (tupleKind_room_in1 hu) (kQ I.aF eb) dd fun h' ke hs => h _ ?_
  obtain ⟨q, es, ep, hq, h2, h3, h4, _, h5⟩ := ke
  refine nj I (by rw [e]; exact True.intro) hs ⟨q, hq⟩ ⟨hl, hd, _, (rel.put k eb rv).keeps fun c ys ec => ?_, q, es, ep, hq, h2, h3, h4, h5⟩
  rw [aM (cY ec e (fun z => nomatch z))]
  exact ec
end
theorem Nc {X : Cx} {pins : List (Addr × Obj)} {σ : St} {H : Hp} {s : Shared} {a : Addr} {y : V} {o : Option V} (I : Inv X pins σ H s) (g : dh H a y o) : s.TypeIs (.ref a) "dict" := by
 rcases g with ⟨kvs, k, e, _, _⟩ | ⟨kvs, k, b, e, _, _, _⟩
 ·obtain ⟨_, _, vs, _, dd⟩ := l7 I.aF e
  exact dd.typeIs
 ·obtain ⟨_, _, xs, _, dd⟩ := l8 I.aF e
  exact dd.typeIs
theorem P0 {P : Program} {w : World} {H : Hp} (h : Heap) (hb : sysModules < h.objs.size) : b8 P w H (h.push { cls := .type "dict", data := .dict #[] }) h.objs.size (.dK []) :=
 ⟨Nat.zero_le _, beq_eq_false_iff_ne.mpr (Ne.symm (Nat.ne_of_lt hb)), [], .nil, Heap.DictOf.new h⟩
def T4 : TE := fun _ H Q => ∀ p, H p = none -> Q (.ref p) (upd H p (.dK []))
section
variable {X : Cx} {pos : Pos}
theorem P1 : PE X (.Dict [] [] pos) T4 := fun pins s σ H Q I h =>
 wpAny_Dict_empty ⟨.ref s.heap.objs.size, _, I.laid (a := s.heap.objs.size) (o := .dK []) (t' := s.toks) (fun _ _ q => Heap.get?_push_of_some _ q) (Nat.le_refl _) (P0 s.heap I.big), rfl, h _ (I.aF.fresh (Nat.le_refl _))⟩
end
section
variable {X : Cx} {pins : List (Addr × Obj)} {σ : St} {H : Hp} {s : Shared} {a : Addr} {y d : V} {u r : Value} {o : Option V} {A : Around} {E : Value -> Shared -> Prop}
theorem xl {Q : Value -> Shared -> Prop} (hu : A.units + 1 < cLine) (I : Inv X pins σ H s) (g : dh H a y o) (ry : RelV y u) (h : ∀ w' s', Inv X pins σ H s' -> RelV (o.getD .az) w' -> Q w' s') :
  wpAny (model X.prog X.w) A (call (.builtin "dict.get") [.ref a, u]) Q E s := by
 rcases g with ⟨kvs, k, e, ey, l⟩ | ⟨kvs, k, b, e, ey, eb, l⟩
 ·subst ey
  obtain ⟨z, hd, vs, rel, dd⟩ := l7 I.aF e
  refine call_meetsIn PySem.F.slot_dict_get dd.typeIs PySem.F.entry_dict_get (PySem.F.args_dict_get_2 _ _) (meets_dict_get (bi X.prog X.w) a (kS ry) hd) ⟨_, dd.mapOf, h _ _ (I.tok _) ?_⟩
  rw [l]
  exact (rel.val k).getD rfl
 ·subst ey
  cases (show u = Value.ref b from ry)
  obtain ⟨z, hd, xs, rel, dd⟩ := l8 I.aF e
  refine call_meetsIn PySem.F.slot_dict_get dd.typeIs PySem.F.entry_dict_get (PySem.F.args_dict_get_2 _ _) (meetsH_dict_get (tupleKind (bi X.prog X.w)) a b hd) ⟨tupleKind_room_in1 hu, k, xs, kQ I.aF eb, dd, h _ _ (I.tok _) ?_⟩
  rw [l]
  exact (rel.val k).getD rfl
theorem xm {Q : Value -> Shared -> Prop} (hu : A.units + 1 < cLine) (I : Inv X pins σ H s) (g : dh H a y o) (ry : RelV y u) (rd : RelV d r) (h : ∀ w' s', Inv X pins σ H s' -> RelV (o.getD d) w' -> Q w' s') :
  wpAny (model X.prog X.w) A (call (.builtin "dict.get") [.ref a, u, r]) Q E s := by
 rcases g with ⟨kvs, k, e, ey, l⟩ | ⟨kvs, k, b, e, ey, eb, l⟩
 ·subst ey
  obtain ⟨z, hd, vs, rel, dd⟩ := l7 I.aF e
  refine call_meetsIn PySem.F.slot_dict_get dd.typeIs PySem.F.entry_dict_get (PySem.F.args_dict_get_3 _ _ _) (meets_dict_get_default (bi X.prog X.w) a (kS ry) hd r) ⟨_, dd.mapOf, h _ _ (I.tok _) ?_⟩
  rw [l]
  exact (rel.val k).getD rd
 ·subst ey
  cases (show u = Value.ref b from ry)
  obtain ⟨z, hd, xs, rel, dd⟩ := l8 I.aF e
  refine call_meetsIn PySem.F.slot_dict_get dd.typeIs PySem.F.entry_dict_get (PySem.F.args_dict_get_3 _ _ _) (meetsH_dict_get_default (tupleKind (bi X.prog X.w)) a b hd r) ⟨tupleKind_room_in1 hu, k, xs, kQ I.aF eb, dd, h _ _ (I.tok _) ?_⟩
  rw [l]
  exact (rel.val k).getD rd
end
end L2
namespace IL
open PySem PySem.Spec PyProof.Rows L2
inductive W where
 | az | bl (b : Bool) | int (i : Int) | str (x : Str) | tup (ws : List W) | fl (ws : List W) | ref (i : Nat) | exc (c : Str) (ns : List Str) (ws : List W)
mutual
def W.dec : (a b : W) -> Decidable (a = b)
 | .az, .az => Decidable.isTrue rfl
 | .bl a, .bl b => if h : a = b then Decidable.isTrue (by rw [h]) else Decidable.isFalse (fun e => h (W.bl.inj e))
 | .int a, .int b => if h : a = b then Decidable.isTrue (by rw [h]) else Decidable.isFalse (fun e => h (W.int.inj e))
 | .str a, .str b => if h : a = b then Decidable.isTrue (by rw [h]) else Decidable.isFalse (fun e => h (W.str.inj e))
 | .tup a, .tup b => match W.ul a b with
  | Decidable.isTrue h => Decidable.isTrue (by rw [h])
  | Decidable.isFalse h => Decidable.isFalse (fun e => h (W.tup.inj e))
 | .fl a, .fl b => match W.ul a b with
  | Decidable.isTrue h => Decidable.isTrue (by rw [h])
  | Decidable.isFalse h => Decidable.isFalse (fun e => h (W.fl.inj e))
 | .ref a, .ref b => if h : a = b then Decidable.isTrue (by rw [h]) else Decidable.isFalse (fun e => h (W.ref.inj e))
 | .exc c ns a, .exc c' Zl b => match W.ul a b with
  | Decidable.isTrue h => if h1 : c = c' then if h2 : ns = Zl then Decidable.isTrue (by rw [h, h1, h2]) else Decidable.isFalse (fun e => h2 (W.exc.inj e).2.1) else Decidable.isFalse (fun e => h1 (W.exc.inj e).1)
  | Decidable.isFalse h => Decidable.isFalse (fun e => h (W.exc.inj e).2.2)
 | .az, .bl _ | .az, .int _ | .az, .str _ | .az, .tup _ | .az, .fl _ | .az, .ref _ | .az, .exc _ _ _ => Decidable.isFalse (fun e => nomatch e)
 | .bl _, .az | .bl _, .int _ | .bl _, .str _ | .bl _, .tup _ | .bl _, .fl _ | .bl _, .ref _ | .bl _, .exc _ _ _ => Decidable.isFalse (fun e => nomatch e)
 | .int _, .az | .int _, .bl _ | .int _, .str _ | .int _, .tup _ | .int _, .fl _ | .int _, .ref _ | .int _, .exc _ _ _ => Decidable.isFalse (fun e => nomatch e)
 | .str _, .az | .str _, .bl _ | .str _, .int _ | .str _, .tup _ | .str _, .fl _ | .str _, .ref _ | .str _, .exc _ _ _ => Decidable.isFalse (fun e => nomatch e)
 | .tup _, .az | .tup _, .bl _ | .tup _, .int _ | .tup _, .str _ | .tup _, .fl _ | .tup _, .ref _ | .tup _, .exc _ _ _ => Decidable.isFalse (fun e => nomatch e)
 | .fl _, .az | .fl _, .bl _ | .fl _, .int _ | .fl _, .str _ | .fl _, .tup _ | .fl _, .ref _ | .fl _, .exc _ _ _ => Decidable.isFalse (fun e => nomatch e)
 | .ref _, .az | .ref _, .bl _ | .ref _, .int _ | .ref _, .str _ | .ref _, .tup _ | .ref _, .fl _ | .ref _, .exc _ _ _ => Decidable.isFalse (fun e => nomatch e)
 | .exc _ _ _, .az | .exc _ _ _, .bl _ | .exc _ _ _, .int _ | .exc _ _ _, .str _ | .exc _ _ _, .tup _ | .exc _ _ _, .fl _ | .exc _ _ _, .ref _ => Decidable.isFalse (fun e => nomatch e)
def W.ul : (a b : List W) -> Decidable (a = b)
 | [], [] => Decidable.isTrue rfl
 | a :: as, b :: bs => match W.dec a b, W.ul as bs with
  | Decidable.isTrue h, Decidable.isTrue h' => Decidable.isTrue (by rw [h, h'])
  | Decidable.isFalse h, _ => Decidable.isFalse (fun e => h (List.cons.inj e).1)
  | _, Decidable.isFalse h => Decidable.isFalse (fun e => h (List.cons.inj e).2)
 | [], _ :: _ | _ :: _, [] => Decidable.isFalse (fun e => nomatch e)
end
instance : DecidableEq W := W.dec
inductive PO where
 | lst (ws : List W)
 | aQ (kvs : List (W × W))
 | obj (c : Str) (fs : List (Str × W))
 | eK (kvs : List (W × W))
 | bM (kvs : List (W × W))
 deriving DecidableEq
def PO.fz : PO -> Bool
 | .eK _ => true
 | _ => false
abbrev PH := List PO
abbrev Po (α : Type) := PH -> Option (α × PH)
def ret {α : Type} (a : α) : Po α := fun ph => some (a, ph)
def dJ {α : Type} : Po α := fun _ => none
structure XC where
 cls : Str
 fs : List (Str × W)
inductive Out (α : Type) where
 | ok (a : α) (ph : PH)
 | ex (x : XC) (ph : PH)
 | no
def Out.Run {α : Type} (r : Out α) (N : α -> PH -> Prop) (E : XC -> PH -> Prop) : Prop := match r with
 | .ok a ph => N a ph
 | .ex x ph => E x ph
 | .no => False
theorem Out.Run.mono {α : Type} {r : Out α} {N N' : α -> PH -> Prop} {E E' : XC -> PH -> Prop} (h : r.Run N E) (hn : ∀ a ph, N a ph -> N' a ph) (he : ∀ x ph, E x ph -> E' x ph) : r.Run N' E' := by
 cases r with
 | ok a ph => exact hn a ph h
 | ex x ph => exact he x ph h
 | no => exact h
abbrev Mo (α : Type) := PH -> Out α
def aw {α : Type} (a : α) : Mo α := fun ph => .ok a ph
def d6 {α : Type} : Mo α := fun _ => .no
def lift {α : Type} (o : Po α) : Mo α := fun ph => match o ph with
 | some p => .ok p.1 p.2
 | none => .no
def ap {α β : Type} (m : Mo α) (f : α -> Mo β) : Mo β := fun ph => match m ph with
 | .ok a ph' => f a ph'
 | .ex x ph' => .ex x ph'
 | .no => .no
theorem cq {α β : Type} {m : Mo α} {f : α -> Mo β} {ph : PH} {N : β -> PH -> Prop} {E : XC -> PH -> Prop} : (ap m f ph).Run N E = (m ph).Run (fun a ph1 => (f a ph1).Run N E) E := by
 unfold ap
 cases m ph <;> rfl
theorem run_lift {α : Type} {o : Po α} {ph : PH} {N : α -> PH -> Prop} {E : XC -> PH -> Prop} (h : (lift o ph).Run N E) : ∃ a ph', o ph = some (a, ph') /\ N a ph' := by
 unfold lift at h
 cases e : o ph with
 | none => rw [e] at h; exact h.elim
 | some p => rw [e] at h; exact ⟨p.1, p.2, rfl, h⟩
abbrev aE := List (Option W)
abbrev EM := aE -> Mo W
abbrev TM := aE -> Mo Bool
abbrev AM := aE -> Mo (List W)
inductive Fl where
 | nx (σ : aE) | rt (w : W) | bk (σ : aE) | ct (σ : aE)
abbrev SM := aE -> Mo Fl
def KL (K : PySem.W.Frag) (a : Addr) (xs : List V) : Prop :=
 ∃ (o : Obj) (its : Array Value) (n : Nat), K.lookup a = some o /\ o.cls = .type "list" /\ o.dict = none /\ o.data = .seq its n /\ its.size <= sizeLine /\ Vals xs its.toList
def um (K : PySem.W.Frag) (H : Hp) (a : Addr) (xs : List V) : Prop := (∃ o, H a = some (.bu o (.lst xs))) \/ KL K a xs
theorem um.sq {K : PySem.W.Frag} {H : Hp} {a : Addr} {xs : List V} (h : um K H a xs) : bb K H a xs := by
 rcases h with ⟨o, h⟩ | h
 ·exact .inl (.inr ⟨o, h⟩)
 ·exact .inr h
def kY (H : Hp) (o : Obj) (ns : List Str) (vs : List V) : Prop := (ns = [] /\ vs = []) \/ ∃ d od, o.dict = some d /\ ns.length = vs.length /\ H d = some (.bu od (.xd (ns.zip vs)))
mutual
inductive ay (K : PySem.W.Frag) (φ : Nat -> Addr) (n : Nat) (H : Hp) : W -> V -> Prop where
 | az : ay K φ n H .az .az
 | bl (b : Bool) : ay K φ n H (.bl b) (.bl b)
 | int (i : Int) : ay K φ n H (.int i) (.int i)
 | str (x : Str) : ay K φ n H (.str x) (.str x)
 | tup {ws : List W} {a : Addr} {vs : List V} (h : H a = some (.tup vs)) (r : aK K φ n H ws vs) : ay K φ n H (.tup ws) (.ref a)
 | fl {ws : List W} {a : Addr} {vs : List V} (h : um K H a vs) (r : aK K φ n H ws vs) : ay K φ n H (.fl ws) (.ref a)
 | ref {i : Nat} (h : i < n) : ay K φ n H (.ref i) (.ref (φ i))
 | exc {c : Str} {ns : List Str} {ws : List W} {a C : Addr} {vs : List V} {o : Obj} {u : HO} (h : H a = some (.bu o u)) (hc : o.cls = .ref C) (hn : PySem.W.nsIn K mainGlobals c = some (some (.ref C))) (hk : PySem.W.notCls o = true) (hf : kY H o ns vs) (r : aK K φ n H ws vs) : ay K φ n H (.exc c ns ws) (.ref a)
inductive aK (K : PySem.W.Frag) (φ : Nat -> Addr) (n : Nat) (H : Hp) : List W -> List V -> Prop where
 | nil : aK K φ n H [] []
 | cons {w : W} {v : V} {ws : List W} {vs : List V} (h : ay K φ n H w v) (r : aK K φ n H ws vs) : aK K φ n H (w :: ws) (v :: vs)
end
structure Step (K : PySem.W.Frag) (φ : Nat -> Addr) (n : Nat) (H : Hp) (ak : Nat -> Addr) (n' : Nat) (H' : Hp) : Prop where
 le : n <= n'
 eq : ∀ i, i < n -> ak i = φ i
 tup : ∀ a xs, H a = some (.tup xs) -> H' a = some (.tup xs)
 bu : ∀ a o u, H a = some (.bu o u) -> H' a = some (.bu o u)
section
variable {K : PySem.W.Frag} {φ ak yI : Nat -> Addr} {n n' yJ : Nat} {H H' d7 : Hp}
theorem Step.refl : Step K φ n H φ n H := ⟨Nat.le_refl _, fun _ _ => rfl, fun _ _ h => h, fun _ _ _ h => h⟩
theorem Step.trans (a : Step K φ n H ak n' H') (b : Step K ak n' H' yI yJ d7) : Step K φ n H yI yJ d7 :=
 ⟨Nat.le_trans a.le b.le, fun i h => (b.eq i (Nat.lt_of_lt_of_le h a.le)).trans (a.eq i h), fun c xs h => b.tup c xs (a.tup c xs h), fun c o u h => b.bu c o u (a.bu c o u h)⟩
theorem kY.mono (s : Step K φ n H ak n' H') {o : Obj} {ns : List Str} {vs : List V} (h : kY H o ns vs) : kY H' o ns vs :=
 h.imp_right fun ⟨d, od, e1, e2, e3⟩ => ⟨d, od, e1, e2, s.bu _ _ _ e3⟩
mutual
theorem ay.mono (s : Step K φ n H ak n' H') : ∀ {w : W} {v : V}, ay K φ n H w v -> ay K ak n' H' w v
 | _, _, .az => .az
 | _, _, .bl b => .bl b
 | _, _, .int i => .int i
 | _, _, .str x => .str x
 | _, _, .tup h r => .tup (s.tup _ _ h) (aK.mono s r)
 | _, _, .fl h r => .fl (h.elim (fun ⟨o, e⟩ => .inl ⟨o, s.bu _ _ _ e⟩) .inr) (aK.mono s r)
 | _, _, .ref (i := i) h => (s.eq i h) ▸ .ref (Nat.lt_of_lt_of_le h s.le)
 | _, _, .exc h hc hn hk hf r => .exc (s.bu _ _ _ h) hc hn hk (hf.mono s) (aK.mono s r)
theorem aK.mono (s : Step K φ n H ak n' H') : ∀ {ws : List W} {vs : List V}, aK K φ n H ws vs -> aK K ak n' H' ws vs
 | _, _, .nil => .nil
 | _, _, .cons h r => .cons (ay.mono s h) (aK.mono s r)
end
theorem aK.length : ∀ {ws : List W} {vs : List V}, aK K φ n H ws vs -> ws.length = vs.length
 | _, _, .nil => rfl
 | _, _, .cons _ r => by simp [aK.length r]
theorem aK.get : ∀ {ws : List W} {vs : List V} {i : Nat} {w : W}, aK K φ n H ws vs -> ws[i]? = some w -> ∃ v, vs[i]? = some v /\ ay K φ n H w v
 | _, _, _, _, .nil, e => by simp at e
 | _, _, 0, _, .cons h _, e => by simp at e; subst e; exact ⟨_, rfl, h⟩
 | _, _, i + 1, w, .cons _ r, e => by
  obtain ⟨u, h1, h2⟩ := aK.get (i := i) (w := w) r (by simpa using e)
  exact ⟨u, by simpa using h1, h2⟩
theorem aK.append : ∀ {ws xs : List W} {vs us : List V}, aK K φ n H ws vs -> aK K φ n H xs us -> aK K φ n H (ws ++ xs) (vs ++ us)
 | _, _, _, _, .nil, s => s
 | _, _, _, _, .cons h r, s => .cons h (aK.append r s)
theorem aK.take : ∀ {ws : List W} {vs : List V} (k : Nat), aK K φ n H ws vs -> aK K φ n H (ws.take k) (vs.take k)
 | _, _, 0, _ => .nil
 | _, _, _ + 1, .nil => .nil
 | _, _, k + 1, .cons h r => .cons h (aK.take k r)
theorem aK.drop : ∀ {ws : List W} {vs : List V} (k : Nat), aK K φ n H ws vs -> aK K φ n H (ws.drop k) (vs.drop k)
 | _, _, 0, r => r
 | _, _, _ + 1, .nil => .nil
 | _, _, k + 1, .cons h r => aK.drop k r
theorem aK.set {w : W} {v : V} (q : ay K φ n H w v) : ∀ {ws : List W} {vs : List V} (i : Nat), aK K φ n H ws vs -> aK K φ n H (ws.set i w) (vs.set i v)
 | _, _, _, .nil => .nil
 | _, _, 0, .cons _ r => .cons q r
 | _, _, i + 1, .cons h r => .cons h (aK.set q i r)
theorem aK.reverse : ∀ {ws : List W} {vs : List V}, aK K φ n H ws vs -> aK K φ n H ws.reverse vs.reverse
 | _, _, .nil => .nil
 | _, _, .cons h r => by simp only [List.reverse_cons]; exact aK.append (aK.reverse r) (.cons h .nil)
end
def bq : Key -> W
 | .inl i => .int i
 | .inr x => .str x
inductive bc (K : PySem.W.Frag) (φ : Nat -> Addr) (n : Nat) (H : Hp) : List (W × W) -> List (Key × V) -> Prop where
 | nil : bc K φ n H [] []
 | cons {k : Key} {w : W} {v : V} {kws : List (W × W)} {kvs : List (Key × V)} (h : ay K φ n H w v) (r : bc K φ n H kws kvs) : bc K φ n H ((bq k, w) :: kws) ((k, v) :: kvs)
inductive bh (K : PySem.W.Frag) (φ : Nat -> Addr) (n : Nat) (H : Hp) : List (W × W) -> List (List Key × V) -> Prop where
 | nil : bh K φ n H [] []
 | cons {k : List Key} {w : W} {v : V} {kws : List (W × W)} {kvs : List (List Key × V)} (h : ay K φ n H w v) (r : bh K φ n H kws kvs) : bh K φ n H ((.tup (k.map bq), w) :: kws) ((k, v) :: kvs)
theorem bc.mono {K : PySem.W.Frag} {φ ak : Nat -> Addr} {n n' : Nat} {H H' : Hp} (s : Step K φ n H ak n' H') : ∀ {ws : List (W × W)} {vs : List (Key × V)}, bc K φ n H ws vs -> bc K ak n' H' ws vs
 | _, _, .nil => .nil
 | _, _, .cons h r => .cons (h.mono s) (bc.mono s r)
theorem bh.mono {K : PySem.W.Frag} {φ ak : Nat -> Addr} {n n' : Nat} {H H' : Hp} (s : Step K φ n H ak n' H') : ∀ {ws : List (W × W)} {vs : List (List Key × V)}, bh K φ n H ws vs -> bh K ak n' H' ws vs
 | _, _, .nil => .nil
 | _, _, .cons h r => .cons (h.mono s) (bh.mono s r)
inductive cj (K : PySem.W.Frag) (φ : Nat -> Addr) (n : Nat) (H : Hp) : List (W × W) -> List (V × V) -> Prop where
 | nil : cj K φ n H [] []
 | cons {k w : W} {u v : V} {kws : List (W × W)} {kvs : List (V × V)} (hk : ay K φ n H k u) (h : ay K φ n H w v) (r : cj K φ n H kws kvs) : cj K φ n H ((k, w) :: kws) ((u, v) :: kvs)
theorem cj.mono {K : PySem.W.Frag} {φ ak : Nat -> Addr} {n n' : Nat} {H H' : Hp} (s : Step K φ n H ak n' H') : ∀ {ws : List (W × W)} {vs : List (V × V)}, cj K φ n H ws vs -> cj K ak n' H' ws vs
 | _, _, .nil => .nil
 | _, _, .cons hk h r => .cons (hk.mono s) (h.mono s) (cj.mono s r)
inductive c0 (K : PySem.W.Frag) (φ : Nat -> Addr) (n : Nat) (H : Hp) : List (Str × W) -> List (Str × V) -> Prop where
 | nil : c0 K φ n H [] []
 | cons {f : Str} {w : W} {v : V} {fs : List (Str × W)} {vs : List (Str × V)} (h : ay K φ n H w v) (r : c0 K φ n H fs vs) : c0 K φ n H ((f, w) :: fs) ((f, v) :: vs)
theorem c0.mono {K : PySem.W.Frag} {φ ak : Nat -> Addr} {n n' : Nat} {H H' : Hp} (s : Step K φ n H ak n' H') : ∀ {ws : List (Str × W)} {vs : List (Str × V)}, c0 K φ n H ws vs -> c0 K ak n' H' ws vs
 | _, _, .nil => .nil
 | _, _, .cons h r => .cons (h.mono s) (c0.mono s r)
def iU (K : PySem.W.Frag) (φ : Nat -> Addr) (n : Nat) (H : Hp) (o : PO) (a : Addr) : Prop := match o with
 | .lst ws => ∃ vs, H a = some (.lst vs) /\ aK K φ n H ws vs
 | .aQ kws => (∃ kvs, H a = some (.dK kvs) /\ bc K φ n H kws kvs) \/ ∃ kvs, H a = some (.dT kvs) /\ bh K φ n H kws kvs
 | .obj c fs => ∃ C dx vs, PySem.W.nsIn K mainGlobals c = some (some (.ref C)) /\ H a = some (.ins C dx vs) /\ c0 K φ n H fs vs
 | .bM kws => ∃ kvs, H a = some (.dU kvs) /\ cj K φ n H kws kvs /\ (kws.map (·.1)).Nodup
 | .eK kws => ∃ o, o.cls = .type "dict" /\ ((∃ kvs, H a = some (.bu o (.dK kvs)) /\ bc K φ n H kws kvs) \/ ∃ kvs, H a = some (.bu o (.dT kvs)) /\ bh K φ n H kws kvs)
structure ax (K : PySem.W.Frag) (φ : Nat -> Addr) (ph : PH) (H : Hp) : Prop where
 hp : ∀ i o, ph[i]? = some o -> iU K φ ph.length H o (φ i)
 inj : ∀ i j, i < ph.length -> j < ph.length -> φ i = φ j -> i = j
inductive aR (K : PySem.W.Frag) (φ : Nat -> Addr) (n : Nat) (H : Hp) : aE -> L2.St -> Prop where
 | nil : aR K φ n H [] []
 | sm {w : W} {v : V} {ws : aE} {vs : L2.St} (h : ay K φ n H w v) (r : aR K φ n H ws vs) : aR K φ n H (some w :: ws) (some v :: vs)
 | nn {v : Option V} {ws : aE} {vs : L2.St} (r : aR K φ n H ws vs) : aR K φ n H (none :: ws) (v :: vs)
section
variable {K : PySem.W.Frag} {φ ak yI : Nat -> Addr} {n n' yJ : Nat} {H H' d7 : Hp} {ph : PH}
theorem aR.mono (s : Step K φ n H ak n' H') : ∀ {ws : aE} {vs : L2.St}, aR K φ n H ws vs -> aR K ak n' H' ws vs
 | _, _, .nil => .nil
 | _, _, .sm h r => .sm (h.mono s) (aR.mono s r)
 | _, _, .nn r => .nn (aR.mono s r)
theorem aR.get : ∀ {ws : aE} {vs : L2.St} {i : Nat} {w : W}, aR K φ n H ws vs -> ws[i]? = some (some w) -> ∃ v, vs[i]? = some (some v) /\ ay K φ n H w v
 | _, _, _, _, .nil, e => by simp at e
 | _, _, 0, _, .sm h _, e => by simp at e; subst e; exact ⟨_, rfl, h⟩
 | _, _, 0, _, .nn _, e => by simp at e
 | _, _, i + 1, w, .sm _ r, e => by
  obtain ⟨u, h1, h2⟩ := aR.get (i := i) (w := w) r (by simpa using e)
  exact ⟨u, by simpa using h1, h2⟩
 | _, _, i + 1, w, .nn r, e => by
  obtain ⟨u, h1, h2⟩ := aR.get (i := i) (w := w) r (by simpa using e)
  exact ⟨u, by simpa using h1, h2⟩
theorem aR.set {w : W} {v : V} (q : ay K φ n H w v) : ∀ {ws : aE} {vs : L2.St} (i : Nat), aR K φ n H ws vs -> aR K φ n H (ws.set i (Option.some w)) (vs.set i (Option.some v))
 | _, _, _, .nil => .nil
 | _, _, 0, .sm _ r => .sm q r
 | _, _, 0, .nn r => .sm q r
 | _, _, i + 1, .sm h r => .sm h (aR.set q i r)
 | _, _, i + 1, .nn r => .nn (aR.set q i r)
theorem aR.start : ∀ {ws : List W} {vs : List V} (k : Nat), aK K φ n H ws vs -> aR K φ n H (ws.map Option.some ++ List.replicate k Option.none) (vs.map Option.some ++ List.replicate k Option.none)
 | _, _, 0, .nil => .nil
 | _, _, k + 1, .nil => .nn (aR.start k .nil)
 | _, _, k, .cons h r => .sm h (aR.start k r)
theorem iU.some {o : PO} {a : Addr} (h : iU K φ n H o a) : ∃ x, H a = Option.some x /\ (o.fz = false -> jf (Option.some x)) := by
 cases o with
 | lst ws => obtain ⟨vs, e, _⟩ := h; exact ⟨_, e, fun _ => trivial⟩
 | aQ kws =>
  rcases h with ⟨vs, e, _⟩ | ⟨vs, e, _⟩
  ·exact ⟨_, e, fun _ => trivial⟩
  ·exact ⟨_, e, fun _ => trivial⟩
 | obj c fs => obtain ⟨C, dx, vs, _, e, _⟩ := h; exact ⟨_, e, fun _ => trivial⟩
 | bM kws => obtain ⟨kvs, e, _⟩ := h; exact ⟨_, e, fun _ => trivial⟩
 | eK kws =>
  obtain ⟨o, _, ⟨vs, e, _⟩ | ⟨vs, e, _⟩⟩ := h
  ·exact ⟨_, e, fun z => nomatch z⟩
  ·exact ⟨_, e, fun z => nomatch z⟩
theorem iU.mono {o : PO} {a : Addr} (s : Step K φ n H ak n' H') (e : H' a = H a) (h : iU K φ n H o a) : iU K ak n' H' o a := by
 cases o with
 | lst ws => obtain ⟨vs, q, r⟩ := h; exact ⟨vs, e.trans q, r.mono s⟩
 | aQ kws =>
  rcases h with ⟨vs, q, r⟩ | ⟨vs, q, r⟩
  ·exact .inl ⟨vs, e.trans q, r.mono s⟩
  ·exact .inr ⟨vs, e.trans q, r.mono s⟩
 | obj c fs => obtain ⟨C, dx, vs, q1, q2, r⟩ := h; exact ⟨C, dx, vs, q1, e.trans q2, r.mono s⟩
 | bM kws => obtain ⟨kvs, q, r, nd⟩ := h; exact ⟨kvs, e.trans q, r.mono s, nd⟩
 | eK kws =>
  obtain ⟨o, hc, ⟨vs, q, r⟩ | ⟨vs, q, r⟩⟩ := h
  ·exact ⟨o, hc, .inl ⟨vs, e.trans q, r.mono s⟩⟩
  ·exact ⟨o, hc, .inr ⟨vs, e.trans q, r.mono s⟩⟩
theorem ax.at (h : ax K φ ph H) {i : Nat} (hi : i < ph.length) : ∃ x, H (φ i) = Option.some x /\ (ph[i].fz = false -> jf (Option.some x)) := (h.hp i ph[i] (by simp [hi])).some
theorem ax.mu (h : ax K φ ph H) {i : Nat} {o : PO} (hw : ph[i]? = Option.some o) (hz : o.fz = false) : ∃ x, H (φ i) = Option.some x /\ jf (Option.some x) := let ⟨x, e, k⟩ := (h.hp i o hw).some; ⟨x, e, k hz⟩
theorem ng {p : Addr} {xs : List V} (hp : H p = none) : Step K φ n H φ n (upd H p (.tup xs)) := by
 refine ⟨Nat.le_refl _, fun _ _ => rfl, fun a ys h => ?_, fun a o u h => ?_⟩
 ·rw [aM (dH h hp)]; exact h
 ·rw [aM (dH h hp)]; exact h
theorem ax.tup {p : Addr} {xs : List V} (h : ax K φ ph H) (hp : H p = none) : ax K φ ph (upd H p (.tup xs)) := by
 refine ⟨fun i o e => ?_, h.inj⟩
 have hi : i < ph.length := (List.getElem?_eq_some_iff.mp e).1
 obtain ⟨x, ex, _⟩ := h.at hi
 exact (h.hp i o e).mono (ng hp) (aM (dH ex hp))
def ext (φ : Nat -> Addr) (n : Nat) (p : Addr) : Nat -> Addr := fun i => if i = n then p else φ i
theorem nv {p : Addr} {i : Nat} (h : i < n) : ext φ n p i = φ i := by unfold ext; rw [if_neg (by omega)]
theorem iQ {p : Addr} : ext φ n p n = p := by unfold ext; rw [if_pos rfl]
theorem oU {p : Addr} {o : HO} (hp : H p = none) : Step K φ n H (ext φ n p) (n + 1) (upd H p o) := by
 refine ⟨Nat.le_succ _, fun i h => nv h, fun a ys h => ?_, fun a o u h => ?_⟩
 ·rw [aM (dH h hp)]; exact h
 ·rw [aM (dH h hp)]; exact h
theorem ax.new {p : Addr} {x : HO} {o : PO} (h : ax K φ ph H) (hp : H p = none) (r : iU K (ext φ ph.length p) (ph.length + 1) (upd H p x) o p) :
  ax K (ext φ ph.length p) (ph ++ [o]) (upd H p x) := by
 refine ⟨fun i o' e => ?_, fun i j hi hj e => ?_⟩
 ·rw [List.length_append]
  by_cases hi : i < ph.length
  ·rw [List.getElem?_append_left hi] at e
   obtain ⟨y, ey, _⟩ := h.at hi
   rw [nv hi]
   exact (h.hp i o' e).mono (oU hp) (aM (dH ey hp))
  ·have hl := (List.getElem?_eq_some_iff.mp e).1
   simp at hl
   have : i = ph.length := by omega
   subst this
   simp at e
   subst e
   rw [iQ]
   exact r
 ·simp at hi hj
  have key : ∀ k, k < ph.length -> φ k ≠ p := fun k hk z => by
   obtain ⟨y, ey, _⟩ := h.at hk
   rw [z, hp] at ey; cases ey
  by_cases h1 : i < ph.length <;> by_cases h2 : j < ph.length
  ·rw [nv h1, nv h2] at e; exact h.inj i j h1 h2 e
  ·have : j = ph.length := by omega
   subst this
   rw [nv h1, iQ] at e; exact (key i h1 e).elim
  ·have : i = ph.length := by omega
   subst this
   rw [nv h2, iQ] at e; exact (key j h2 e.symm).elim
  ·omega
theorem iM {a : Addr} {x y : HO} (ha : H a = some x) (mx : jf (some x)) : Step K φ n H φ n (upd H a y) := by
 refine ⟨Nat.le_refl _, fun _ _ => rfl, fun c ys h => ?_, fun c o u h => ?_⟩
 ·rw [aM (cY h ha (by rintro rfl; exact mx))]; exact h
 ·rw [aM (cY h ha (by rintro rfl; exact mx))]; exact h
theorem ax.put {i : Nat} {x : HO} {o o0 : PO} (h : ax K φ ph H) (hw : ph[i]? = some o0) (hz : o0.fz = false) (r : iU K φ ph.length (upd H (φ i) x) o (φ i)) : ax K φ (ph.set i o) (upd H (φ i) x) := by
 have hi : i < ph.length := (List.getElem?_eq_some_iff.mp hw).1
 obtain ⟨y, ey, my⟩ := h.mu hw hz
 refine ⟨fun j o' e => ?_, fun j k hj hk e => ?_⟩
 ·rw [List.length_set]
  by_cases hj : j = i
  ·subst hj
   rw [List.getElem?_set_self hi] at e
   cases e
   exact r
  ·rw [List.getElem?_set_ne (Ne.symm hj)] at e
   have qp := (List.getElem?_eq_some_iff.mp e).1
   exact (h.hp j o' e).mono (iM ey my) (aM fun z => hj (h.inj j i qp hi z))
 ·rw [List.length_set] at hj hk
  exact h.inj j k hj hk e
end
def Made (X : Cx) (C : Addr) (H' : Hp) (e : Value) (s' : Shared) : Prop :=
 ∃ pins σ s vs h' a, e = .ref a /\ s' = { s with heap := h' } /\ Inv X pins σ H' s /\ Heap.MadeExcOf s.heap h' a (.ref C) vs
structure Zm (fs : List Addr) (H H' : Hp) (h B h' : Heap) : Prop where
 keep : ∀ b o, h.get? b = some o -> H b = none -> b ∉ fs -> B.get? b = some o
 slot : ∀ b o, h.get? b = some o -> H b = none -> b ∈ fs -> ∃ sl, h'.get? b = some { o with slots := sl }
 free : ∀ b o, h.get? b = some o -> H b = none -> H' b = none
 there : ∀ b o, h.get? b = some o -> b ∉ fs -> ∃ o', B.get? b = some o'
 d0 : ∀ b xs, H b = some (.tup xs) -> H' b = some (.tup xs)
 dC : ∀ b o u, H b = some (.bu o u) -> H' b = some (.bu o u)
 d3 : ∀ b ps, H b = some (.j3 ps) -> ∃ more, H' b = some (.j3 (ps ++ more))
def Flew (P : Program) (w : World) (l : List Env) (H : Hp) (s : Shared) (C : Addr) (H' : Hp) (e : Value) (s' : Shared) : Prop :=
 ∃ a a0 B, e = .ref a /\ s'.os = s.os /\ AllBare s'.gens /\ Heap.FlyingW B l a (.ref C) a0 s'.heap /\ bX P w H' B /\ Zm (dM l) H H' s.heap B s'.heap
def Zn (X : Cx) (x : XC) (H' : Hp) (e : Value) (s' : Shared) : Prop := ∃ C, X.mg x.cls = some (.ref C) /\ x.fs = [] /\ (Made X C H' e s' \/ ∃ pins σ H s, Inv X pins σ H s /\ Flew X.prog X.w X.stack H s C H' e s')
def XE (X : Cx) (φ : Nat -> Addr) (n : Nat) (H : Hp) : XC -> PH -> Prop := fun x ph' => ∀ ak H' e s', ax X.K ak ph' H' -> Step X.K φ n H ak ph'.length H' -> Zn X x H' e s' -> X.xe e s'
theorem XE.step {X : Cx} {φ au : Nat -> Addr} {n n1 : Nat} {H H1 : Hp} {x : XC} {ph' : PH} (h : XE X φ n H x ph') (s : Step X.K φ n H au n1 H1) : XE X au n1 H1 x ph' := fun ak H' e s' r t q => h ak H' e s' r (s.trans t) q
def tM (X : Cx) (m : EM) : TE := fun σ H Q => ∃ φ ph ws, ax X.K φ ph H /\ aR X.K φ ph.length H ws σ /\ (m ws ph).Run (fun w ph' =>
 ∀ ak H' v, ax X.K ak ph' H' -> Step X.K φ ph.length H ak ph'.length H' -> ay X.K ak ph'.length H' w v -> Q v H') (XE X φ ph.length H)
def tT (X : Cx) (m : TM) : TT := fun σ H Q => ∃ φ ph ws, ax X.K φ ph H /\ aR X.K φ ph.length H ws σ /\ (m ws ph).Run (fun b ph' =>
 ∀ ak H', ax X.K ak ph' H' -> Step X.K φ ph.length H ak ph'.length H' -> Q b H') (XE X φ ph.length H)
def tA (X : Cx) (m : AM) : TA := fun σ H Q => ∃ φ ph ws, ax X.K φ ph H /\ aR X.K φ ph.length H ws σ /\ (m ws ph).Run (fun xs ph' =>
 ∀ ak H' vs, ax X.K ak ph' H' -> Step X.K φ ph.length H ak ph'.length H' -> aK X.K ak ph'.length H' xs vs -> Q vs H') (XE X φ ph.length H)
def mC (X : Cx) (D : Ends) (ak : Nat -> Addr) (ph' : PH) (H' : Hp) (f : Fl) : Prop := match f with
 | .nx ws' => ∀ ao, aR X.K ak ph'.length H' ws' ao -> D.nx ao H'
 | .bk ws' => ∀ ao, aR X.K ak ph'.length H' ws' ao -> D.bk ao H'
 | .ct ws' => ∀ ao, aR X.K ak ph'.length H' ws' ao -> D.ct ao H'
 | .rt w => ∀ v, ay X.K ak ph'.length H' w v -> D.rt v H'
def tS (X : Cx) (m : SM) : TS := fun D σ H => ∃ φ ph ws, ax X.K φ ph H /\ aR X.K φ ph.length H ws σ /\ (m ws ph).Run (fun f ph' =>
 ∀ ak H', ax X.K ak ph' H' -> Step X.K φ ph.length H ak ph'.length H' -> mC X D ak ph' H' f) (XE X φ ph.length H)
section
variable {X : Cx} {e : Expr}
theorem PE.imp {t t' : TE} (h : PE X e t) (k : ∀ σ H Q, t' σ H Q -> t σ H Q) : PE X e t' := fun pins s σ H Q I q => h pins s σ H Q I (k σ H Q q)
theorem PT.imp {t t' : TT} (h : PT X e t) (k : ∀ σ H Q, t' σ H Q -> t σ H Q) : PT X e t' := fun pins s σ H Q I q => h pins s σ H Q I (k σ H Q q)
theorem PA.imp {es : List Expr} {t t' : TA} (h : PA X es t) (k : ∀ σ H Q, t' σ H Q -> t σ H Q) : PA X es t' := fun pos pins s σ H Q I q => h pos pins s σ H Q I (k σ H Q q)
theorem PS.imp {st : Stmt} {t t' : TS} (h : PS X st t) (k : ∀ D σ H, t' D σ H -> t D σ H) : PS X st t' := fun pins s σ H D I q => h pins s σ H D I (k D σ H q)
theorem dO.imp {st : List Stmt} {t t' : TS} (h : dO X st t) (k : ∀ D σ H, t' D σ H -> t D σ H) : dO X st t' := fun pins s σ H D I q => h pins s σ H D I (k D σ H q)
abbrev IE (X : Cx) (e : Expr) (m : EM) : Prop := PE X e (tM X m)
abbrev IT (X : Cx) (e : Expr) (m : TM) : Prop := PT X e (tT X m)
abbrev IA (X : Cx) (es : List Expr) (m : AM) : Prop := PA X es (tA X m)
abbrev IS (X : Cx) (st : Stmt) (m : SM) : Prop := PS X st (tS X m)
abbrev gG (X : Cx) (st : List Stmt) (m : SM) : Prop := dO X st (tS X m)
end
def aa (i : Nat) : EM := fun σ => lift fun ph => match σ[i]? with
 | some (some w) => some (w, ph)
 | _ => none
def eC (w : W) : EM := fun _ => aw w
def ae (f : W -> W -> Po W) (a b : EM) : EM := fun σ => ap (a σ) fun x => ap (b σ) fun y => lift (f x y)
def eU (f : W -> Po W) (a : EM) : EM := fun σ => ap (a σ) fun x => lift (f x)
def cf (K : PySem.W.Frag) (r : R2) (f : W -> W -> Po W) : Prop := ∀ {φ : Nat -> Addr} {ph : PH} {H : Hp} {x y : W} {vx vy : V} {w : W} {ph' : PH} {Q : VK}, ax K φ ph H -> ay K φ ph.length H x vx -> ay K φ ph.length H y vy -> f x y ph = some (w, ph') →
 (∀ ak H' v, ax K ak ph' H' -> Step K φ ph.length H ak ph'.length H' -> ay K ak ph'.length H' w v -> Q v H') -> r vx vy H Q
def Fe (K : PySem.W.Frag) (r : V -> Hp -> VK -> Prop) (f : W -> Po W) : Prop := ∀ {φ : Nat -> Addr} {ph : PH} {H : Hp} {x : W} {vx : V} {w : W} {ph' : PH} {Q : VK}, ax K φ ph H -> ay K φ ph.length H x vx -> f x ph = some (w, ph') →
 (∀ ak H' v, ax K ak ph' H' -> Step K φ ph.length H ak ph'.length H' -> ay K ak ph'.length H' w v -> Q v H') -> r vx H Q
section
variable {X : Cx} {a b c : Expr} {ma mb mc : EM} {pos : Pos}
theorem T5 (i : Nat) {x : Str} (hN : X.N[i]? = some x := by rfl) (hv : aJ X.env.scope x := by first | exact Or.inl rfl | exact Or.inr (Or.inl rfl) | exact Or.inr (Or.inr rfl)) (hd : (x == ("__debug__" : Str)) = false := by decide)
  (hcd : (x == ("__classdict__" : Str)) = false := by decide) : IE X (.Name x pos) (aa i) := by
 refine PE.imp (Te hN hv hd hcd) fun σ H Q h => ?_
 obtain ⟨φ, ph, ws, hH, hS, h⟩ := h
 obtain ⟨w, ph', e, k⟩ := run_lift h
 split at e
 ·rename_i w' ew
  cases e
  obtain ⟨v, ev, rv⟩ := hS.get ew
  exact ⟨v, ev, k φ H v hH Step.refl rv⟩
 ·cases e
theorem uo {t : V} {w : W} (h : PE X a (tC t)) (r : ∀ φ n H, ay X.K φ n H w t) : IE X a (eC w) := by
 refine PE.imp h fun σ H Q h => ?_
 obtain ⟨φ, ph, ws, hH, hS, h⟩ := h
 exact h φ H _ hH Step.refl (r _ _ _)
theorem T6 {i : Int} {j : Nat} : IE X (.Constant (.int i) j pos) (eC (.int i)) := uo Tf fun _ _ _ => .int i
theorem T7 {x : Str} {j : Nat} : IE X (.Constant (.str x) j pos) (eC (.str x)) := uo Ti fun _ _ _ => .str x
theorem WH {x : Bool} {j : Nat} : IE X (.Constant (.bool x) j pos) (eC (.bl x)) := uo We fun _ _ _ => .bl x
theorem T8 {j : Nat} : IE X (.Constant .none j pos) (eC .az) := uo Tg fun _ _ _ => .az
theorem tM.bind {β : Type} {m : EM} {σ : L2.St} {H : Hp} {Q : VK} {φ : Nat -> Addr} {ph : PH} {ws : aE} {f : W -> Mo β} {N : β -> PH -> Prop} (hH : ax X.K φ ph H) (hS : aR X.K φ ph.length H ws σ) (h : (ap (m ws) f ph).Run N (XE X φ ph.length H))
  (k : ∀ w ph1 au H1 v, ax X.K au ph1 H1 -> Step X.K φ ph.length H au ph1.length H1 -> ay X.K au ph1.length H1 w v -> (f w ph1).Run N (XE X au ph1.length H1) -> Q v H1) : tM X m σ H Q := by
 rw [cq] at h
 exact ⟨φ, ph, ws, hH, hS, h.mono (fun w ph1 h1 au H1 v aD s1 r1 => k w ph1 au H1 v aD s1 r1 (h1.mono (fun _ _ z => z) fun _ _ z => z.step s1)) fun _ _ z => z⟩
theorem tT.bind {β : Type} {m : TM} {σ : L2.St} {H : Hp} {Q : Bool -> Hp -> Prop} {φ : Nat -> Addr} {ph : PH} {ws : aE} {f : Bool -> Mo β} {N : β -> PH -> Prop} (hH : ax X.K φ ph H) (hS : aR X.K φ ph.length H ws σ) (h : (ap (m ws) f ph).Run N (XE X φ ph.length H))
  (k : ∀ b ph1 au H1, ax X.K au ph1 H1 -> Step X.K φ ph.length H au ph1.length H1 -> (f b ph1).Run N (XE X au ph1.length H1) -> Q b H1) : tT X m σ H Q := by
 rw [cq] at h
 exact ⟨φ, ph, ws, hH, hS, h.mono (fun b ph1 h1 au H1 aD s1 => k b ph1 au H1 aD s1 (h1.mono (fun _ _ z => z) fun _ _ z => z.step s1)) fun _ _ z => z⟩
theorem tA.bind {β : Type} {m : AM} {σ : L2.St} {H : Hp} {Q : List V -> Hp -> Prop} {φ : Nat -> Addr} {ph : PH} {ws : aE} {f : List W -> Mo β} {N : β -> PH -> Prop} (hH : ax X.K φ ph H) (hS : aR X.K φ ph.length H ws σ) (h : (ap (m ws) f ph).Run N (XE X φ ph.length H))
  (k : ∀ xs ph1 au H1 vs, ax X.K au ph1 H1 -> Step X.K φ ph.length H au ph1.length H1 -> aK X.K au ph1.length H1 xs vs -> (f xs ph1).Run N (XE X au ph1.length H1) -> Q vs H1) : tA X m σ H Q := by
 rw [cq] at h
 exact ⟨φ, ph, ws, hH, hS, h.mono (fun w ph1 h1 au H1 v aD s1 r1 => k w ph1 au H1 v aD s1 r1 (h1.mono (fun _ _ z => z) fun _ _ z => z.step s1)) fun _ _ z => z⟩
theorem tE {r : R2} {f : W -> W -> Po W} (hi : cf X.K r f) {σ : L2.St} {H : Hp} {Q : VK} (h : tM X (ae f ma mb) σ H Q) : ql r (tM X ma) (tM X mb) σ H Q := by
 obtain ⟨φ, ph, ws, hH, hS, h⟩ := h
 refine tM.bind hH hS h fun x ph1 au H1 vx aD s1 rx h => tM.bind aD (hS.mono s1) h fun y ph2 aS H2 vy aY s2 ry h => ?_
 obtain ⟨w, ph', e, k⟩ := run_lift h
 exact hi aY (rx.mono s2) ry e fun f6 H3 v d8 s3 r3 => k f6 H3 v d8 ((s1.trans s2).trans s3) r3
theorem pz {op : Operator} {r : R2} {f : W -> W -> Po W} (ho : bG X (binaryOp op) r) (hi : cf X.K r f) (ha : IE X a ma) (hb : IE X b mb) : IE X (.BinOp a op b pos) (ae f ma mb) :=
 PE.imp (Wr ho ha hb) fun _ _ _ h => tE hi h
theorem WI {op : UnaryOp} {r : V -> Hp -> VK -> Prop} {f : W -> Po W} (ho : uL X (unaryOp op) r) (hi : Fe X.K r f) (ha : IE X a ma) : IE X (.UnaryOp op a pos) (eU f ma) := by
 refine PE.imp (Ws ho ha) fun σ H Q h => ?_
 obtain ⟨φ, ph, ws, hH, hS, h⟩ := h
 refine tM.bind hH hS h fun x ph1 au H1 vx aD s1 rx h => ?_
 obtain ⟨w, ph', e, k⟩ := run_lift h
 exact hi aD rx e fun f6 H3 v d8 s3 r3 => k f6 H3 v d8 (s1.trans s3) r3
theorem T9 {op : CmpOp} {r : R2} {f : W -> W -> Po W} (ho : bG X (compareOp op) r) (hi : cf X.K r f) (ha : IE X a ma) (hb : IE X b mb) (hm : behindInMarks op b = false) : IE X (.Compare a [op] [b] pos) (ae f ma mb) :=
 PE.imp (Rl ho ha hb hm) fun _ _ _ h => tE hi h
def eT (m : EM) : TM := fun σ => ap (m σ) fun w => lift (match w with
 | .bl b => ret b
 | _ => dJ)
theorem Ua {op : CmpOp} {r : R2} {f : W -> W -> Po W} (ho : bG X (compareOp op) r) (hi : cf X.K r f) (ha : IE X a ma) (hb : IE X b mb) (hm : behindInMarks op b = false) : IT X (.Compare a [op] [b] pos) (eT (ae f ma mb)) := by
 refine PT.imp (Rm ho ha hb hm) fun σ H Q h => ?_
 obtain ⟨φ, ph, ws, hH, hS, h⟩ := h
 refine tE hi (tM.bind hH hS h fun x ph1 au H1 vx aD s1 rx h => ?_)
 obtain ⟨w, ph', e, k⟩ := run_lift h
 split at e
 ·cases e
  cases rx
  exact ⟨_, rfl, k au H1 aD s1⟩
 ·cases e
end
def oi (g : Int -> Int -> Int) : W -> W -> Po W := fun x y => match x, y with
 | .int i, .int j => ret (.int (g i j))
 | _, _ => dJ
def nR (c : Int -> Int -> Bool) (g : Int -> Int -> Int) : W -> W -> Po W := fun x y => match x, y with
 | .int i, .int j => if c i j = true then ret (.int (g i j)) else dJ
 | _, _ => dJ
def nT (g : Int -> Int -> Bool) : W -> W -> Po W := fun x y => match x, y with
 | .int i, .int j => ret (.bl (g i j))
 | _, _ => dJ
theorem WJ {K : PySem.W.Frag} {g : Int -> Int -> Int} : cf K (ji fun i j => .int (g i j)) (oi g) := by
 intro φ ph H x y vx vy w ph' Q hH rx ry e k
 unfold oi at e
 split at e
 ·cases e; cases rx; cases ry
  exact ⟨_, _, rfl, rfl, k φ H _ hH Step.refl (.int _)⟩
 ·cases e
theorem C9 {K : PySem.W.Frag} {C : Int -> Int -> Prop} {c : Int -> Int -> Bool} {g : Int -> Int -> Int} (hc : ∀ i j, c i j = true -> C i j) : cf K (rI C fun i j => .int (g i j)) (nR c g) := by
 intro φ ph H x y vx vy w ph' Q hH rx ry e k
 unfold nR at e
 split at e
 ·split at e
  ·cases e; cases rx; cases ry
   exact ⟨_, _, rfl, rfl, hc _ _ (by assumption), k φ H _ hH Step.refl (.int _)⟩
  ·cases e
 ·cases e
theorem Dc {K : PySem.W.Frag} {g : Int -> Int -> Bool} : cf K (ji fun i j => .bl (g i j)) (nT g) := by
 intro φ ph H x y vx vy w ph' Q hH rx ry e k
 unfold nT at e
 split at e
 ·cases e; cases rx; cases ry
  exact ⟨_, _, rfl, rfl, k φ H _ hH Step.refl (.bl _)⟩
 ·cases e
def cE (a b : TM) : TM := fun σ => ap (a σ) fun c => if c = true then b σ else aw false
def cO (a b : TM) : TM := fun σ => ap (a σ) fun c => if c = true then aw true else b σ
def eA (a : TM) : TM := fun σ => ap (a σ) fun c => aw (!c)
def gz (a b : EM) : EM := fun σ => ap (a σ) fun w => match w with
 | .bl c => if c = true then b σ else aw (.bl false)
 | _ => d6
def uO (a b : EM) : EM := fun σ => ap (a σ) fun w => match w with
 | .bl c => if c = true then aw (.bl true) else b σ
 | _ => d6
def Yl (a : EM) : EM := fun σ => ap (a σ) fun w => match w with
 | .bl c => aw (.bl (!c))
 | _ => d6
def Zo (t : TM) (a b : EM) : EM := fun σ => ap (t σ) fun c => if c = true then a σ else b σ
section
variable {X : Cx} {a b c : Expr} {rest : List Expr} {ma mb mc : EM} {ta tb : TM} {pos : Pos}
theorem Ub (ha : IT X a ta) : IT X (.UnaryOp .Not a pos) (eA ta) := by
 refine PT.imp (To ha) fun σ H Q h => ?_
 obtain ⟨φ, ph, ws, hH, hS, h⟩ := h
 exact tT.bind hH hS h fun x ph1 au H1 aD s1 h => h au H1 aD s1
theorem and_imp {σ : L2.St} {H : Hp} {Q : Bool -> Hp -> Prop} (h : tT X (cE ta tb) σ H Q) : El (tT X ta) (tT X tb) σ H Q := by
 obtain ⟨φ, ph, ws, hH, hS, h⟩ := h
 refine tT.bind hH hS h fun x ph1 au H1 aD s1 h => ?_
 cases x with
 | true => exact mB ⟨au, ph1, ws, aD, hS.mono s1, h.mono (fun _ _ k aS H2 aY s2 => k aS H2 aY (s1.trans s2)) fun _ _ z => z⟩
 | false => exact mz (h au H1 aD s1)
theorem or_imp {σ : L2.St} {H : Hp} {Q : Bool -> Hp -> Prop} (h : tT X (cO ta tb) σ H Q) : EY (tT X ta) (tT X tb) σ H Q := by
 obtain ⟨φ, ph, ws, hH, hS, h⟩ := h
 refine tT.bind hH hS h fun x ph1 au H1 aD s1 h => ?_
 cases x with
 | false => exact mz ⟨au, ph1, ws, aD, hS.mono s1, h.mono (fun _ _ k aS H2 aY s2 => k aS H2 aY (s1.trans s2)) fun _ _ z => z⟩
 | true => exact mB (h au H1 aD s1)
theorem Uc {op : BoolOp} (ha : IT X a ta) : PW X (.BoolOp op [a] pos) (tT X ta) := by
 cases op with
 | And => exact Ra ha
 | Or => exact Tj ha
theorem Ud (ha : IT X a ta) (hb : PW X (.BoolOp .And (b :: rest) pos) (tT X tb)) : PW X (.BoolOp .And (a :: b :: rest) pos) (tT X (cE ta tb)) :=
 fun wh pins s σ H Q I h => Tn ha hb wh pins s σ H Q I (and_imp h)
theorem WK (ha : IT X a ta) (hb : PW X (.BoolOp .Or (b :: rest) pos) (tT X tb)) : PW X (.BoolOp .Or (a :: b :: rest) pos) (tT X (cO ta tb)) :=
 fun wh pins s σ H Q I h => Wf ha hb wh pins s σ H Q I (or_imp h)
theorem Ue (ha : IE X a ma) (hb : IE X (.BoolOp .And (b :: rest) pos) mb) : IE X (.BoolOp .And (a :: b :: rest) pos) (gz ma mb) := by
 refine PE.imp (Tq ha hb) fun σ H Q h => ?_
 obtain ⟨φ, ph, ws, hH, hS, h⟩ := h
 refine tM.bind hH hS h fun x ph1 au H1 vx aD s1 rx h => ?_
 cases rx with
 | bl c =>
  refine ⟨c, rfl, ?_⟩
  cases c with
  | true => exact mB ⟨au, ph1, ws, aD, hS.mono s1, h.mono (fun _ _ k aS H2 v aY s2 r2 => k aS H2 v aY (s1.trans s2) r2) fun _ _ z => z⟩
  | false => exact mz (h au H1 _ aD s1 (.bl false))
 | _ => exact h.elim
theorem WL (ha : IE X a ma) (hb : IE X (.BoolOp .Or (b :: rest) pos) mb) : IE X (.BoolOp .Or (a :: b :: rest) pos) (uO ma mb) := by
 refine PE.imp (Wh ha hb) fun σ H Q h => ?_
 obtain ⟨φ, ph, ws, hH, hS, h⟩ := h
 refine tM.bind hH hS h fun x ph1 au H1 vx aD s1 rx h => ?_
 cases rx with
 | bl c =>
  refine ⟨c, rfl, ?_⟩
  cases c with
  | false => exact mz ⟨au, ph1, ws, aD, hS.mono s1, h.mono (fun _ _ k aS H2 v aY s2 r2 => k aS H2 v aY (s1.trans s2) r2) fun _ _ z => z⟩
  | true => exact mB (h au H1 _ aD s1 (.bl true))
 | _ => exact h.elim
theorem Ug {op : BoolOp} (ha : IE X a ma) : IE X (.BoolOp op [a] pos) ma := Tp ha
def mD (w : W) : Po Bool := fun ph => match w with
 | .az => some (false, ph)
 | .bl b => some (b, ph)
 | .int i => some (i != 0, ph)
 | .str y => if y.length <= sizeLine then some ((y.length : Int) != 0, ph) else none
 | .tup ws => some (!ws.isEmpty, ph)
 | .fl ws => some (!ws.isEmpty, ph)
 | .ref i => match ph[i]? with
  | some (.lst ws) => some (!ws.isEmpty, ph)
  | _ => none
 | .exc .. => none
def ck (m : EM) : TM := fun σ => ap (m σ) fun w => lift (mD w)
theorem xn {K : PySem.W.Frag} {φ : Nat -> Addr} {n : Nat} {H : Hp} {ws : List W} {vs : List V} (r : aK K φ n H ws vs) : (!vs.isEmpty) = !ws.isEmpty := by cases r <;> rfl
theorem Uh (ha : IE X a ma) (he : ∀ whole, isTrue a X.env whole = (do let v <- whole; standAt a.pos; holding [v] (truthy v)) := by intro _; rfl) : IT X a (ck ma) := by
 refine PT.imp (PQ ha he) fun σ H Q h => ?_
 obtain ⟨φ, ph, ws, hH, hS, h⟩ := h
 refine tM.bind hH hS h fun x ph1 au H1 vx aD s1 rx h => ?_
 obtain ⟨b, ph2, e, k⟩ := run_lift h
 unfold mD at e
 cases rx with
 | az => cases e; exact ⟨_, rfl, k au H1 aD s1⟩
 | bl b => cases e; exact ⟨_, rfl, k au H1 aD s1⟩
 | int i => cases e; exact ⟨_, rfl, k au H1 aD s1⟩
 | str y =>
  simp only at e
  split at e
  ·rename_i hy
   cases e
   exact ⟨_, ⟨hy, rfl⟩, k au H1 aD s1⟩
  ·cases e
 | tup hq r => cases e; exact ⟨_, .inr (.inl ⟨_, ce.of hq, rfl⟩), by rw [xn r]; exact k au H1 aD s1⟩
 | fl hq r => cases e; exact ⟨_, .inl ⟨_, hq.sq, rfl⟩, by rw [xn r]; exact k au H1 aD s1⟩
 | ref hi =>
  simp only at e
  split at e
  ·rename_i ws' hw
   cases e
   obtain ⟨vs, hv, r⟩ := aD.hp _ _ hw
   exact ⟨_, .inl ⟨vs, bb.of hv, rfl⟩, by rw [xn r]; exact k au H1 aD s1⟩
  ·cases e
 | exc => cases e
end
def aX : SM := fun σ => aw (.nx σ)
def aq (a b : SM) : SM := fun σ => ap (a σ) fun f => match f with
 | .nx ao => b ao
 | f => aw f
def fV (e : EM) : SM := fun σ => ap (e σ) fun _ => aw (.nx σ)
def aN (e : EM) : SM := fun σ => ap (e σ) fun w => aw (.rt w)
def aU (t : TM) (a b : SM) : SM := fun σ => ap (t σ) fun c => if c = true then a σ else b σ
abbrev GM := W -> aE -> Mo aE
def gN (i : Nat) : GM := fun w σ => aw (σ.set i (some w))
def aC (e : EM) (g : GM) : SM := fun σ => ap (e σ) fun w => ap (g w σ) fun ao => aw (.nx ao)
def tG (X : Cx) (g : GM) : TG := fun v σ H Q => ∃ φ ph ws w, ax X.K φ ph H /\ aR X.K φ ph.length H ws σ /\ ay X.K φ ph.length H w v /\ (g w ws ph).Run (fun ws' ph' =>
 ∀ ak H' ao, ax X.K ak ph' H' -> Step X.K φ ph.length H ak ph'.length H' -> aR X.K ak ph'.length H' ws' ao -> Q ao H') (XE X φ ph.length H)
abbrev IG (X : Cx) (tg : Expr) (g : GM) : Prop := PG X tg (tG X g)
section
variable {X : Cx} {e c : Expr} {m : EM} {t : TM} {a b : SM} {st : Stmt} {as bs rest : List Stmt} {pos : Pos} {tg : Expr} {g : GM}
theorem PG.imp {t t' : TG} (h : PG X tg t) (k : ∀ v σ H Q, t' v σ H Q -> t v σ H Q) : PG X tg t' := fun pins s σ H v u Q I r q => h pins s σ H v u Q I r (k v σ H Q q)
theorem Rx : gG X [] aX := dO.imp Rb fun D σ H h => by
 obtain ⟨φ, ph, ws, hH, hS, h⟩ := h
 exact h φ H hH Step.refl σ hS
theorem Ry {D : Ends} {σ : L2.St} {H : Hp} (h : tS X (aq a b) D σ H) : Em (tS X a) (tS X b) D σ H := by
 obtain ⟨φ, ph, ws, hH, hS, h⟩ := h
 unfold aq at h
 rw [cq] at h
 refine ⟨φ, ph, ws, hH, hS, h.mono (fun f ph1 h au H1 aD s1 => ?_) fun _ _ z => z⟩
 cases f with
 | nx jj => exact fun aP ij => ⟨au, ph1, jj, aD, ij, h.mono (fun f ph2 k aS H2 aY s2 => k aS H2 aY (s1.trans s2)) fun _ _ z => z.step s1⟩
 | bk jj => exact h au H1 aD s1
 | ct jj => exact h au H1 aD s1
 | rt w => exact h au H1 aD s1
theorem P2 (h1 : IS X st a) (h2 : gG X rest b) : gG X (st :: rest) (aq a b) := dO.imp (PM h1 h2) fun _ _ _ h => Ry h
theorem Rz (h1 : IS X st a) : gG X [st] a := Rc h1
theorem RA (he : IE X e m) (hs : swapsWith e none pos.line X.env = pure false := by rfl) : IS X (.Expr e pos) (fV m) := PS.imp (Rf he hs) fun D σ H h => by
 obtain ⟨φ, ph, ws, hH, hS, h⟩ := h
 exact tM.bind hH hS h fun w ph1 au H1 v aD s1 r1 h => h au H1 aD s1 σ (hS.mono s1)
theorem Ui (he : IE X e m) : IS X (.Return (some e) pos) (aN m) := PS.imp (Tr he) fun D σ H h => by
 obtain ⟨φ, ph, ws, hH, hS, h⟩ := h
 exact tM.bind hH hS h fun w ph1 au H1 v aD s1 r1 h => h au H1 aD s1 v r1
theorem WM (hc : IT X c t) (ha : gG X as a) (hb : gG X bs b) : IS X (.If c as bs pos) (aU t a b) := PS.imp (Wk hc ha hb) fun D σ H h => by
 obtain ⟨φ, ph, ws, hH, hS, h⟩ := h
 refine tT.bind hH hS h fun x ph1 au H1 aD s1 h => ?_
 cases x with
 | true => exact mB ⟨au, ph1, ws, aD, hS.mono s1, h.mono (fun _ _ k aS H2 aY s2 => k aS H2 aY (s1.trans s2)) fun _ _ z => z⟩
 | false => exact mz ⟨au, ph1, ws, aD, hS.mono s1, h.mono (fun _ _ k aS H2 aY s2 => k aS H2 aY (s1.trans s2)) fun _ _ z => z⟩
theorem RB {i : Nat} {x : Str} (hN : X.N.Nodup) (hi : X.N[i]? = some x) (hx : Loc X.env.scope x) (hf : X.fn x = true \/ X.env.scope.names.lookup x = some .local := by first | exact .inl rfl | exact .inr rfl | assumption) : IG X (.Name x pos) (gN i) :=
 PG.imp (Rg hN hi hx hf) fun v σ H Q h => by
  obtain ⟨φ, ph, ws, w, hH, hS, cR, h⟩ := h
  exact h φ H _ hH Step.refl (hS.set cR i)
theorem tG.bind {β : Type} {g : GM} {σ : L2.St} {H : Hp} {Q : L2.St -> Hp -> Prop} {φ : Nat -> Addr} {ph : PH} {ws : aE} {w : W} {v : V} {f : aE -> Mo β} {N : β -> PH -> Prop} (hH : ax X.K φ ph H) (hS : aR X.K φ ph.length H ws σ) (cR : ay X.K φ ph.length H w v) (h : (ap (g w ws) f ph).Run N (XE X φ ph.length H))
  (k : ∀ jj ph1 au H1 aP, ax X.K au ph1 H1 -> Step X.K φ ph.length H au ph1.length H1 -> aR X.K au ph1.length H1 jj aP -> (f jj ph1).Run N (XE X au ph1.length H1) -> Q aP H1) : tG X g v σ H Q := by
 rw [cq] at h
 exact ⟨φ, ph, ws, w, hH, hS, cR, h.mono (fun jj ph1 h1 au H1 aP aD s1 r1 => k jj ph1 au H1 aP aD s1 r1 (h1.mono (fun _ _ z => z) fun _ _ z => z.step s1)) fun _ _ z => z⟩
theorem RC {D : Ends} {σ : L2.St} {H : Hp} (h : tS X (aC m g) D σ H) : uh (tM X m) (tG X g) D σ H := by
 obtain ⟨φ, ph, ws, hH, hS, h⟩ := h
 refine tM.bind hH hS h fun w ph1 au H1 v aD s1 r1 h => ?_
 exact tG.bind aD (hS.mono s1) r1 h fun eV ph2 aS H2 bF aY s2 jk h => h aS H2 aY (s1.trans s2) bF jk
theorem Uj {i : Nat} {x : Str} {pos' : Pos} (hN : X.N.Nodup) (hi : X.N[i]? = some x) (hx : Loc X.env.scope x) (he : IE X e m) (hs : swapsWith e (some (.Name x pos')) pos.line X.env = pure false := by rfl)
  (hf : X.fn x = true \/ X.env.scope.names.lookup x = some .local := by first | exact .inl rfl | exact .inr rfl | assumption) : IS X (.Assign [.Name x pos'] e pos) (aC m (gN i)) :=
 PS.imp (Tu hN hi hx he hs hf) fun D σ H h => by
  obtain ⟨φ, ph, ws, hH, hS, h⟩ := h
  exact tM.bind hH hS h fun w ph1 au H1 v aD s1 r1 h => h au H1 aD s1 _ ((hS.mono s1).set r1 i)
theorem Uk (he : IE X e m) (hg : IG X tg g) (hs : swapsWithSole [tg] e pos.line X.env = pure false := by rfl) (hw : swappedStores [tg] e X.env = pure none := by rfl)
  (h1 : (assignEach [tg] X.env).map (·.2) = [assign tg X.env] := by rfl) : IS X (.Assign [tg] e pos) (aC m g) := PS.imp (Tt he hg hs hw h1) fun _ _ _ h => RC h
end
abbrev IM := aE -> Mo (List W × (PH -> Bool))
def cP (chk : PH -> Bool) (g : GM) (b : SM) : List W -> SM
 | [], σ => fun ph => if chk ph = true then .ok (.nx σ) ph else .no
 | x :: xs, σ => fun ph => if chk ph = true then ap (g x σ) (fun aP => ap (b aP) fun f => match f with
   | .nx ao => cP chk g b xs ao
   | .ct ao => cP chk g b xs ao
   | .bk ao => aw (.nx ao)
   | .rt w => aw (.rt w)) ph else .no
def b9 (im : IM) (g : GM) (b : SM) : SM := fun σ => ap (im σ) fun r => cP r.2 g b r.1 σ
def qr (K : PySem.W.Frag) (J : It) (items : List W) (chk : PH -> Bool) (φ : Nat -> Addr) (n : Nat) (H : Hp) : Prop :=
 ∀ ak ph' H', ax K ak ph' H' -> Step K φ n H ak ph'.length H' -> chk ph' = true -> ∀ i : Nat,
  (∀ w, items[i]? = some w -> J.go i H' /\ ∀ x d7, J.qi i H' x d7 -> ax K ak ph' d7 /\ Step K ak ph'.length H' ak ph'.length d7 /\ ay K ak ph'.length d7 w x) /\ (items[i]? = none -> J.stop i H')
def tI (X : Cx) (im : IM) : TI := fun σ H R => ∃ φ ph ws, ax X.K φ ph H /\ aR X.K φ ph.length H ws σ /\ (im ws ph).Run (fun r ph' =>
 ∀ ak H' J, ax X.K ak ph' H' -> Step X.K φ ph.length H ak ph'.length H' -> qr X.K J r.1 r.2 ak ph'.length H' -> R J H') (XE X φ ph.length H)
abbrev II (X : Cx) (tg iter : Expr) (im : IM) : Prop := PI X tg iter (tI X im)
section
variable {X : Cx} {iter tg c : Expr} {im : IM} {g : GM} {b : SM} {t : TM} {body : List Stmt} {pos : Pos}
theorem RD {D : Ends} {σ : L2.St} {H : Hp} (h : tS X (b9 im g b) D σ H) : Eo (tI X im) (tG X g) (tS X b) D σ H := by
 obtain ⟨φ, ph, ws, hH, hS, h⟩ := h
 unfold b9 at h
 rw [cq] at h
 refine ⟨φ, ph, ws, hH, hS, h.mono (fun r ph1 h au H1 J aD s1 hJ => ?_) fun _ _ z => z⟩
 obtain ⟨items, chk⟩ := r
 refine ⟨fun i m bF H2 => ∃ aS ph2 eV, m = (items.drop i).length /\ ax X.K aS ph2 H2 /\ aR X.K aS ph2.length H2 eV bF /\ Step X.K au ph1.length H1 aS ph2.length H2 /\
   (cP chk g b (items.drop i) eV ph2).Run (fun f ph' => ∀ ak H', ax X.K ak ph' H' -> Step X.K aS ph2.length H2 ak ph'.length H' -> mC X D ak ph' H' f) (XE X aS ph2.length H2),
  ⟨_, au, ph1, ws, rfl, aD, hS.mono s1, Step.refl, h.mono (fun f ph' k ak H' r' s' => k ak H' r' (s1.trans s')) fun _ _ z => z.step s1⟩, ?_⟩
 rintro i m bF H2 ⟨aS, ph2, eV, rfl, aY, jk, s2, h2⟩
 cases hd : items.drop i with
 | nil =>
  rw [hd] at h2
  unfold cP at h2
  split at h2
  ·rename_i hc
   have hn : items[i]? = none := by
    have : items.length <= i := by simpa using hd
    simpa using this
   exact .inl ⟨(hJ aS _ H2 aY s2 hc i).2 hn, h2 aS H2 aY Step.refl bF jk⟩
  ·exact h2.elim
 | cons x xs =>
  rw [hd] at h2
  unfold cP at h2
  split at h2
  ·rename_i hc
   have hx : items[i]? = some x := by
    have := congrArg (fun l => l[0]?) hd
    simpa using this
   have mL : items.drop (i + 1) = xs := by
    have := congrArg (fun l => l.drop 1) hd
    simpa [List.drop_drop, Nat.add_comm] using this
   obtain ⟨yK, hy⟩ := (hJ aS _ H2 aY s2 hc i).1 x hx
   refine .inr ⟨yK, fun ao H' => ∃ ak fC ws', ax X.K ak fC H' /\ aR X.K ak fC.length H' ws' ao /\ Step X.K au ph1.length H1 ak fC.length H' /\
     (cP chk g b xs ws' fC).Run (fun f p' => ∀ f6 H3, ax X.K f6 p' H3 -> Step X.K ak fC.length H' f6 p'.length H3 -> mC X D f6 p' H3 f) (XE X ak fC.length H'),
    fun ao H' ⟨ak, fC, ws', q1, q2, q3, q4⟩ => ⟨xs.length, by simp, ak, fC, ws', by rw [mL], q1, q2, q3, by rw [mL]; exact q4⟩, fun v H3 y => ?_⟩
   obtain ⟨d8, s3, rv⟩ := hy v H3 y
   have qt : (ap (g x eV) (fun aP => ap (b aP) fun f => match f with
    | .nx ao => cP chk g b xs ao
    | .ct ao => cP chk g b xs ao
    | .bk ao => aw (.nx ao)
    | .rt w => aw (.rt w)) ph2).Run (fun f ph' => ∀ ak H', ax X.K ak ph' H' -> Step X.K aS ph2.length H2 ak ph'.length H' -> mC X D ak ph' H' f) (XE X aS ph2.length H3) := Out.Run.mono h2 (fun _ _ z => z) fun _ _ z => z.step s3
   refine tG.bind d8 (jk.mono s3) rv qt fun Zp cK qX H4 jr Zq s4 Zr h4 => ?_
   rw [cq] at h4
   refine ⟨qX, cK, Zp, Zq, Zr, h4.mono (fun f gI h5 ix H5 ik s5 => ?_) fun _ _ z => z⟩
   have pQ := ((s2.trans s3).trans s4).trans s5
   have kf := (s3.trans s4).trans s5
   cases f with
   | nx eW => exact fun fK eX => ⟨ix, gI, eW, ik, eX, pQ, h5.mono (fun f p' k ak H' r' s' => k ak H' r' (kf.trans s')) fun _ _ z => z.step s5⟩
   | ct eW => exact fun fK eX => ⟨ix, gI, eW, ik, eX, pQ, h5.mono (fun f p' k ak H' r' s' => k ak H' r' (kf.trans s')) fun _ _ z => z.step s5⟩
   | bk eW => exact fun fK eX => h5 ix H5 ik kf fK eX
   | rt w => exact fun v hv => h5 ix H5 ik kf v hv
  ·exact h2.elim
theorem PI.imp {t t' : TI} (h : PI X tg iter t) (k : ∀ σ H R, t' σ H R -> t σ H R) : PI X tg iter t' := fun pins s σ H R I q => h pins s σ H R I (k σ H R q)
theorem Ul (hp : PassesOwn (model X.prog X.w) X.A X.env X.xe) (hc : X.calm = true) (hi : II X tg iter im) (hg : IG X tg g) (hb : gG X body b) (hs : ∀ x, foldedSetIterable iter X.env x = pure x := by intro _; rfl) :
  IS X (.For tg iter body [] pos) (b9 im g b) := PS.imp (Tz hp hc hi hg hb hs) fun _ _ _ h => RD h
def xZ (w : W) : Po (List W × (PH -> Bool)) := fun ph => match w with
 | .ref i => match ph[i]? with
  | some (.lst ws) => some ((ws, fun ph' => decide (ph'[i]? = some (.lst ws))), ph)
  | _ => none
 | .fl ws => some ((ws, fun _ => true), ph)
 | _ => none
def tupI (w : W) : Po (List W × (PH -> Bool)) := fun ph => match w with
 | .tup ws => some ((ws, fun _ => true), ph)
 | _ => none
def di (m : EM) : IM := fun σ => ap (m σ) fun w => lift (xZ w)
theorem RE {l : Expr} {m : EM} (hl : IE X l m) : II X tg l (di m) := by
 refine PI.imp (Ri hl) fun σ H R h => ?_
 obtain ⟨φ, ph, ws, hH, hS, h⟩ := h
 refine tM.bind hH hS h fun w ph1 au H1 v aD s1 r1 h => ?_
 obtain ⟨r, ph', e, k⟩ := run_lift h
 unfold xZ at e
 cases r1 with
 | ref hi =>
  rename_i i
  simp only at e
  split at e
  ·rename_i items hw
   cases e
   obtain ⟨vs, hv, r⟩ := aD.hp _ _ hw
   refine ⟨_, rfl, ⟨vs, bb.of hv⟩, k au H1 _ aD s1 ?_⟩
   intro aS ph2 H2 aY s2 hc j
   have fX : ph2[i]? = some (.lst items) := of_decide_eq_true hc
   obtain ⟨us, hu, ru⟩ := aY.hp _ _ fX
   rw [s2.eq i hi] at hu
   refine ⟨fun w fo => ?_, fun hn => ?_⟩
   ·obtain ⟨u, eu, yL⟩ := ru.get fo
    refine ⟨⟨us, u, bb.of hu, eu⟩, fun x d7 hy => ?_⟩
    obtain ⟨rfl, hy⟩ := hy
    have := hy us (bb.of hu)
    rw [eu] at this; cases this
    exact ⟨aY, Step.refl, yL⟩
   ·refine ⟨us, bb.of hu, ?_⟩
    rw [<- ru.length]
    simpa using hn
  ·cases e
 | fl hq r =>
  cases e
  refine ⟨_, rfl, ⟨_, hq.sq⟩, k au H1 _ aD s1 ?_⟩
  intro aS ph2 H2 aY s2 hc j
  have h2 := ay.mono s2 (.fl hq r)
  cases h2 with
  | fl h2 r2 =>
   refine ⟨fun w fo => ?_, fun hn => ?_⟩
   ·obtain ⟨u, eu, yL⟩ := r2.get fo
    refine ⟨⟨_, u, h2.sq, eu⟩, fun x d7 hy => ?_⟩
    obtain ⟨rfl, hy⟩ := hy
    have := hy _ h2.sq
    rw [eu] at this; cases this
    exact ⟨aY, Step.refl, yL⟩
   ·refine ⟨_, h2.sq, ?_⟩
    rw [<- r2.length]
    simpa using hn
 | _ => cases e
def eS (lo : Int) (n : Nat) : List W := (List.range n).map fun i : Nat => .int (lo + ((i : Nat) : Int))
def ya (xs : List W) : Po (List W × (PH -> Bool)) := fun ph => match xs with
 | [.int j] => if -(2 ^ 62) <= j /\ j < 2 ^ 62 then some ((eS 0 j.toNat, fun _ => true), ph) else none
 | _ => none
def yb (xs : List W) : Po (List W × (PH -> Bool)) := fun ph => match xs with
 | [.int i, .int j] => if -(2 ^ 62) <= i /\ i < 2 ^ 62 /\ -(2 ^ 62) <= j /\ j < 2 ^ 62 then some ((eS i (j - i).toNat, fun _ => true), ph) else none
 | _ => none
def eY (m : AM) : IM := fun σ => ap (m σ) fun xs => lift (ya xs)
def mM (m : AM) : IM := fun σ => ap (m σ) fun xs => lift (yb xs)
theorem Dd {K : PySem.W.Frag} {lo : Int} {n : Nat} {chk : PH -> Bool} {φ : Nat -> Addr} {k : Nat} {H : Hp} : qr K (qj lo n) (eS lo n) chk φ k H := by
 intro aS ph2 H2 aY s2 hc j
 unfold eS
 refine ⟨fun w fo => ?_, fun hn => ?_⟩
 ·rw [List.getElem?_map] at fo
  have hj : j < n := by
   by_cases hj : j < n
   ·exact hj
   ·rw [List.getElem?_eq_none (by simpa using hj)] at fo; cases fo
  rw [List.getElem?_range hj] at fo
  cases fo
  refine ⟨hj, fun x d7 hy => ?_⟩
  obtain ⟨rfl, rfl⟩ := hy
  exact ⟨aY, Step.refl, .int _⟩
 ·have : n <= j := by simpa using hn
  exact this
theorem OY {a : Expr} {m : AM} {p : Pos} (hg : Gl X "range") (hm : X.mg "range" = none) (ha : IA X [a] m) (hs : starEach [a] X.env = [(false, eval a X.env)] := by rfl) : II X tg (.Call (.Name "range" p) [a] [] pos) (eY m) := by
 refine PI.imp (ON hg hm ha hs) fun σ H R h => ?_
 obtain ⟨φ, ph, ws, hH, hS, h⟩ := h
 refine tA.bind hH hS h fun xs ph1 au H1 vs aD s1 r1 h => ?_
 obtain ⟨r, ph', e, k⟩ := run_lift h
 unfold ya at e
 split at e
 ·split at e
  ·rename_i hc
   cases e
   cases r1 with
   | cons r r' => cases r; cases r'; exact ⟨_, rfl, hc.1, hc.2, k au H1 _ aD s1 Dd⟩
  ·cases e
 ·cases e
theorem OZ {a b' : Expr} {m : AM} {p : Pos} (hg : Gl X "range") (hm : X.mg "range" = none) (ha : IA X [a, b'] m) (hs : starEach [a, b'] X.env = [(false, eval a X.env), (false, eval b' X.env)] := by rfl) (d5 : starEach [b'] X.env = [(false, eval b' X.env)] := by rfl) :
  II X tg (.Call (.Name "range" p) [a, b'] [] pos) (mM m) := by
 refine PI.imp (OO hg hm ha hs d5) fun σ H R h => ?_
 obtain ⟨φ, ph, ws, hH, hS, h⟩ := h
 refine tA.bind hH hS h fun xs ph1 au H1 vs aD s1 r1 h => ?_
 obtain ⟨r, ph', e, k⟩ := run_lift h
 unfold yb at e
 split at e
 ·split at e
  ·rename_i hc
   cases e
   cases r1 with
   | cons r r' =>
    cases r
    cases r' with
    | cons r r' => cases r; cases r'; exact ⟨_, _, rfl, hc, k au H1 _ aD s1 Dd⟩
  ·cases e
 ·cases e
def cG (t : TM) (b : SM) : Nat -> SM
 | 0 => fun _ => d6
 | n + 1 => fun σ => ap (t σ) fun c => if c = true then ap (b σ) fun f => match f with
   | .nx ao => cG t b n ao
   | .ct ao => cG t b n ao
   | .bk ao => aw (.nx ao)
   | .rt w => aw (.rt w)
  else aw (.nx σ)
def Out.nU {α : Type} : Out α -> Bool
 | .no => true
 | _ => false
open Classical in
noncomputable def iR (t : TM) (b : SM) : SM := fun σ ph => if h : ∃ n, (cG t b n σ ph).nU = false then cG t b h.choose σ ph else .no
theorem O0 {D : Ends} {σ : L2.St} {H : Hp} (h : tS X (iR t b) D σ H) : C4 (tT X t) (tS X b) D σ H := by
 obtain ⟨φ, ph, ws, hH, hS, h⟩ := h
 have ⟨n, h⟩ : ∃ n, (cG t b n ws ph).Run (fun f ph' => ∀ ak H', ax X.K ak ph' H' -> Step X.K φ ph.length H ak ph'.length H' -> mC X D ak ph' H' f) (XE X φ ph.length H) := by
  unfold iR at h
  split at h
  ·exact ⟨_, h⟩
  ·exact h.elim
 refine ⟨fun m bF H2 => ∃ aS ph2 eV, ax X.K aS ph2 H2 /\ aR X.K aS ph2.length H2 eV bF /\
  (cG t b m eV ph2).Run (fun f ph' => ∀ ak H', ax X.K ak ph' H' -> Step X.K aS ph2.length H2 ak ph'.length H' -> mC X D ak ph' H' f) (XE X aS ph2.length H2), ⟨n, φ, ph, ws, hH, hS, h⟩, ?_⟩
 rintro m bF H2 ⟨aS, ph2, eV, aY, jk, h2⟩
 cases m with
 | zero => exact h2.elim
 | succ m =>
  refine tT.bind aY jk h2 fun c dm f6 H3 d8 s3 h3 => ?_
  cases c with
  | false => exact mz (h3 f6 H3 d8 s3 bF (jk.mono s3))
  | true =>
   have Ff : (ap (b eV) (fun f => match f with
    | .nx ao => cG t b m ao
    | .ct ao => cG t b m ao
    | .bk ao => aw (.nx ao)
    | .rt w => aw (.rt w)) dm).Run _ _ := h3
   rw [cq] at Ff
   refine mB ⟨fun ao H' => ∃ ak fC ws', ax X.K ak fC H' /\ aR X.K ak fC.length H' ws' ao /\
    (cG t b m ws' fC).Run (fun f p' => ∀ qX H4, ax X.K qX p' H4 -> Step X.K ak fC.length H' qX p'.length H4 -> mC X D qX p' H4 f) (XE X ak fC.length H'), fun ao H' q => ⟨m, Nat.lt_succ_self _, q⟩, ?_⟩
   refine ⟨f6, dm, eV, d8, jk.mono s3, Ff.mono (fun f gI h5 ix H5 ik s5 => ?_) fun _ _ z => z⟩
   have kf := s3.trans s5
   cases f with
   | nx eW => exact fun fK eX => ⟨ix, gI, eW, ik, eX, h5.mono (fun f p' k ak H' r' s' => k ak H' r' (kf.trans s')) fun _ _ z => z.step s5⟩
   | ct eW => exact fun fK eX => ⟨ix, gI, eW, ik, eX, h5.mono (fun f p' k ak H' r' s' => k ak H' r' (kf.trans s')) fun _ _ z => z.step s5⟩
   | bk eW => exact fun fK eX => h5 ix H5 ik kf fK eX
   | rt w => exact fun v hv => h5 ix H5 ik kf v hv
theorem P4 (hp : PassesOwn (model X.prog X.w) X.A X.env X.xe) (hc : IT X c t) (hb : gG X body b) : IS X (.While c body [] pos) (iR t b) :=
 PS.imp (PP hp hc hb) fun _ _ _ h => O0 h
end
def ag : AM := fun _ => aw []
def ab (e : EM) (r : AM) : AM := fun σ => ap (e σ) fun w => ap (r σ) fun ws => aw (w :: ws)
def jQ (ws : List W) : Po W := fun ph => if ws.length <= sizeLine then some (.tup ws, ph) else none
def nV (ws : List W) : Po W := fun ph => if ws.length <= sizeLine then some (.ref ph.length, ph ++ [.lst ws]) else none
def bK (a : AM) : EM := fun σ => ap (a σ) fun ws => lift (jQ ws)
def bQ (a : AM) : EM := fun σ => ap (a σ) fun ws => lift (nV ws)
section
variable {X : Cx} {e : Expr} {es : List Expr} {m : EM} {a : AM} {pos : Pos}
theorem Um : IA X [] ag := PA.imp C6 fun σ H Q h => by
 obtain ⟨φ, ph, ws, hH, hS, h⟩ := h
 exact h φ H [] hH Step.refl .nil
theorem RF (he : IE X e m) (hr : IA X es a) (hs : starEach (e :: es) X.env = (false, eval e X.env) :: starEach es X.env := by rfl) : IA X (e :: es) (ab m a) := PA.imp (wD he hr hs) fun σ H Q h => by
 obtain ⟨φ, ph, ws, hH, hS, h⟩ := h
 refine tM.bind hH hS h fun w ph1 au H1 v aD s1 r1 h => tA.bind aD (hS.mono s1) h fun ys ph2 aS H2 vs aY s2 r2 h => ?_
 exact h aS H2 _ aY (s1.trans s2) (.cons (r1.mono s2) r2)
theorem Uo {x1 : Nat} (h : IA X es a) : IE X (.Tuple es x1 pos) (bK a) := PE.imp (TR h) fun σ H Q h => by
 obtain ⟨φ, ph, ws, hH, hS, h⟩ := h
 refine tA.bind hH hS h fun xs ph1 au H1 vs aD s1 r1 h => ?_
 obtain ⟨w, ph', e, k⟩ := run_lift h
 unfold jQ at e
 split at e
 ·rename_i hz
  cases e
  refine ⟨by rw [<- r1.length]; exact hz, fun p hp => ?_⟩
  exact k au _ _ (aD.tup hp) (s1.trans (ng hp)) (.tup bw (r1.mono (ng hp)))
 ·cases e
theorem nh {K : PySem.W.Frag} {φ : Nat -> Addr} {ph : PH} {H : Hp} {p : Addr} {ws : List W} {vs : List V} (hH : ax K φ ph H) (r : aK K φ ph.length H ws vs) (hp : H p = none) :
  ax K (ext φ ph.length p) (ph ++ [.lst ws]) (upd H p (.lst vs)) /\ Step K φ ph.length H (ext φ ph.length p) (ph ++ [PO.lst ws]).length (upd H p (.lst vs)) /\ ay K (ext φ ph.length p) (ph ++ [PO.lst ws]).length (upd H p (.lst vs)) (.ref ph.length) (.ref p) := by
 have hl : (ph ++ [PO.lst ws]).length = ph.length + 1 := by simp
 rw [hl]
 have s := oU (K := K) (φ := φ) (n := ph.length) (o := HO.lst vs) hp
 refine ⟨hH.new hp ⟨vs, bw, r.mono s⟩, s, ?_⟩
 have q : ay K (ext φ ph.length p) (ph.length + 1) (upd H p (.lst vs)) (.ref ph.length) (.ref (ext φ ph.length p ph.length)) := .ref (Nat.lt_succ_self _)
 rw [iQ] at q
 exact q
theorem Up (h : IA X es a) : IE X (.List es pos) (bQ a) := PE.imp (TU h) fun σ H Q h => by
 obtain ⟨φ, ph, ws, hH, hS, h⟩ := h
 refine tA.bind hH hS h fun xs ph1 au H1 vs aD s1 r1 h => ?_
 obtain ⟨w, ph', e, k⟩ := run_lift h
 unfold nV at e
 split at e
 ·rename_i hz
  cases e
  refine ⟨by rw [<- r1.length]; exact hz, fun p hp => ?_⟩
  obtain ⟨q1, q2, q3⟩ := nh aD r1 hp
  exact k _ _ _ q1 (s1.trans q2) q3
 ·cases e
end
def aB (f : List W -> Mo W) (a : AM) : EM := fun σ => ap (a σ) f
def gC : Fl -> Mo W
 | .rt w => aw w
 | .nx _ => aw .az
 | _ => d6
def fM (body : SM) (n np : Nat) (args : List W) : Mo W := if args.length = np then ap (body (args.map some ++ List.replicate (n - args.length) none)) gC else d6
theorem a9 {body : SM} {n np : Nat} {xs : List W} {ph : PH} (h : xs.length ≠ np) : fM body n np xs ph = .no := by
 unfold fM
 rw [if_neg h]
 rfl
def bE (P : Program) (w : World) : fG := fun l H s E e s' => ∃ C H', Flew P w l H s C H' e s' /\ E (.ref C) none H'
def bN (K : PySem.W.Frag) (mg : Str -> Option Value) (np : Nat) (f : List W -> Mo W) : Sp := fun vs H Q E => vs.length = np /\ ∃ φ ph args, ax K φ ph H /\ aK K φ ph.length H args vs /\ (f args ph).Run (fun w ph' =>
 ∀ ak H' v, ax K ak ph' H' -> Step K φ ph.length H ak ph'.length H' -> ay K ak ph'.length H' w v -> Q v H') (fun x ph' =>
 ∀ ak H' C, ax K ak ph' H' -> Step K φ ph.length H ak ph'.length H' -> mg x.cls = some (.ref C) -> x.fs = [] -> E (.ref C) none H')
section
variable {X : Cx} {k : Nat} {f : Addr} {fd : FuncData} {ps : List Str} {fm : List W -> Mo W} {x : Str} {p pos : Pos} {e : Expr} {es : List Expr} {a : AM}
theorem RG {CX : fG} {sp : Sp} {E : XK} {pins : List (Addr × Obj)} {σ : L2.St} {H : Hp} {s : Shared} {Q : VK} {us : List Value} {vs : List V} (F : bp X.prog X.w X.K X.mg X.base CX k f fd ps sp) (hr : bV k X.A) (hb : Binds X.K fd ps [])
  (I : Inv X pins σ H s) (r : Vals vs us) (h : sp vs H Q E) (hx : ∀ e s', CX X.stack H s E e s' -> X.xe e s') : wpAny (model X.prog X.w) X.A (call (.ref f) us) (EP X pins σ Q) X.xe s := by
 have hl : (us ++ []).length = ps.length := by rw [List.append_nil, <- r.length]; exact F.len _ _ _ _ h
 have uM := hb s us I.dN hl
 rw [List.append_nil] at uM
 refine wpAny_call (codeAny_mono (F.run X.A X.stack s H ⟨us, []⟩ us vs Q E hr I.Eu uM r h) fun r s' hq => ?_)
 cases r with
 | error e => exact hx e s' hq
 | ok fl =>
  cases fl with
  | ret u => exact I.after hq
  | _ => exact False.elim hq
theorem RH (F : bp X.prog X.w X.K X.mg X.base (bE X.prog X.w) k f fd ps (bN X.K X.mg ps.length fm)) (hl : ∀ {xs : List W} {ph : PH}, xs.length ≠ ps.length -> fm xs ph = .no) (hr : bV k X.A) (hg : Gl X x) (hm : X.mg x = some (.ref f))
  (hk : PySem.W.keepIn X.K (.ref f) = true) (hb : Binds X.K fd ps []) (ha : IA X (e :: es) a) (cy : (x == ("__debug__" : Str)) = false := by decide) (he : starEach (e :: es) X.env = (false, eval e X.env) :: starEach es X.env := by rfl) (hpl : (backTo pos (starEach es X.env)).any (·.1) = false := by rfl) :
  IE X (.Call (.Name x p) (e :: es) [] pos) (aB fm a) := by
 intro pins s σ H Q I h
 obtain ⟨φ, ph, ws, hH, hS, h⟩ := h
 have hA : tA X a σ H (fun vs H1 => ∃ au ph1 xs, ax X.K au ph1 H1 /\ aK X.K au ph1.length H1 xs vs /\ (fm xs ph1).Run (fun w ph' => ∀ ak H' v, ax X.K ak ph' H' -> Step X.K au ph1.length H1 ak ph'.length H' -> ay X.K ak ph'.length H' w v -> Q v H') (XE X au ph1.length H1)) :=
  tA.bind hH hS h fun xs ph1 au H1 vs aD s1 r1 h => ⟨au, ph1, xs, aD, r1, h.mono (fun w ph' k ak H' v r' s' q => k ak H' v r' (s1.trans s') q) fun _ _ z => z⟩
 refine wpAny_Call_Name_kw (B4 I hg hm (PySem.W.callWith_K (h₀ := X.base) I.ok.mod.yw hk (aT (ha pos pins s σ H _ I hA) fun us s1 ⟨vs, H1, I1, r, q⟩ => ⟨I1.dN, ?_⟩) he hpl) cy)
 obtain ⟨au, ph1, xs, aD, r1, h1⟩ := q
 have bz : vs.length = ps.length := by
  rw [<- r1.length]
  by_cases z : xs.length = ps.length
  ·exact z
  ·rw [hl z] at h1; exact h1.elim
 refine RG (E := fun c _ H' => ∃ x ph' ak, fm xs ph1 = .ex x ph' /\ ax X.K ak ph' H' /\ Step X.K au ph1.length H1 ak ph'.length H' /\ ∃ C, c = .ref C /\ X.mg x.cls = some (.ref C) /\ x.fs = []) F hr hb I1 r ⟨bz, au, ph1, xs, aD, r1, ?_⟩ fun e s' hx => ?_
 ·cases q : fm xs ph1 with
  | ok w ph' => rw [q] at h1; exact h1
  | ex x ph' => exact fun ak H' C hr hs hm hf => ⟨x, ph', ak, rfl, hr, hs, C, rfl, hm, hf⟩
  | no => rw [q] at h1; exact h1
 ·obtain ⟨C, H', uP, x, ph', ak, ef, Zs, qu, C', ec, Zt, Zu⟩ := hx
  cases ec
  rw [ef] at h1
  exact h1 ak H' e s' Zs qu ⟨C, Zt, Zu, .inr ⟨pins, σ, H1, s1, I1, uP⟩⟩
end
section
variable {P : Program} {w : World} {K : PySem.W.Frag} {mg : Str -> Option Value} {base : Heap}
theorem RI {H' : Hp} {h : Heap} {fr : List Addr} (aF : bX P w H' h) (hf : ∀ b ∈ fr, H' b = none) : bX P w H' (PySem.W.hideAll h fr) := fun a o e => by
 refine (aF a o e).gv (fun b u hb q => PySem.W.hideAll_get _ q fun hm => ?_) (fun _ q => q) fun _ _ q => q
 have := hf b hm
 rcases hb with z | z
 ·rw [z, e] at this; cases this
 ·rw [z] at this; cases this
theorem wb {env : Env} {l : List Env} (hf : env.frame = some env.locals) : dM (env :: l) = env.locals :: dM l := by
 unfold dM
 rw [List.filterMap_cons, hf]
theorem N7 {X : Cx} {C : Addr} {H' : Hp} {e : Value} {s' : Shared} {E : Value -> Shared -> Prop} (fF : X.stack = X.env :: X.outer) (hf : X.env.frame = some X.env.locals) (hex : X.ex = []) (hm : Made X C H' e s') :
  wpAny (model X.prog X.w) X.A (leaving X.env e) (fun _ gF => Flew X.prog X.w X.outer X.aG X.aA C H' e gF) E s' := by
 obtain ⟨pins, σ, s, vs, h', a, rfl, rfl, I, hx⟩ := hm
 have sf := I.wC
 have hl := I.stack
 rw [fF] at sf hl
 have Zv : ∀ env ∈ X.env :: X.outer, ∀ b, env.frame = some b -> b ∈ dM (X.env :: X.outer) := fun env he b hb => List.mem_filterMap.mpr ⟨env, he, hb⟩
 have gJ : ∀ b : Addr, b ∉ X.ex := fun b z => by rw [hex] at z; exact nomatch z
 have out : ∀ b o, X.aA.heap.get? b = some o -> b ∉ X.fs -> b ∉ dM (X.env :: X.outer) := fun b o e hb hm => by
  rw [wb hf] at hm
  rcases List.mem_cons.mp hm with z | z
  ·exact absurd (Nat.lt_of_lt_of_le (Heap.lt_size e) I.ok.above) (by rw [z]; exact Nat.lt_irrefl _)
  ·exact hb z
 refine wpAny_leaves_madeW (base := PySem.W.hideAll s.heap (dM (X.env :: X.outer))) (h := s.heap) (by rw [I.ok.frames, fF]) hf (fun b o q => PySem.W.of_hideAll _ q) (PySem.W.funFrames_hide hl Zv) hx fun Zw t f1 f2 f3 f4 => ?_
 refine ⟨a, .ref t, _, rfl, I.os, I.bare, f1, RI I.aF sf, ⟨fun b o e n hb => PySem.W.hideAll_get _ (I.base.keep b o e n hb (gJ b)) (out b o e hb), fun b o e n hb => ?_, fun b o e n => I.base.free b o e n (gJ b), fun b o e hb => ?_, I.base.d0, I.base.dC, I.base.d3⟩⟩
 ·obtain ⟨sl, e1⟩ := I.base.slot b o e n hb (gJ b)
  obtain ⟨_, o', ho, hd⟩ := I.ok.eR.mem hb
  rw [e] at ho
  cases ho
  obtain ⟨Fg, e2⟩ := f4 b _ (hx.keeps b _ e1) hd
  exact ⟨Fg, e2⟩
 ·obtain ⟨o', e1⟩ := I.base.there b o e (gJ b)
  exact ⟨o', PySem.W.hideAll_get _ e1 (out b o e hb)⟩
theorem N8 {X : Cx} {C : Addr} {H' H0 : Hp} {e : Value} {s s' : Shared} {pins : List (Addr × Obj)} {σ : L2.St} {E : Value -> Shared -> Prop} (fF : X.stack = X.env :: X.outer) (hf : X.env.frame = some X.env.locals) (hex : X.ex = []) (I : Inv X pins σ H0 s)
  (hm : Flew X.prog X.w X.stack H0 s C H' e s') : wpAny (model X.prog X.w) X.A (leaving X.env e) (fun _ gF => Flew X.prog X.w X.outer X.aG X.aA C H' e gF) E s' := by
 obtain ⟨a, a0, B, rfl, ho, WN, uP, aF, u⟩ := hm
 rw [fF] at uP u
 have gJ : ∀ b : Addr, b ∉ X.ex := fun b z => by rw [hex] at z; exact nomatch z
 have out : ∀ b o, X.aA.heap.get? b = some o -> b ∉ X.fs -> b ∉ dM (X.env :: X.outer) := fun b o e hb hm => by
  rw [wb hf] at hm
  rcases List.mem_cons.mp hm with z | z
  ·exact absurd (Nat.lt_of_lt_of_le (Heap.lt_size e) I.ok.above) (by rw [z]; exact Nat.lt_irrefl _)
  ·exact hb z
 refine wpAny_leaves_onW (by rw [I.ok.frames, fF]) hf uP fun Zw f1 f4 => ?_
 refine ⟨a, a0, B, rfl, ho.trans I.os, WN, f1, aF, ⟨fun b o e n hb => u.keep b o (I.base.keep b o e n hb (gJ b)) (I.base.free b o e n (gJ b)) (out b o e hb), fun b o e n hb => ?_, fun b o e n => ?_, fun b o e hb => ?_,
  fun b xs e => u.d0 b xs (I.base.d0 b xs e), fun b ob xs e => u.dC b ob xs (I.base.dC b ob xs e), fun b ps e => ?_⟩⟩
 ·obtain ⟨sl, e1⟩ := I.base.slot b o e n hb (gJ b)
  obtain ⟨_, o', jg, hd⟩ := I.ok.eR.mem hb
  rw [e] at jg
  cases jg
  obtain ⟨Fg, e2⟩ := u.slot b _ e1 (I.base.free b o e n (gJ b)) (by rw [wb hf]; exact List.mem_cons_of_mem _ hb)
  obtain ⟨Zx, e3⟩ := f4 b _ e2 hd
  exact ⟨Zx, e3⟩
 ·obtain ⟨o', e1⟩ := I.base.there b o e (gJ b)
  exact u.free b o' e1 (I.base.free b o e n (gJ b))
 ·obtain ⟨o', e1⟩ := I.base.there b o e (gJ b)
  exact u.there b o' e1 (out b o e hb)
 ·obtain ⟨m1, e1⟩ := I.base.d3 b ps e
  obtain ⟨m2, e2⟩ := u.d3 b _ e1
  exact ⟨m1 ++ m2, by rw [e2, Array.append_assoc]⟩
theorem Uq {x qual : Str} {st : Stmt} {f : Addr} {fd : FuncData} {N ps : List Str} {k : Nat} {body : SM} (F : bY K x qual st f fd) (S : bZ N ps (af st))
  (l6 : ∀ (bT : Value) (A : Around) (outer : List Env) (s : Shared) (H : Hp) (E : XK), bV k (A.deeper (envOfC qual (af st) s.heap.objs.size f bT)) →
   gG (i6 (bE P w) P w K mg base N qual (af st) f bT A outer s H E) (aW st) body) : bp P w K mg base (bE P w) (k + 1) f fd ps (bN K mg ps.length (fM body N.length ps.length)) := by
 obtain ⟨oc, od, kV, doc, pm, an, bT, ct, ic, rfl, lk, hcd⟩ := F.ex
 refine DR lk hcd S (fun vs H Q E h => h.1) fun A outer s H vs Q E hr h => ?_
 obtain ⟨hl, φ, ph, args, hH, ra, h⟩ := h
 refine ⟨_, l6 bT A outer s H E hr, ?_⟩
 have Fh : args.length = vs.length := ra.length
 unfold fM at h
 rw [if_pos (Fh.trans hl), cq, Fh] at h
 refine ⟨φ, ph, _, hH, aR.start (N.length - vs.length) ra, h.mono (fun fl ph' h au H1 aD s1 => ?_) fun x ph' h ak H' e s' r' cJ th => ?_⟩
 ·cases fl with
  | rt w => exact fun v rv => h au H1 v aD s1 rv
  | nx ao => exact fun aP ij => h au H1 .az aD s1 .az
  | bk ao => exact h.elim
  | ct ao => exact h.elim
 ·obtain ⟨C, hm, Zy, th⟩ := th
  have hE := h ak H' C r' cJ hm Zy
  have key : wpAny (model P w) (A.deeper (envOfC qual (af st) s.heap.objs.size f bT)) (leaving (envOfC qual (af st) s.heap.objs.size f bT) e) (fun _ gF => Flew P w outer H s C H' e gF) (fun e' gF => bE P w outer H s E e' gF) s' := by
   rcases th with th | ⟨pins, σ, H0, s0, I0, th⟩
   ·exact N7 (X := i6 (bE P w) P w K mg base N qual (af st) f bT A outer s H E) rfl rfl rfl th
   ·exact N8 (X := i6 (bE P w) P w K mg base N qual (af st) f bT A outer s H E) rfl rfl rfl I0 th
  exact wpAny_mono key (fun _ gF q => ⟨C, H', q, hE⟩) fun _ _ q => q
end
theorem Ca {K : PySem.W.Frag} {φ : Nat -> Addr} {n : Nat} {H : Hp} : ∀ (ns : List Int), aK K φ n H (ns.map W.int) (ns.map V.int)
 | [] => .nil
 | n :: ns => .cons (.int n) (Ca ns)
theorem Ur {K : PySem.W.Frag} {mg : Str -> Option Value} {H : Hp} {a : Addr} {ns : List Int} {fm : List W -> Mo W} (hO : pP H) (hS : bb K H a (ns.map V.int)) (h : ∃ ph', fm [.fl (ns.map W.int)] [] = .ok (.bl true) ph') :
  bN K mg 1 fm [.ref a] H (fun v _ => v = .bl true) fun _ _ _ => False := by
 obtain ⟨ph', e⟩ := h
 have hf : um K H a (ns.map V.int) := by
  rcases hS with h | h
  ·rcases h with h | h
   ·rcases hO a with z | ⟨o, xs, z⟩
    ·rw [z] at h; cases h
    ·rw [z] at h; cases h
   ·exact .inl h
  ·exact .inr h
 refine ⟨rfl, fun _ => 0, [], [.fl (ns.map W.int)], ⟨fun i o e => by simp at e, fun i j hi => absurd hi (by simp)⟩, .cons (.fl hf (Ca ns)) .nil, ?_⟩
 rw [e]
 intro ak H' v _ _ r
 cases r
 rfl
theorem bG.or {X : Cx} {f : Value -> Value -> Sem Value} {r r' : R2} (h : bG X f r) (h' : bG X f r') : bG X f (fun x y H Q => r x y H Q \/ r' x y H Q) := by
 intro pins s σ H x y v u Q I rx ry q
 rcases q with q | q
 ·exact h pins s σ H x y v u Q I rx ry q
 ·exact h' pins s σ H x y v u Q I rx ry q
theorem cf.inl {K : PySem.W.Frag} {r r' : R2} {f : W -> W -> Po W} (h : cf K r f) : cf K (fun x y H Q => r x y H Q \/ r' x y H Q) f := fun hH rx ry e k => .inl (h hH rx ry e k)
theorem cf.inr {K : PySem.W.Frag} {r r' : R2} {f : W -> W -> Po W} (h : cf K r' f) : cf K (fun x y H Q => r x y H Q \/ r' x y H Q) f := fun hH rx ry e k => .inr (h hH rx ry e k)
def bR (w : W) (ph : PH) : Option (List W) := match w with
 | .tup ws => some ws
 | .fl ws => some ws
 | .ref i => match ph[i]? with
  | some (.lst ws) => some ws
  | _ => none
 | _ => none
theorem wc {K : PySem.W.Frag} {φ : Nat -> Addr} {ph : PH} {H : Hp} {w : W} {v : V} {ws : List W} (hH : ax K φ ph H) (r : ay K φ ph.length H w v) (e : bR w ph = some ws) :
  ∃ a vs, v = .ref a /\ (bb K H a vs \/ ce K H a vs) /\ aK K φ ph.length H ws vs := by
 unfold bR at e
 cases r with
 | tup h r => cases e; exact ⟨_, _, rfl, .inr (ce.of h), r⟩
 | fl h r => cases e; exact ⟨_, _, rfl, .inl h.sq, r⟩
 | ref hi =>
  simp only at e
  split at e
  ·rename_i ws' hw
   cases e
   obtain ⟨vs, hv, r⟩ := hH.hp _ _ hw
   exact ⟨_, vs, rfl, .inl (bb.of hv), r⟩
  ·cases e
 | _ => cases e
theorem Cb {K : PySem.W.Frag} {φ : Nat -> Addr} {n : Nat} {H : Hp} {ws : List W} {vs : List V} {i : Int} {w : W} (r : aK K φ n H ws vs) (e : bL ws i = some w) : ∃ v, bL vs i = some v /\ ay K φ n H w v := by
 unfold bL at e ⊢
 rw [r.length] at e
 cases q : cF vs.length i with
 | none => rw [q] at e; cases e
 | some j =>
  rw [q] at e
  exact r.get e
def dF : W -> W -> Po W := fun x y ph => match y with
 | .int i => match x with
  | .str z => if z.length <= sizeLine then (bL z.cps.toList i).map fun c => (.str ⟨#[c]⟩, ph) else none
  | x => (bR x ph).bind fun ws => (bL ws i).map fun w => (w, ph)
 | _ => none
theorem WO {K : PySem.W.Frag} : cf K (yE K) dF := by
  intro φ ph H x y vx vy w ph' Q hH rx ry e k
  unfold dF at e
  cases ry with
  | int i =>
    cases rx with
    | str z =>
      simp only at e
      split at e
      · rename_i hz
        cases q : bL z.cps.toList i with
        | none => rw [q] at e; cases e
        | some c =>
          rw [q] at e
          cases e
          exact .inr (.inr ⟨z, i, c, rfl, rfl, hz, q, k φ H _ hH Step.refl (.str _)⟩)
      · cases e
    | _ =>
      all_goals
        first
          | (cases e; done)
          | (rename_i h r
             simp only [bR, Option.bind] at e
             cases q : bL _ i with
             | none => rw [q] at e; cases e
             | some c =>
               rw [q] at e
               cases e
               obtain ⟨v, ev, rv⟩ := Cb r q
               first
                 | exact .inr (.inl ⟨_, _, i, v, rfl, rfl, ce.of h, ev, k φ H _ hH Step.refl rv⟩)
                 | exact .inl ⟨_, _, i, v, rfl, rfl, h.sq, ev, k φ H _ hH Step.refl rv⟩)
          | (rename_i hi
             simp only [bR] at e
             split at e
             · rename_i ws' hw
               simp only [Option.bind] at e
               cases q : bL ws' i with
               | none => rw [q] at e; cases e
               | some c =>
                 rw [q] at e
                 cases e
                 obtain ⟨vs, hv, r⟩ := hH.hp _ _ hw
                 obtain ⟨v, ev, rv⟩ := Cb r q
                 exact .inl ⟨_, _, i, v, rfl, rfl, bb.of hv, ev, k φ H _ hH Step.refl rv⟩
             · cases e)
  | _ => cases e
def fx (K : PySem.W.Frag) (r : List V -> Hp -> VK -> Prop) (f : List W -> Po W) : Prop := ∀ {φ : Nat -> Addr} {ph : PH} {H : Hp} {xs : List W} {vs : List V} {w : W} {ph' : PH} {Q : VK}, ax K φ ph H -> aK K φ ph.length H xs vs -> f xs ph = some (w, ph') →
 (∀ ak H' v, ax K ak ph' H' -> Step K φ ph.length H ak ph'.length H' -> ay K ak ph'.length H' w v -> Q v H') -> r vs H Q
def bg (f : List W -> Po W) (a : AM) : EM := fun σ => ap (a σ) fun xs => lift (f xs)
section
variable {X : Cx} {x : Str} {p pos : Pos} {e : Expr} {es : List Expr} {t : AM} {id T : String} {r : List V -> Hp -> VK -> Prop} {f : List W -> Po W}
theorem BA (hi : fx X.K r f) {σ : L2.St} {H : Hp} {Q : VK} (h : tM X (bg f t) σ H Q) : yD r (tA X t) σ H Q := by
 obtain ⟨φ, ph, ws, hH, hS, h⟩ := h
 refine tA.bind hH hS h fun xs ph1 au H1 vs aD s1 r1 h => ?_
 obtain ⟨w, ph', e, k⟩ := run_lift h
 exact hi aD r1 e fun aS H2 v aY s2 r2 => k aS H2 v aY (s1.trans s2) r2
theorem P5 (hc : cs X (.builtin id) r) (hi : fx X.K r f) (hg : Gl X x) (hm : X.mg x = none) (hv : bootBuiltins x = some (.builtin id)) (ha : IA X (e :: es) t) (hn : x ≠ "__name__" := by decide) (cy : (x == ("__debug__" : Str)) = false := by decide)
  (he : starEach (e :: es) X.env = (false, eval e X.env) :: starEach es X.env := by rfl) (hpl : (backTo pos (starEach es X.env)).any (·.1) = false := by rfl) : IE X (.Call (.Name x p) (e :: es) [] pos) (bg f t) :=
 PE.imp (By hc hg hm hv ha hn cy he hpl) fun _ _ _ h => BA hi h
theorem O1 (hc : cs X (.type T) r) (hi : fx X.K r f) (hg : Gl X x) (hm : X.mg x = none) (hv : bootBuiltins x = some (.type T)) (ha : IA X (e :: es) t) (hn : x ≠ "__name__" := by decide) (cy : (x == ("__debug__" : Str)) = false := by decide)
  (he : starEach (e :: es) X.env = (false, eval e X.env) :: starEach es X.env := by rfl) (hpl : (backTo pos (starEach es X.env)).any (·.1) = false := by rfl) : IE X (.Call (.Name x p) (e :: es) [] pos) (bg f t) :=
 PE.imp (OT hc hg hm hv ha hn cy he hpl) fun _ _ _ h => BA hi h
end
theorem cs.or {X : Cx} {f : Value} {r r' : List V -> Hp -> VK -> Prop} (h : cs X f r) (h' : cs X f r') : cs X f (fun xs H Q => r xs H Q \/ r' xs H Q) := by
 intro pins s σ H xs us Q I rx q
 rcases q with q | q
 ·exact h pins s σ H xs us Q I rx q
 ·exact h' pins s σ H xs us Q I rx q
def cb : List W -> Po W := fun xs ph => match xs with
 | [.str z] => if z.length <= sizeLine then some (.int z.length, ph) else none
 | [w] => (bR w ph).map fun ws => (.int ws.length, ph)
 | _ => none
abbrev ED (K : PySem.W.Frag) : List V -> Hp -> VK -> Prop := fun xs H Q => (∃ p ys, xs = [.ref p] /\ (bb K H p ys \/ ce K H p ys) /\ Q (.int ys.length) H) \/ (∃ z, xs = [.str z] /\ z.length <= sizeLine /\ Q (.int z.length) H)
theorem gn {K : PySem.W.Frag} : fx K (ED K) cb := by
 intro φ ph H xs vs w ph' Q hH r e k
 unfold cb at e
 split at e
 ·split at e
  ·rename_i hz
   cases e
   cases r with
   | cons r r' => cases r; cases r'; exact .inr ⟨_, rfl, hz, k φ H _ hH Step.refl (.int _)⟩
  ·cases e
 ·rename_i w0 dP
  cases r with
  | cons r r' =>
   cases r'
   cases q : bR w0 ph with
   | none => rw [q] at e; cases e
   | some ws =>
    rw [q] at e
    cases e
    obtain ⟨a, ys, rfl, hs, rs⟩ := wc hH r q
    exact .inl ⟨a, ys, rfl, hs, by rw [<- rs.length]; exact k φ H _ hH Step.refl (.int _)⟩
 ·cases e
theorem gg {X : Cx} : cs X (.builtin "len") (ED X.K) := cs.or Ms Mu
def kg (K : PySem.W.Frag) (T : String) (r : V -> List V -> Hp -> VK -> Prop) (f : W -> List W -> Po W) : Prop := ∀ {φ : Nat -> Addr} {ph : PH} {H : Hp} {x : W} {xs : List W} {vx : V} {vs : List V} {w : W} {ph' : PH} {Q : VK},
 ax K φ ph H -> ay K φ ph.length H x vx -> aK K φ ph.length H xs vs -> f x xs ph = some (w, ph') →
 (∀ ak H' v, ax K ak ph' H' -> Step K φ ph.length H ak ph'.length H' -> ay K ak ph'.length H' w v -> Q v H') -> r vx vs H Q
def mN (K : PySem.W.Frag) (T : String) (ty : W -> PH -> Bool) : Prop := ∀ {φ : Nat -> Addr} {ph : PH} {H : Hp} {x : W} {vx : V}, ax K φ ph H -> ay K φ ph.length H x vx -> ty x ph = true -> yF K T vx H
def jR (b : PH -> Bool) : Po Unit := fun ph => if b ph = true then some ((), ph) else none
def cI (ty : W -> PH -> Bool) (f : W -> List W -> Po W) (o : EM) (a : AM) : EM := fun σ => ap (o σ) fun x => ap (lift (jR (ty x))) fun _ => ap (a σ) fun xs => lift (f x xs)
def cL (w : W) (ph : PH) : Bool := match w with
 | .ref i => match ph[i]? with
  | some (.lst _) => true
  | _ => false
 | .fl _ => true
 | _ => false
theorem pA {K : PySem.W.Frag} : mN K "list" cL := by
 intro φ ph H x vx hH rx e
 unfold cL at e
 cases rx with
 | ref hi =>
  simp only at e
  split at e
  ·rename_i ws' hw
   obtain ⟨vs, hv, r⟩ := hH.hp _ _ hw
   exact .inl ⟨rfl, vs, bb.of hv⟩
  ·cases e
 | fl h r => exact .inl ⟨rfl, _, h.sq⟩
 | _ => cases e
section
variable {X : Cx} {o e : Expr} {es : List Expr} {mo : EM} {t : AM} {name : Str} {apos b5 : Pos} {T id : String} {r : V -> List V -> Hp -> VK -> Prop} {ty : W -> PH -> Bool} {f : W -> List W -> Po W}
theorem P6 (ht : mN X.K T ty) (hi : kg X.K T r f) {σ : L2.St} {H : Hp} {Q : VK} (h : tM X (cI ty f mo t) σ H Q) : E8 X.K T r (tM X mo) (tA X t) σ H Q := by
 obtain ⟨φ, ph, ws, hH, hS, h⟩ := h
 refine tM.bind hH hS h fun x ph1 au H1 v aD s1 r1 h => ?_
 rw [cq] at h
 obtain ⟨_, ph2, e2, h⟩ := run_lift h
 unfold jR at e2
 split at e2
 ·rename_i hy
  cases e2
  refine ⟨ht aD r1 hy, tA.bind aD (hS.mono s1) h fun xs ph2 aS H2 vs aY s2 r2 h => ?_⟩
  obtain ⟨w, ph', e, k⟩ := run_lift h
  exact hi aY (r1.mono s2) r2 e fun f6 H3 v d8 s3 r3 => k f6 H3 v d8 ((s1.trans s2).trans s3) r3
 ·cases e2
theorem WP (pa : PlainAttrs T) (slot : Slot T name id) (mJ : typeOf (.builtin id) = pure (.type "method_descriptor")) (hm : ig X id r) (ht : mN X.K T ty) (hi : kg X.K T r f) (ho : IE X o mo) (ha : IA X (e :: es) t)
  (fT : attributeBase o name X.env (eval o X.env) = eval o X.env := by rfl)
  (xV : ((backTo b5 (starEach (e :: es) X.env)).all (fun x => !x.1) && (backToKw b5 (keywordEach [] X.env)).all (fun x => x.1.isSome)
   && decide ((e :: es).length + ([] : List Keyword).length + (if ([] : List Keyword).isEmpty then 0 else 1) < 30)) = true := by rfl)
  (fU : (apos.endLine == b5.line) = true := by rfl) (hs : starEach (e :: es) X.env = (false, eval e X.env) :: starEach es X.env := by rfl) (xk : (backTo b5 (starEach es X.env)).any (·.1) = false := by rfl) :
  IE X (.Call (.Attribute o name apos) (e :: es) [] b5) (cI ty f mo t) :=
 PE.imp (WD pa slot mJ hm ho ha fT xV fU hs xk) fun _ _ _ h => P6 ht hi h
end
theorem sX {K : PySem.W.Frag} {φ : Nat -> Addr} {ph : PH} {H : Hp} {i : Nat} {ws Zz : List W} {vs : List V} (hH : ax K φ ph H) (hi : ph[i]? = some (.lst Zz)) (r : aK K φ ph.length H ws vs) :
  ax K φ (ph.set i (.lst ws)) (upd H (φ i) (.lst vs)) /\ Step K φ ph.length H φ (ph.set i (.lst ws)).length (upd H (φ i) (.lst vs)) := by
 obtain ⟨y, ey, my⟩ := hH.mu hi rfl
 have s := iM (K := K) (φ := φ) (n := ph.length) (y := HO.lst vs) ey my
 rw [List.length_set]
 exact ⟨hH.put hi rfl ⟨vs, bw, r.mono s⟩, s⟩
def fc : W -> List W -> Po W := fun x xs ph => match x, xs with
 | .ref i, [y] => match ph[i]? with
  | some (.lst ws) => if ws.length < sizeLine then some (.az, ph.set i (.lst (ws ++ [y]))) else none
  | _ => none
 | _, _ => none
theorem vV {K : PySem.W.Frag} : kg K "list" B7 fc := by
 intro φ ph H x xs vx vs w ph' Q hH rx rs e k
 unfold fc at e
 split at e
 ·rename_i i y
  split at e
  ·rename_i ws hw
   split at e
   ·rename_i hz
    cases e
    cases rx with
    | ref hi =>
     cases rs with
     | cons ry rr =>
      cases rr
      obtain ⟨us, hv, r⟩ := hH.hp _ _ hw
      obtain ⟨q1, q2⟩ := sX hH hw (r.append (.cons ry .nil))
      exact ⟨_, us, _, rfl, rfl, hv, by rw [<- r.length]; exact hz, k φ _ _ q1 q2 .az⟩
   ·cases e
  ·cases e
 ·cases e
def eD : W -> Po W := fun x => match x with
 | .int i => ret (.int (-i))
 | _ => dJ
theorem Us {K : PySem.W.Frag} : Fe K (rU fun i => .int (-i)) eD := by
 intro φ ph H x vx w ph' Q hH rx e k
 unfold eD at e
 split at e
 ·cases e; cases rx
  exact ⟨_, rfl, k φ H _ hH Step.refl (.int _)⟩
 ·cases e
def dj : W -> W -> Po W := oi fun i j => i - j
theorem Ut {K : PySem.W.Frag} : cf K (ji fun i j => .int (i - j)) dj := WJ
def cc : W -> W -> Po W := nR (fun _ j => decide (j ≠ 0)) fun i j => i.fmod j
theorem Uu {K : PySem.W.Frag} : cf K (rI (fun _ j => j ≠ 0) fun i j => .int (i.fmod j)) cc := C9 fun i j h => by simpa using h
def DU (i j : Int) : Prop := j ≠ 0 /\ j.natAbs < 2 ^ 64
theorem P7 {X : Cx} : bG X (binaryOp .FloorDiv) (rI DU fun i j => .int (i.fdiv j)) := yC fun i j _ _ _ _ _ hc q => floordiv_int hc.1 q (.inl (PyProof.noPylong_of_log2 (by
 have h0 : j.natAbs ≠ 0 := by have := hc.1; omega
 have := (Nat.log2_lt h0).mpr hc.2
 omega)))
def cw : W -> W -> Po W := nR (fun _ j => decide (j ≠ 0) && decide (j.natAbs < 2 ^ 64)) fun i j => i.fdiv j
theorem Uv {K : PySem.W.Frag} : cf K (rI DU fun i j => .int (i.fdiv j)) cw := C9 fun i j h => by
 rw [Bool.and_eq_true] at h
 exact ⟨of_decide_eq_true h.1, of_decide_eq_true h.2⟩
def gK : W -> W -> Po W := nT fun i j => decide (i < j)
def ZA : W -> W -> Po W := nT fun i j => decide (i <= j)
def jl : W -> W -> Po W := nT fun i j => decide (j < i)
def ZC : W -> W -> Po W := nT fun i j => decide (j <= i)
def mulC (i j : Int) : Bool := (decide (-(2 ^ 64) < i) && decide (i < 2 ^ 64)) || (decide (-(2 ^ 64) < j) && decide (j < 2 ^ 64))
def fD : W -> W -> Po W := fun x y => match x, y with
 | .int i, .int j => if mulC i j = true then ret (.int (i * j)) else dJ
 | _, _ => dJ
theorem Uw {K : PySem.W.Frag} : cf K (rI ui fun i j => .int (i * j)) fD := by
 intro φ ph H x y vx vy w ph' Q hH rx ry e k
 unfold fD at e
 split at e
 ·split at e
  ·rename_i hc
   cases e; cases rx; cases ry
   refine ⟨_, _, rfl, rfl, ?_, k φ H _ hH Step.refl (.int _)⟩
   unfold mulC at hc
   simp only [Bool.or_eq_true, Bool.and_eq_true, decide_eq_true_eq] at hc
   exact hc
  ·cases e
 ·cases e
def addW : W -> W -> Po W := fun x y ph => match x, y with
 | .int i, .int j => some (.int (i + j), ph)
 | .ref a, .ref b => match ph[a]?, ph[b]? with
  | some (.lst xs), some (.lst ys) => if xs.length + ys.length <= sizeLine then some (.ref ph.length, ph ++ [.lst (xs ++ ys)]) else none
  | _, _ => none
 | _, _ => none
abbrev DW : R2 := fun x y H Q => (ji fun i j => .int (i + j)) x y H Q \/ EC x y H Q
theorem RJ {X : Cx} : bG X (binaryOp .Add) DW := bG.or TB T3
theorem Ux {K : PySem.W.Frag} : cf K DW addW := by
 intro φ ph H x y vx vy w ph' Q hH rx ry e k
 unfold addW at e
 split at e
 ·cases e; cases rx; cases ry
  exact .inl ⟨_, _, rfl, rfl, k φ H _ hH Step.refl (.int _)⟩
 ·split at e
  ·rename_i xs ys hx hy
   split at e
   ·rename_i hz
    cases e
    cases rx; cases ry
    obtain ⟨us, hu, ru⟩ := hH.hp _ _ hx
    obtain ⟨vs, hv, rv⟩ := hH.hp _ _ hy
    refine .inr ⟨_, _, us, vs, rfl, rfl, hu, hv, by rw [<- ru.length, <- rv.length]; exact hz, fun p hp => ?_⟩
    obtain ⟨q1, q2, q3⟩ := nh hH (ru.append rv) hp
    exact k _ _ _ q1 q2 q3
   ·cases e
  ·cases e
 ·cases e
def mE : W -> W -> Po W := fun x y => match y with
 | .az => ret (.bl (decide (x = .az)))
 | _ => dJ
def fy : W -> W -> Po W := fun x y => match y with
 | .az => ret (.bl (!decide (x = .az)))
 | _ => dJ
theorem Cc {K : PySem.W.Frag} {φ : Nat -> Addr} {n : Nat} {H : Hp} {x : W} {v : V} (r : ay K φ n H x v) : decide (x = .az) = decide (v = .az) := by
 cases r <;> simp
theorem Uy {K : PySem.W.Frag} : cf K (fun x y H Q => y = .az /\ Q (.bl (decide (x = .az))) H) mE := by
 intro φ ph H x y vx vy w ph' Q hH rx ry e k
 unfold mE at e
 split at e
 ·cases e; cases ry
  exact ⟨rfl, by rw [<- Cc rx]; exact k φ H _ hH Step.refl (.bl _)⟩
 ·cases e
theorem RK {K : PySem.W.Frag} : cf K (fun x y H Q => y = .az /\ Q (.bl (!decide (x = .az))) H) fy := by
 intro φ ph H x y vx vy w ph' Q hH rx ry e k
 unfold fy at e
 split at e
 ·cases e; cases ry
  exact ⟨rfl, by rw [<- Cc rx]; exact k φ H _ hH Step.refl (.bl _)⟩
 ·cases e
def EE : List W -> Po W := fun xs => match xs with
 | [.int i] => ret (.int i)
 | [.bl b] => ret (.int (if b then 1 else 0))
 | _ => dJ
def Ym : List W -> Po W := fun xs => match xs with
 | [.int i] => ret (.int (if i < 0 then -i else i))
 | _ => dJ
def pB (w : W) (ph : PH) : Option String := match w with
 | .az => some "NoneType"
 | .bl _ => some "bool"
 | .int _ => some "int"
 | .str _ => some "str"
 | .tup _ => some "tuple"
 | .fl _ => some "list"
 | .ref i => match ph[i]? with
  | some (.lst _) => some "list"
  | some (.aQ _) => some "dict"
  | _ => none
 | .exc .. => none
def dE (t c : String) : Bool := t == c || (t == "bool" && c == "int")
def fH (c : String) (w : W) : Po W := fun ph => match pB w ph with
 | some t => some (.bl (dE t c), ph)
 | none => none
def kh (c : String) (m : EM) : EM := fun σ => ap (m σ) fun w => lift (fH c w)
inductive iV (K : PySem.W.Frag) (H : Hp) : V -> String -> Prop where
 | az : iV K H .az "NoneType"
 | bl (x : Bool) : iV K H (.bl x) "bool"
 | int (i : Int) : iV K H (.int i) "int"
 | str (x : Str) : iV K H (.str x) "str"
 | lst {a : Addr} {xs : List V} (e : bb K H a xs) : iV K H (.ref a) "list"
 | tup {a : Addr} {xs : List V} (e : ce K H a xs) : iV K H (.ref a) "tuple"
 | dk {a : Addr} {kvs : List (Key × V)} (e : H a = some (.dK kvs)) : iV K H (.ref a) "dict"
 | dt {a : Addr} {kvs : List (List Key × V)} (e : H a = some (.dT kvs)) : iV K H (.ref a) "dict"
theorem RL {K : PySem.W.Frag} {φ : Nat -> Addr} {ph : PH} {H : Hp} {w : W} {v : V} {t : String} (hH : ax K φ ph H) (r : ay K φ ph.length H w v) (e : pB w ph = some t) : iV K H v t := by
 unfold pB at e
 cases r with
 | az => cases e; exact .az
 | bl b => cases e; exact .bl b
 | int b => cases e; exact .int b
 | str b => cases e; exact .str b
 | tup h r => cases e; exact .tup (ce.of h)
 | fl h r => cases e; exact .lst h.sq
 | ref hi =>
  simp only at e
  split at e
  ·rename_i ws hw
   cases e
   obtain ⟨vs, hv, _⟩ := hH.hp _ _ hw
   exact .lst (bb.of hv)
  ·rename_i ws hw
   cases e
   rcases hH.hp _ _ hw with ⟨kvs, q, _⟩ | ⟨kvs, q, _⟩
   ·exact .dk q
   ·exact .dt q
  ·cases e
 | exc => cases e
def nW (K : PySem.W.Frag) (c : String) : Prop := ∀ t ∈ ["NoneType", "bool", "int", "str", "list", "tuple", "dict"], PySem.W.kitOne K (.type t) (.type c) = some (dE t c)
def ZD (K : PySem.W.Frag) (c : String) : List V -> Hp -> VK -> Prop := fun xs H Q => ∃ x t, xs = [x, .ty c] /\ iV K H x t /\ Q (.bl (dE t c)) H
theorem RM {X : Cx} {c : String} (hk : nW X.K c) : cs X (.builtin "isinstance") (ZD X.K c) := by
 intro pins s σ H xs us Q I r h
 obtain ⟨x, t, rfl, kv, q⟩ := h
 obtain ⟨u, u2, rfl, rx, rc⟩ := Vals.two r
 obtain rfl : u2 = Value.type c := rc
 have fin : ∀ tk, EP X pins σ Q (.bool (dE t c)) { s with toks := tk } := fun tk => ⟨.bl _, H, I.tok tk, rfl, q⟩
 cases kv with
 | az => cases (show u = Value.none from rx); exact PySem.W.kia_one PySem.W.kitx_none I.dN True.intro (hk _ (by decide)) (fun z => nomatch z) fin
 | bl y => cases (show u = Value.bool y from rx); exact PySem.W.kia_one PySem.W.kitx_bool I.dN True.intro (hk _ (by decide)) (fun z => nomatch z) fin
 | int i => obtain ⟨t, rfl⟩ := (show ∃ t, u = Value.int i t from rx); exact PySem.W.kia_one PySem.W.kitx_int I.dN True.intro (hk _ (by decide)) (fun z => nomatch z) fin
 | str y => obtain ⟨t, rfl⟩ := (show ∃ t, u = Value.str y t from rx); exact PySem.W.kia_one PySem.W.kitx_str I.dN True.intro (hk _ (by decide)) (fun z => nomatch z) fin
 | @lst a ys e =>
  cases (show u = Value.ref a from rx)
  obtain ⟨its, _, ⟨o, n, h1, h2, _⟩, _⟩ := I.list e
  exact PySem.W.kia_one PySem.W.kitx_list I.dN ⟨_, h1, h2⟩ (hk _ (by decide)) (fun z => nomatch z) fin
 | @tup a ys e =>
  cases (show u = Value.ref a from rx)
  obtain ⟨its, _, ⟨o, h1, h2, _⟩, _⟩ := I.tuple e
  exact PySem.W.kia_one PySem.W.kitx_tuple I.dN ⟨_, h1, h2⟩ (hk _ (by decide)) (fun z => nomatch z) fin
 | @dk a kvs e =>
  cases (show u = Value.ref a from rx)
  obtain ⟨_, _, vs, _, ob, _, _, h1, h2, _⟩ := nG I.aF e
  exact PySem.W.kia_one PySem.W.kitx_dict I.dN ⟨_, h1, h2.1⟩ (hk _ (by decide)) (fun z => nomatch z) fin
 | @dt a kvs e =>
  cases (show u = Value.ref a from rx)
  obtain ⟨_, _, xs, _, ob, _, _, h1, h2, _⟩ := nH I.aF e
  exact PySem.W.kia_one PySem.W.kitx_dict I.dN ⟨_, h1, h2.1⟩ (hk _ (by decide)) (fun z => nomatch z) fin
section
variable {X : Cx} {e : Expr} {m : EM} {p p2 pos : Pos}
theorem WQ {c : Str} {cn : String} (hk : nW X.K cn) (hv : bootBuiltins c = some (.type cn)) (hg : Gl X "isinstance") (hm : X.mg "isinstance" = none) (yM : Gl X c) (yN : X.mg c = none) (he : IE X e m)
  (hn : c ≠ "__name__" := by decide) (hd : (c == ("__debug__" : Str)) = false := by decide)
  (hs : starEach [e, .Name c p2] X.env = [(false, eval e X.env), (false, eval (.Name c p2) X.env)] := by rfl) (d5 : starEach [.Name c p2] X.env = [(false, eval (.Name c p2) X.env)] := by rfl)
  (hpl : (backTo pos (starEach [.Name c p2] X.env)).any (·.1) = false := by rfl) :
  IE X (.Call (.Name "isinstance" p) [e, .Name c p2] [] pos) (kh cn m) := by
 refine PE.imp (By (RM hk) hg hm PyProof.Rows.boot_isinstance (wD he (wD (Q9 (v := .ty cn) yM yN hv rfl hn hd) C6 (by rw [d5]; rfl)) (by rw [hs, d5])) (he := by rw [hs, d5]) (hpl := hpl)) fun σ H Q h => ?_
 obtain ⟨φ, ph, ws, hH, hS, h⟩ := h
 refine tM.bind hH hS h fun x ph1 au H1 vx aD s1 rx h => ?_
 obtain ⟨w, ph', e, k⟩ := run_lift h
 unfold fH at e
 split at e
 ·rename_i t ht
  cases e
  exact ⟨vx, t, rfl, RL aD rx ht, k au H1 _ aD s1 (.bl _)⟩
 ·cases e
end
theorem aae {K : PySem.W.Frag} : nW K "int" := by
 intro t ht
 simp only [List.mem_cons, List.mem_nil_iff, or_false] at ht
 rcases ht with rfl | rfl | rfl | rfl | rfl | rfl | rfl <;> rfl
theorem O2 {K : PySem.W.Frag} : nW K "list" := by
 intro t ht
 simp only [List.mem_cons, List.mem_nil_iff, or_false] at ht
 rcases ht with rfl | rfl | rfl | rfl | rfl | rfl | rfl <;> rfl
theorem N9 {K : PySem.W.Frag} : nW K "tuple" := by
 intro t ht
 simp only [List.mem_cons, List.mem_nil_iff, or_false] at ht
 rcases ht with rfl | rfl | rfl | rfl | rfl | rfl | rfl <;> rfl
def bf {α β : Type} (f : α -> Option β) : List α -> Option (List β)
 | [] => some []
 | a :: as => match f a, bf f as with
  | some b, some bs => some (b :: bs)
  | _, _ => none
def dat (ph : PH) : Nat -> W -> Option PyData
 | _, .az => some .none
 | _, .bl b => some (.bool b)
 | _, .int i => some (.int i)
 | _, .str x => if PyData.strOk x = true then some (.str x) else none
 | n + 1, .tup ws => (bf (dat ph n) ws).map .tuple
 | n + 1, .fl ws => (bf (dat ph n) ws).map .list
 | n + 1, .ref i => match ph[i]? with
  | some (.lst ws) => (bf (dat ph n) ws).map .list
  | _ => none
 | _, _ => none
section
variable {X : Cx} {pins : List (Addr × Obj)} {σ : L2.St} {H : Hp} {s : Shared} {φ : Nat -> Addr} {ph : PH}
def lc (s : Shared) (n : Nat) (u : Value) (d : PyData) : Prop := (∃ as, Reads s.heap u d as) /\ d.canLay0 = true /\ d.depth <= n
theorem vM {n : Nat} (ih : ∀ {w : W} {v : V} {u : Value} {d : PyData}, ay X.K φ ph.length H w v -> RelV v u -> dat ph n w = some d -> lc s n u d) :
  ∀ {ws : List W} {vs : List V} {us : List Value} {ds : List PyData}, aK X.K φ ph.length H ws vs -> Vals vs us -> bf (dat ph n) ws = some ds →
   (∃ as, ReadsAll s.heap us ds as) /\ PyData.canLayAll0 ds = true /\ PyData.depthAll ds <= n
 | _, _, _, _, .nil, .nil, e => by cases e; exact ⟨⟨_, .nil⟩, rfl, Nat.zero_le _⟩
 | w :: ws, _, _, ds, .cons h r, .cons hv rv, e => by
  unfold bf at e
  split at e
  ·rename_i b bs e1 e2
   cases e
   obtain ⟨⟨as, r1⟩, c1, d1⟩ := ih h hv e1
   obtain ⟨⟨yO, r2⟩, c2, d2⟩ := vM ih r rv e2
   refine ⟨⟨_, .cons r1 r2⟩, ?_, ?_⟩
   ·simp only [PyData.canLayAll0, c1, c2, Bool.and_self]
   ·simp only [PyData.depthAll]; omega
  ·cases e
theorem gi (I : Inv X pins σ H s) (hH : ax X.K φ ph H) : ∀ (n : Nat) {w : W} {v : V} {u : Value} {d : PyData}, ay X.K φ ph.length H w v -> RelV v u -> dat ph n w = some d -> lc s n u d := by
 have yc : ∀ (n : Nat) (ih : ∀ {w : W} {v : V} {u : Value} {d : PyData}, ay X.K φ ph.length H w v -> RelV v u -> dat ph n w = some d -> lc s n u d) {ws : List W} {vs : List V} {d : PyData} {a : Addr},
   aK X.K φ ph.length H ws vs -> ((bb X.K H a vs /\ (bf (dat ph n) ws).map PyData.list = some d) \/ (ce X.K H a vs /\ (bf (dat ph n) ws).map PyData.tuple = some d)) -> lc s (n + 1) (.ref a) d := by
  intro n ih ws vs d a r h
  rcases h with ⟨hq, e⟩ | ⟨hq, e⟩
  ·obtain ⟨its, rv, ⟨o, k, h1, h2, h3, h4⟩, _⟩ := I.list hq
   obtain ⟨ds, e1, e2⟩ := Option.map_eq_some_iff.mp e
   subst e2
   obtain ⟨⟨as, r1⟩, c1, d1⟩ := vM ih r rv e1
   refine ⟨⟨_, .list h1 h2 h4 (by simpa using r1)⟩, by simpa only [PyData.canLay0] using c1, ?_⟩
   simp only [PyData.depth]; omega
  ·obtain ⟨its, rv, ⟨o, h1, h2, k, h4⟩, _⟩ := I.tuple hq
   obtain ⟨ds, e1, e2⟩ := Option.map_eq_some_iff.mp e
   subst e2
   obtain ⟨⟨as, r1⟩, c1, d1⟩ := vM ih r rv e1
   refine ⟨⟨_, .tuple h1 h2 h4 (by simpa using r1)⟩, by simpa only [PyData.canLay0] using c1, ?_⟩
   simp only [PyData.depth]; omega
 intro n
 induction n with
 | zero =>
  intro w v u d r rv e
  cases r with
  | az => cases rv; cases e; exact ⟨⟨_, .none⟩, rfl, Nat.le_refl _⟩
  | bl b => cases rv; cases e; exact ⟨⟨_, .bool b⟩, rfl, Nat.le_refl _⟩
  | int i => obtain ⟨t, rfl⟩ := rv; cases e; exact ⟨⟨_, .int i t⟩, rfl, Nat.le_refl _⟩
  | str x =>
   obtain ⟨t, rfl⟩ := rv
   unfold dat at e
   split at e
   ·rename_i hx; cases e; exact ⟨⟨_, .str x t⟩, by simpa only [PyData.canLay0] using hx, Nat.le_refl _⟩
   ·cases e
  | _ => cases e
 | succ n ih =>
  intro w v u d r rv e
  cases r with
  | az => cases rv; cases e; exact ⟨⟨_, .none⟩, rfl, Nat.zero_le _⟩
  | bl b => cases rv; cases e; exact ⟨⟨_, .bool b⟩, rfl, Nat.zero_le _⟩
  | int i => obtain ⟨t, rfl⟩ := rv; cases e; exact ⟨⟨_, .int i t⟩, rfl, Nat.zero_le _⟩
  | str x =>
   obtain ⟨t, rfl⟩ := rv
   unfold dat at e
   split at e
   ·rename_i hx; cases e; exact ⟨⟨_, .str x t⟩, by simpa only [PyData.canLay0] using hx, Nat.zero_le _⟩
   ·cases e
  | tup h r => cases rv; exact yc n ih r (.inr ⟨ce.of h, e⟩)
  | exc => unfold dat at e; cases e
  | fl h r => cases rv; exact yc n ih r (.inl ⟨h.sq, e⟩)
  | ref hi =>
   cases rv
   unfold dat at e
   split at e
   ·rename_i ws hw
    obtain ⟨vs, hv, r⟩ := hH.hp _ _ hw
    exact yc n ih r (.inl ⟨bb.of hv, e⟩)
   ·cases e
end
def bO (ph : PH) (x y : W) : Option Bool := match dat ph 40 x, dat ph 40 y with
 | some a, some b => some (PyData.eqv a b)
 | _, _ => none
def aV : W -> W -> Po W := fun x y ph => (bO ph x y).map fun b => (.bl b, ph)
def d9 : W -> W -> Po W := fun x y ph => (bO ph x y).map fun b => (.bl (!b), ph)
def rD (K : PySem.W.Frag) (f : Bool -> Bool) : R2 := fun x y H Q => ∃ φ ph wx wy b, ax K φ ph H /\ ay K φ ph.length H wx x /\ ay K φ ph.length H wy y /\ bO ph wx wy = some b /\ Q (.bl (f b)) H
theorem sY {ph : PH} {x y : W} {b : Bool} (h : bO ph x y = some b) : ∃ dx dy, dat ph 40 x = some dx /\ dat ph 40 y = some dy /\ b = PyData.eqv dx dy := by
 unfold bO at h
 split at h
 ·rename_i dx dy h1 h2
  cases h
  exact ⟨dx, dy, h1, h2, rfl⟩
 ·cases h
theorem De {X : Cx} (hu : X.A.units + 64 < cLine) : bG X (compareOp .Eq) (rD X.K fun b => b) := by
 intro pins s σ H x y v u Q I rx ry h
 obtain ⟨φ, ph, wx, wy, b, hH, r1, r2, e, q⟩ := h
 obtain ⟨dx, dy, e1, e2, rfl⟩ := sY e
 obtain ⟨⟨as, k1⟩, c1, l1⟩ := gi I hH 40 r1 rx e1
 obtain ⟨⟨bs, k2⟩, c2, l2⟩ := gi I hH 40 r2 ry e2
 exact SeqAt.compareEq_reads k1 k2 c1 c2 (by omega) ⟨.bl _, H, I, rfl, q⟩
theorem Df {X : Cx} (hu : X.A.units + 64 < cLine) : bG X (compareOp .NotEq) (rD X.K fun b => !b) := by
 intro pins s σ H x y v u Q I rx ry h
 obtain ⟨φ, ph, wx, wy, b, hH, r1, r2, e, q⟩ := h
 obtain ⟨dx, dy, e1, e2, rfl⟩ := sY e
 obtain ⟨⟨as, k1⟩, c1, l1⟩ := gi I hH 40 r1 rx e1
 obtain ⟨⟨bs, k2⟩, c2, l2⟩ := gi I hH 40 r2 ry e2
 exact SeqAt.compareNe_reads k1 k2 c1 c2 (by omega) ⟨.bl _, H, I, rfl, q⟩
theorem WR {K : PySem.W.Frag} : cf K (rD K fun b => b) aV := by
 intro φ ph H x y vx vy w ph' Q hH rx ry e k
 obtain ⟨b, e1, e2⟩ := Option.map_eq_some_iff.mp e
 cases e2
 exact ⟨φ, ph, x, y, b, hH, rx, ry, e1, k φ H _ hH Step.refl (.bl _)⟩
theorem WS {K : PySem.W.Frag} : cf K (rD K fun b => !b) d9 := by
 intro φ ph H x y vx vy w ph' Q hH rx ry e k
 obtain ⟨b, e1, e2⟩ := Option.map_eq_some_iff.mp e
 cases e2
 exact ⟨φ, ph, x, y, b, hH, rx, ry, e1, k φ H _ hH Step.refl (.bl _)⟩
def inD (ph : PH) (x y : W) : Option Bool := match bR y ph, dat ph 40 x with
 | some ws, some dx => (bf (dat ph 40) ws).map fun ds => ds.any fun d => PyData.eqv d dx
 | _, _ => none
def gL : W -> W -> Po W := fun x y ph => (inD ph x y).map fun b => (.bl b, ph)
def uq : W -> W -> Po W := fun x y ph => (inD ph x y).map fun b => (.bl (!b), ph)
def nX (K : PySem.W.Frag) (f : Bool -> Bool) : R2 := fun x y H Q => ∃ φ ph wx wy b, ax K φ ph H /\ ay K φ ph.length H wx x /\ ay K φ ph.length H wy y /\ inD ph wx wy = some b /\ Q (.bl (f b)) H
open Classical in
noncomputable def jL (s : Shared) (dx : PyData) (u : Value) : Bool := if h : ∃ d, lc s 40 u d then PyData.eqv h.choose dx else false
theorem sZ {s : Shared} {dx d : PyData} {u : Value} (h : lc s 40 u d) : jL s dx u = PyData.eqv d dx := by
 unfold jL
 have hx : ∃ d, lc s 40 u d := ⟨d, h⟩
 rw [dif_pos hx]
 obtain ⟨⟨as, r⟩, c, _⟩ := h
 obtain ⟨⟨as', r'⟩, c', _⟩ := hx.choose_spec
 rw [SeqAt.Reads.unique _ _ _ _ _ c' r' r]
section
variable {X : Cx} {pins : List (Addr × Obj)} {σ : L2.St} {H : Hp} {s : Shared} {φ : Nat -> Addr} {ph : PH}
theorem wJ (I : Inv X pins σ H s) (hH : ax X.K φ ph H) {dx : PyData} : ∀ {ws : List W} {vs : List V} {us : List Value} {ds : List PyData}, aK X.K φ ph.length H ws vs -> Vals vs us -> bf (dat ph 40) ws = some ds →
  (us.any (jL s dx) = ds.any fun d => PyData.eqv d dx) /\ ∀ u ∈ us, ∃ d, lc s 40 u d
 | _, _, _, _, .nil, .nil, e => by cases e; exact ⟨rfl, fun _ h => nomatch h⟩
 | w :: ws, _, _, ds, .cons h r, .cons hv rv, e => by
  unfold bf at e
  split at e
  ·rename_i b bs e1 e2
   cases e
   have q := gi I hH 40 h hv e1
   obtain ⟨r1, r2⟩ := wJ I hH (dx := dx) r rv e2
   refine ⟨by rw [List.any_cons, List.any_cons, r1, sZ q], fun u hu => ?_⟩
   rcases List.mem_cons.mp hu with rfl | hu
   ·exact ⟨_, q⟩
   ·exact r2 u hu
  ·cases e
theorem Cd (I : Inv X pins σ H s) (hH : ax X.K φ ph H) {wx wy : W} {x y : V} {v u : Value} {b : Bool} (hu : X.A.units + 64 < cLine) (r1 : ay X.K φ ph.length H wx x) (r2 : ay X.K φ ph.length H wy y) (rx : RelV x v) (ry : RelV y u) (e : inD ph wx wy = some b) :
  ∃ (a : Addr) (its : List Value) (f : Value -> Bool), u = .ref a /\ (s.heap.IsList a its.toArray \/ s.heap.IsTuple a its.toArray) /\ (∀ z, z ∈ its.toArray -> SeqAt.EqAt X.A.in1 s z v (f z)) /\ its.toArray.any f = b := by
 unfold inD at e
 split at e
 ·rename_i ws dx hs hd
  obtain ⟨ds, e1, e2⟩ := Option.map_eq_some_iff.mp e
  obtain ⟨a, vs, rfl, hq, rs⟩ := wc hH r2 hs
  cases ry
  obtain ⟨⟨as, k1⟩, c1, l1⟩ := gi I hH 40 r1 rx hd
  have fin : ∀ {its : List Value}, Vals vs its -> (∀ z, z ∈ its.toArray -> SeqAt.EqAt X.A.in1 s z v (jL s dx z)) /\ its.toArray.any (jL s dx) = b := fun {its} rv => by
   obtain ⟨q1, q2⟩ := wJ I hH (dx := dx) rs rv e1
   refine ⟨fun z hz => ?_, by rw [show its.toArray.any (jL s dx) = its.any (jL s dx) by simp, q1, e2]⟩
   obtain ⟨d, hd⟩ := q2 z (by simpa using hz)
   rw [sZ hd]
   obtain ⟨⟨bs, k2⟩, c2, l2⟩ := hd
   intro prog w E Q hQ
   exact SeqAt.eqBoolOverData prog w _ E s z v d dx bs as Q k2 k1 c2 c1 (by show X.A.units + 1 + _ < _; omega) hQ
  rcases hq with hq | hq
  ·obtain ⟨its, rv, pl, _⟩ := I.list hq
   obtain ⟨f1, f2⟩ := fin rv
   exact ⟨a, its, _, rfl, .inl pl.isList, f1, f2⟩
  ·obtain ⟨its, rv, pl, _⟩ := I.tuple hq
   obtain ⟨f1, f2⟩ := fin rv
   exact ⟨a, its, _, rfl, .inr pl, f1, f2⟩
 ·cases e
end
theorem Uz {X : Cx} (hu : X.A.units + 64 < cLine) : bG X (compareOp .In) (nX X.K fun b => b) := by
 intro pins s σ H x y v u Q I rx ry h
 obtain ⟨φ, ph, wx, wy, b, hH, r1, r2, e, q⟩ := h
 obtain ⟨a, its, f, rfl, hq, hf, hb⟩ := Cd I hH hu r1 r2 rx ry e
 subst hb
 rcases hq with hq | hq
 ·exact SeqAt.in_listAt f hq hf ⟨.bl _, H, I, rfl, q⟩
 ·exact SeqAt.in_tupleAt f hq hf ⟨.bl _, H, I, rfl, q⟩
theorem RN {X : Cx} (hu : X.A.units + 64 < cLine) : bG X (compareOp .NotIn) (nX X.K fun b => !b) := by
 intro pins s σ H x y v u Q I rx ry h
 obtain ⟨φ, ph, wx, wy, b, hH, r1, r2, e, q⟩ := h
 obtain ⟨a, its, f, rfl, hq, hf, hb⟩ := Cd I hH hu r1 r2 rx ry e
 subst hb
 rcases hq with hq | hq
 ·exact SeqAt.notIn_listAt f hq hf ⟨.bl _, H, I, rfl, q⟩
 ·exact SeqAt.notIn_tupleAt f hq hf ⟨.bl _, H, I, rfl, q⟩
theorem WT {K : PySem.W.Frag} : cf K (nX K fun b => b) gL := by
 intro φ ph H x y vx vy w ph' Q hH rx ry e k
 obtain ⟨b, e1, e2⟩ := Option.map_eq_some_iff.mp e
 cases e2
 exact ⟨φ, ph, x, y, b, hH, rx, ry, e1, k φ H _ hH Step.refl (.bl _)⟩
theorem UA {K : PySem.W.Frag} : cf K (nX K fun b => !b) uq := by
 intro φ ph H x y vx vy w ph' Q hH rx ry e k
 obtain ⟨b, e1, e2⟩ := Option.map_eq_some_iff.mp e
 cases e2
 exact ⟨φ, ph, x, y, b, hH, rx, ry, e1, k φ H _ hH Step.refl (.bl _)⟩
def ni (env : Env) (x : Str × NameKind) (s : List (Str × Addr)) : Sem (ForInStep (List (Str × Addr))) :=
 if (x.2 == NameKind.free) = true then do
  let a <- cellOf env x.1
  pure (ForInStep.yield ((x.1, a) :: s))
 else pure (ForInStep.yield s)
theorem wd (env : Env) : ∀ (names : List (Str × NameKind)) (acc : List (Str × Addr)), (∀ y ∈ names, y.2 = .free -> ∃ c, env.cells.lookup y.1 = some c) →
    ∃ cl, (forIn names acc (ni env) : Sem (List (Str × Addr))) = pure cl /\ (∀ x c, cl.lookup x = some c -> acc.lookup x = some c \/ (env.cells.lookup x = some c /\ (x, NameKind.free) ∈ names)) /\
      (∀ x, ((∃ c, acc.lookup x = some c) \/ (x, NameKind.free) ∈ names) -> ∃ c, cl.lookup x = some c)
  | [], acc, _ => ⟨acc, rfl, fun x c h => .inl h, fun x h => h.elim id fun z => nomatch z⟩
  | (n, k) :: r, acc, h => by
    by_cases hk : k = .free
    · subst hk
      obtain ⟨c, hc⟩ := h (n, .free) List.mem_cons_self rfl
      obtain ⟨cl, e, h1, h2⟩ := wd env r ((n, c) :: acc) fun y hy => h y (List.mem_cons_of_mem _ hy)
      refine ⟨cl, ?_, fun x c' hx => ?_, fun x hx => h2 x ?_⟩
      · rw [List.forIn_cons]
        have eb : ni env (n, .free) acc = pure (ForInStep.yield ((n, c) :: acc)) := by
          unfold ni
          rw [if_pos (by rfl)]
          unfold cellOf
          rw [hc]
          rfl
        rw [eb]
        exact e
      · rcases h1 x c' hx with z | z
        · rw [List.lookup_cons] at z
          cases q : x == n with
          | true =>
            rw [q] at z
            cases z
            have : x = n := eq_of_beq q
            subst this
            exact .inr ⟨hc, List.mem_cons_self⟩
          | false => rw [q] at z; exact .inl z
        · exact .inr ⟨z.1, List.mem_cons_of_mem _ z.2⟩
      · rcases hx with ⟨c', hx⟩ | hx
        · rw [List.lookup_cons]
          cases q : x == n with
          | true => exact .inl ⟨c, rfl⟩
          | false => exact .inl ⟨c', hx⟩
        · rcases List.mem_cons.mp hx with z | z
          · cases z
            exact .inl ⟨c, by rw [List.lookup_cons]; simp⟩
          · exact .inr z
    · obtain ⟨cl, e, h1, h2⟩ := wd env r acc fun y hy => h y (List.mem_cons_of_mem _ hy)
      refine ⟨cl, ?_, fun x c' hx => ?_, fun x hx => h2 x ?_⟩
      · rw [List.forIn_cons]
        have eb : ni env (n, k) acc = pure (ForInStep.yield acc) := by
          unfold ni
          rw [if_neg (by simpa using hk)]
        rw [eb]
        exact e
      · rcases h1 x c' hx with z | z
        · exact .inl z
        · exact .inr ⟨z.1, List.mem_cons_of_mem _ z.2⟩
      · rcases hx with hx | hx
        · exact .inl hx
        · rcases List.mem_cons.mp hx with z | z
          · cases z; exact absurd rfl hk
          · exact .inr z
theorem RO {scope : Scope} {env : Env} (h : ∀ y ∈ scope.names, y.2 = .free -> ∃ c, env.cells.lookup y.1 = some c) :
  ∃ cl, closureFor scope env = pure cl /\ (∀ x c, cl.lookup x = some c -> env.cells.lookup x = some c /\ (x, NameKind.free) ∈ scope.names) /\ (∀ x, (x, NameKind.free) ∈ scope.names -> ∃ c, cl.lookup x = some c) := by
 obtain ⟨cl, e, h1, h2⟩ := wd env scope.names [] h
 refine ⟨cl, ?_, fun x c hx => ?_, fun x hx => h2 x (.inr hx)⟩
 ·unfold closureFor
  show (forIn scope.names [] (ni env) >>= fun s => pure s) = pure cl
  rw [e]
  rfl
 ·rcases h1 x c hx with z | z
  ·cases z
  ·exact z
def bv (X : Cx) (N : List Str) (scope : Scope) (cl : List (Str × Addr)) (C : Addr) (aA : Shared) (aG : Hp) (ex : List Addr) : Cx :=
 { X with N := N, aA := aA, aG := aG, env := compEnvC scope cl C X.env, outer := X.stack, stack := X.stack, ex := ex, fn := fun _ => false, pn := [], xe := fun _ _ => False }
def jS (cap : List (Option Nat)) (σ : L2.St) : L2.St := cap.map fun o => o.bind fun i => (σ[i]?).join
def pC (wi : TI) (cap : List (Option Nat)) (g : TG) (tc : TT) (te : TE) : TE := fun σ H Q => wi σ H fun J H1 => ∀ D, H1 D = none -> ∃ W : Nat -> Nat -> L2.St -> Hp -> Prop, (∃ m, W 0 m (jS cap σ) (upd H1 D (.lst []))) /\
 ∀ i m bF H2, W i m bF H2 -> (J.stop i H2 /\ Q (.ref D) H2) \/ (J.go i H2 /\ ∀ x H3, J.qi i H2 x H3 -> g x bF H3 fun jr H4 => tc jr H4 fun b H5 =>
  if b = true then te jr H5 fun v H6 => ∃ xs, H6 D = some (.lst xs) /\ xs.length < sizeLine /\ ∃ m', m' < m /\ W (i + 1) m' jr (upd H6 D (.lst (xs ++ [v]))) else ∃ m', m' < m /\ W (i + 1) m' jr H5)
def PF (X : Cx) (ifs : List Expr) (t : TT) : Prop :=
 ∀ (pins : List (Addr × Obj)) (s : Shared) (σ : L2.St) (H : Hp) (Q : Bool -> Hp -> Prop), Inv X pins σ H s -> t σ H Q →
  wpAny (model X.prog X.w) X.A (forIn ifs true fun c r => if r = true then do let ok <- isTrue c X.env (eval c X.env); pure (ForInStep.yield ok) else pure (ForInStep.yield r)) (TP X pins σ Q) X.xe s
theorem UB {X : Cx} : PF X [] (fun _ H Q => Q true H) := fun pins s σ H Q I h => wpAny_tests_nil ⟨H, I, h⟩
theorem UC {X : Cx} {c : Expr} {t : TT} (h : PT X c t) : PF X [c] t := fun pins s σ H Q I q => wpAny_tests_one (h pins s σ H Q I q)
theorem vj {env : Env} {x : Str} : ∀ {names : List (Str × NameKind)}, names.lookup x = some .free →
    (names.map fun (n, k) => if (k == NameKind.free && env.scope.kind == .function && env.kindOf n == some .cell) then (n, NameKind.cell) else (n, k)).lookup x = some .cell \/
    (names.map fun (n, k) => if (k == NameKind.free && env.scope.kind == .function && env.kindOf n == some .cell) then (n, NameKind.cell) else (n, k)).lookup x = some .free
  | [], h => by cases h
  | (n, k) :: r, h => by
    rw [List.map_cons]
    cases q : x == n with
    | true =>
      rw [List.lookup_cons, q] at h
      cases h
      by_cases hc : (NameKind.free == NameKind.free && env.scope.kind == .function && env.kindOf n == some .cell) = true
      · left
        show List.lookup x ((if (NameKind.free == NameKind.free && env.scope.kind == .function && env.kindOf n == some .cell) = true then (n, NameKind.cell) else (n, NameKind.free)) :: _) = _
        rw [if_pos hc, List.lookup_cons, q]
      · right
        show List.lookup x ((if (NameKind.free == NameKind.free && env.scope.kind == .function && env.kindOf n == some .cell) = true then (n, NameKind.cell) else (n, NameKind.free)) :: _) = _
        rw [if_neg hc, List.lookup_cons, q]
    | false =>
      rw [List.lookup_cons, q] at h
      have ih := vj (env := env) h
      show List.lookup x ((if (k == NameKind.free && env.scope.kind == .function && env.kindOf n == some .cell) = true then (n, NameKind.cell) else (n, k)) :: _) = _ \/ List.lookup x ((if (k == NameKind.free && env.scope.kind == .function && env.kindOf n == some .cell) = true then (n, NameKind.cell) else (n, k)) :: _) = _
      by_cases hc : (k == NameKind.free && env.scope.kind == .function && env.kindOf n == some .cell) = true
      · rw [if_pos hc, List.lookup_cons, q]; exact ih
      · rw [if_neg hc, List.lookup_cons, q]; exact ih
theorem vC {env : Env} {x : Str} {k' : NameKind} (qv : k' = .cell \/ k' = .free) : ∀ {names : List (Str × NameKind)}, (∀ y ∈ names, y.2 ≠ .cell) →
    (names.map fun (n, k) => if (k == NameKind.free && env.scope.kind == .function && env.kindOf n == some .cell) then (n, NameKind.cell) else (n, k)).lookup x = some k' -> names.lookup x = some .free
  | [], _, h => by cases h
  | (n, k) :: r, hc, h => by
    have h' : List.lookup x ((if (k == NameKind.free && env.scope.kind == .function && env.kindOf n == some .cell) = true then (n, NameKind.cell) else (n, k)) :: r.map _) = some k' := h
    rw [List.lookup_cons]
    cases q : x == n with
    | true =>
      by_cases hb : (k == NameKind.free && env.scope.kind == .function && env.kindOf n == some .cell) = true
      · simp only [Bool.and_eq_true] at hb
        have : k = .free := by simpa using hb.1.1
        rw [this]
      · rw [if_neg hb, List.lookup_cons, q] at h'
        cases h'
        rcases qv with z | z
        · exact absurd z (hc (n, k') List.mem_cons_self)
        · rw [z]
    | false =>
      refine vC (env := env) qv (names := r) (fun y hy => hc y (List.mem_cons_of_mem _ hy)) ?_
      by_cases hb : (k == NameKind.free && env.scope.kind == .function && env.kindOf n == some .cell) = true
      · rw [if_pos hb, List.lookup_cons, q] at h'; exact h'
      · rw [if_neg hb, List.lookup_cons, q] at h'; exact h'
theorem mem_lookup {x : Str} {k : NameKind} : ∀ {names : List (Str × NameKind)}, names.lookup x = some k -> (x, k) ∈ names
 | [], h => by cases h
 | (n, j) :: r, h => by
  rw [List.lookup_cons] at h
  cases q : x == n with
  | true => rw [q] at h; cases h; rw [eq_of_beq q]; exact List.mem_cons_self
  | false => rw [q] at h; exact List.mem_cons_of_mem _ (mem_lookup h)
structure il (X : Cx) (N : List Str) (cap : List (Option Nat)) (scope : Scope) : Prop where
 len : cap.length = N.length
 at_ : ∀ (i j : Nat) (x : Str), N[i]? = some x -> cap[i]? = some (some j) -> X.N[j]? = some x /\ scope.names.lookup x = some .free /\ (X.env.kindOf x = some .cell \/ X.env.kindOf x = some .free)
 free : ∀ y ∈ scope.names, y.2 = .free -> X.env.kindOf y.1 = some .cell \/ X.env.kindOf y.1 = some .free
 cell : ∀ y ∈ scope.names, y.2 ≠ .cell
 kind : scope.kind = .function
 loc : ∀ y ∈ scope.names, y.2 = .local -> scope.names.lookup y.1 = some .local
section
variable {X : Cx} {pins : List (Addr × Obj)} {σ : L2.St} {H : Hp} {s : Shared} {N : List Str} {cap : List (Option Nat)} {scope : Scope} {cl : List (Str × Addr)} {fp : List Addr}
theorem RP (I : Inv X pins σ H s) (c : il X N cap scope) (ip : ∀ x c, cl.lookup x = some c -> X.env.cells.lookup x = some c /\ (x, NameKind.free) ∈ scope.names) (ur : ∀ x, (x, NameKind.free) ∈ scope.names -> ∃ c, cl.lookup x = some c)
    (hf : ∀ b ∈ fp, b < s.heap.objs.size /\ b ≠ X.env.locals /\ b ∉ X.fs /\ (b ∈ X.ex \/ X.aA.heap.objs.size <= b) /\ (∀ x c, X.env.cells.lookup x = some c -> c ≠ b)) {dS : Heap} {m : Str -> Option Value} {tk : Nat}
    (bD : dS.Ns s.heap.objs.size m) (hk : ∀ b o, s.heap.get? b = some o -> dS.get? b = some o) : Inv (bv X N scope cl s.heap.objs.size s H fp) [] (jS cap σ) H { s with heap := dS, toks := tk } := by
  have Yn : ∀ {x : Str}, ((bv X N scope cl s.heap.objs.size s H fp).env.kindOf x = some .cell \/ (bv X N scope cl s.heap.objs.size s H fp).env.kindOf x = some .free) -> scope.names.lookup x = some .free := fun {x} hx => by
    rcases hx with hx | hx
    · exact vC (env := X.env) (.inl rfl) c.cell hx
    · exact vC (env := X.env) (.inr rfl) c.cell hx
  have ok : (bv X N scope cl s.heap.objs.size s H fp).Ok :=
    { mod := I.ok.mod
      kind := c.kind
      glob := I.ok.glob
      blt := I.ok.blt
      above := Nat.le_refl _
      inj := fun x y d h1 h2 => I.ok.inj x y d (ip x d h1).1 (ip y d h2).1
      has := fun x hx => ur x (mem_lookup (Yn hx))
      n9 := fun x d hz => nomatch hz
      hd := I.ok.hd
      frames := I.ok.frames
      qd := .inl rfl
      yx := fun b hb => ⟨Nat.ne_of_lt (hf b hb).1, fun x d hd => (hf b hb).2.2.2.2 x d (ip x d hd).1⟩
      bs := I.bs
      hZ := Nat.le_trans I.ok.hZ I.sz
      nO := fun b o e hb => by
        rcases (hf b hb).2.2.2.1 with z | z
        · exact I.ok.nO b o e z
        · exact absurd (Nat.lt_of_lt_of_le (Heap.lt_size (I.ok.bs b o e).1) z) (Nat.lt_irrefl _)
      nP := fun b hb hz => by
        rcases List.mem_cons.mp (I.xj b hz) with e | e
        · exact (hf b hb).2.1 e
        · exact (hf b hb).2.2.1 e
      eR := I.stack
      j4 := I.wC }
  refine ⟨ok, rfl, I.bare, Un.kept hk, ⟨m, bD, fun i x v e1 e2 _ => ?_⟩, fun x d e => ?_, I.aF.fresh (Nat.le_refl _), fun x d e => I.gr x d (ip x d e).1, (fun p hp => nomatch hp), I.aF.kept hk, ?_⟩
  · unfold jS at e2
    rw [List.getElem?_map] at e2
    cases q : cap[i]? with
    | none => rw [q] at e2; cases e2
    | some o =>
      rw [q] at e2
      cases o with
      | none => cases e2
      | some j =>
        have e3 : (σ[j]?).join = some v := Option.some.inj e2
        have e4 : σ[j]? = some (some v) := by
          cases z : σ[j]? with
          | none => rw [z] at e3; cases e3
          | some w => rw [z] at e3; exact congrArg some e3
        obtain ⟨h1, h2, h3⟩ := c.at_ i j x e1 q
        obtain ⟨m0, _, hl⟩ := I.loc
        obtain ⟨u, ru, lk⟩ := hl j x v h1 e4 (.inr h3)
        refine ⟨u, ru, ?_⟩
        rcases lk with ⟨z, _⟩ | ⟨_, d, hd, nF⟩
        · rcases h3 with z' | z' <;> (rw [z] at z'; cases z')
        · obtain ⟨d', j5⟩ := ur x (mem_lookup h2)
          have e5 := (ip x d' j5).1
          rw [hd] at e5
          cases e5
          obtain ⟨ob, ho, yd⟩ := nF
          exact .inr ⟨vj (env := X.env) h2, d, j5, ob, hk _ _ ho, yd⟩
  · obtain ⟨v, ob, ho, yd⟩ := I.cell x d (ip x d e).1
    exact ⟨v, ob, hk _ _ ho, yd⟩
  · show (jS cap σ).length = N.length
    unfold jS
    rw [List.length_map]
    exact c.len
theorem Un.but {fs ex : List Addr} {H H' : Hp} {h h1 h2 : Heap} {C : Addr} (u : Un fs ex H H' h h1) (sb : ∀ b, b ≠ C -> h2.get? b = h1.get? b) (hC : h.get? C = none) : Un fs ex H H' h h2 := by
 have ne : ∀ b o, h.get? b = some o -> b ≠ C := fun b o e z => by rw [z, hC] at e; cases e
 exact ⟨fun b o e n h1 h2 => (sb b (ne b o e)).trans (u.keep b o e n h1 h2), fun b o e n h1 h2 => by
  obtain ⟨sl, q⟩ := u.slot b o e n h1 h2
  exact ⟨sl, (sb b (ne b o e)).trans q⟩, u.free, fun b o e h1 => by
  obtain ⟨o', q⟩ := u.there b o e h1
  exact ⟨o', (sb b (ne b o e)).trans q⟩, u.d0, u.dC, u.d3⟩
theorem Ce {ao : L2.St} {H' : Hp} {s' : Shared} {h' : Heap} (I : Inv X pins σ H s) (J : Inv (bv X N scope cl s.heap.objs.size s H fp) [] ao H' s') (sb : Heap.SameBut s.heap.objs.size s'.heap h')
  (hf : ∀ b ∈ fp, fB X pins H b) : Inv X pins σ H' { s' with heap := h' } := by
 have hC : H' s.heap.objs.size = none := J.free
 refine I.Wc (ch := fp) J.os (Un.but J.base sb.2 (Heap.get?_none_of_le (Nat.le_refl _))) (fun a o e => ?_) J.bare fun b hb => ⟨(hf b hb).2.2.2.1, (hf b hb).2.1, (hf b hb).2.2.2.2.1, (hf b hb).2.2.2.2.2⟩
 refine (J.aF a o e).gv (fun b u hb q => (sb.2 b ?_).trans q) (fun _ q => q) fun _ _ q => q
 rintro rfl
 rcases hb with z | z
 ·rw [<- z, hC] at e; cases e
 ·rw [hC] at z; cases z
end
section
variable {prog : Program} {w : World} {A : Around} {R : Result -> Shared -> Prop} {s : Shared}
theorem O3 {elt target iter : Expr} {ifs : List Expr} {scope : Scope} {pos : Pos} {it acc : Value} {env : Env} (J : Nat -> Shared -> Prop)
  (turn : ∀ k s, J k s -> wpAny (model prog w) A (pyNext it) (fun r s1 => match r with
   | none => R (.ok .next) s1
   | some v => wpAny (model prog w) A (letOwnedTupleGo target it v) (fun _ s2 => wpAny (model prog w) A (assign target env v) (fun _ s3 =>
     wpAny (model prog w) A (forIn ifs true fun c r => if r = true then do let ok <- isTrue c env (eval c env); pure (ForInStep.yield ok) else pure (ForInStep.yield r)) (fun ok s4 =>
      if ok = true then wpAny (model prog w) A (eval elt env) (fun x s5 => wpAny (model prog w) A (call (.builtin "list.append") [acc, x]) (fun _ s6 => ∃ j, j < k /\ J j s6) (fun _ _ => False) s5) (fun _ _ => False) s4
      else ∃ j, j < k /\ J j s4) (fun _ _ => False) s3) (fun _ _ => False) s2) (fun _ _ => False) s1) (fun _ _ => False) s)
  (k : Nat) (h : J k s) : codeAny (model prog w) A (.compLoop (.ListComp elt [⟨target, iter, ifs, 0⟩] scope pos) 0 it acc env) R s := by
 have no : ∀ {E : Value -> Shared -> Prop} (e : Value) (s : Shared), False -> E e s := fun _ _ z => z.elim
 refine codeAny_loop (c := .compLoop (.ListComp elt [⟨target, iter, ifs, 0⟩] scope pos) 0 it acc env) rfl J (fun k s hJ => ?_) k h
 show wpAny (model prog w) A ((compTurn (.ListComp elt [⟨target, iter, ifs, 0⟩] scope pos) 0 it acc env).onRaise fun x => do noteFrame x env; theTreesLotGoes x) _ _ s
 refine wpAny_noted ?_
 rw [compTurn_list]
 refine wpAny_bind (wpAny_standAt (wpAny_bind (wpAny_mono (turn k s hJ) (fun r s1 h1 => ?_) no)))
 cases r with
 | none => exact wpAny_pure h1
 | some v =>
  refine wpAny_bind (wpAny_mono h1 (fun _ s2 h2 => wpAny_bind (wpAny_mono h2 (fun _ s3 h3 => wpAny_bind (wpAny_mono h3 (fun ok s4 h4 => ?_) no)) no)) no)
  cases ok with
  | false => exact wpAny_pure ⟨rfl, h4⟩
  | true => exact wpAny_bind (wpAny_bind (wpAny_mono h4 (fun x s5 h5 => wpAny_bind (wpAny_mono h5 (fun _ s6 h6 => wpAny_pure (wpAny_pure ⟨rfl, h6⟩)) no)) no))
end
section
variable {X : Cx} {tg iter elt : Expr} {ifs : List Expr} {scope : Scope} {pos : Pos} {N : List Str} {cap : List (Option Nat)} {wi : TI} {g : TG} {tc : TT} {te : TE}
theorem Bg {use : Option (Value -> Sem Unit)} {Q' : Value -> Shared -> Prop} {pins : List (Addr × Obj)} {s : Shared} {σ : L2.St} {H : Hp} {Q : VK} {p0 : Pos} (hc : X.calm = true) (c : il X N cap scope) (hi : PI X tg iter wi) (hg : ∀ cl C aA aG ex, PG (bv X N scope cl C aA aG ex) tg g) (ht : ∀ cl C aA aG ex, PF (bv X N scope cl C aA aG ex) ifs tc)
  (he : ∀ cl C aA aG ex, PE (bv X N scope cl C aA aG ex) elt te) (hs : ∀ x, foldedSetIterable iter X.env x = pure x) (I : Inv X pins σ H s) (h : pC wi cap g tc te σ H Q)
  (fin : ∀ (s3 s6 : Shared) (H3 H6 : Hp) (fp : List Addr) (qW : L2.St) (cl : List (Str × Addr)) (D : Addr), Inv X pins σ H3 s3 -> (∀ b ∈ fp, fB X pins H3 b) -> Inv (bv X N scope cl s3.heap.objs.size s3 H3 fp) [] qW H6 s6 -> Q (.ref D) H6 →
   compPost (model X.prog X.w) X.A X.xe use Q' (.ref D) s3.heap.objs.size (.ok .next) s6) :
  wpAny (model X.prog X.w) X.A (comprehension (.ListComp elt [⟨tg, iter, ifs, 0⟩] scope pos) scope X.env p0 (newList []) false (eval iter X.env) use) Q' X.xe s := by
 obtain ⟨cl, WU, ip, ur⟩ := RO (scope := scope) (env := X.env) fun y hy hf => I.ok.has y.1 (c.free y hy hf)
 refine wpAny_comprehension_free (use := use) rfl hs WU c.kind c.loc (wpAny_mono (hi pins s σ H _ I h) (fun v s1 h1 => wpAny_mono h1 (fun yB s2 h2 => ?_) fun _ _ z => z) fun _ _ z => z)
 obtain ⟨it, fp, tn, J, H2, rfl, I2, T, gE, f2, h2⟩ := h2
 refine wpAny_newObj_type (wpAny_newFunctionEnv c.cell (by intro y hy; simp at hy) (fun dS bD yP => ?_) c.kind)
 have hD : H2 s2.heap.objs.size = none := I2.fresh
 obtain ⟨W, ⟨m0, w0⟩, turn⟩ := h2 s2.heap.objs.size hD
 have I3 := I2.EB (its := []) (ys := []) (t' := s2.toks) .nil (Nat.zero_le _)
 have iq : ∀ b ∈ fp, fB X pins (upd H2 s2.heap.objs.size (.lst [])) b := fun b hb => by
  obtain ⟨a1, a2⟩ := f2 b hb
  refine ⟨?_, a2⟩
  obtain ⟨o, ho, _⟩ := T.obj 0 _ gE b hb
  rw [aM (Nat.ne_of_lt (Heap.lt_size ho))]
  exact a1
 have Fi : ∀ b ∈ fp, b < s2.heap.objs.size := fun b hb => by
  obtain ⟨o, ho, _⟩ := T.obj 0 _ gE b hb
  exact Heap.lt_size ho
 revert bD yP
 generalize ZE : ({ s2 with heap := s2.heap.push { cls := .type "list", data := .seq ([] : List Value).toArray }, toks := s2.toks } : Shared) = s3 at I3
 intro bD yP
 have Fj : s3.heap = s2.heap.push { cls := .type "list", data := .seq ([] : List Value).toArray } := by rw [<- ZE]
 have e3 : s3.heap.objs.size = s2.heap.objs.size + 1 := by rw [Fj, Heap.size_push]
 have Fm : ∀ b o, s2.heap.get? b = some o -> s3.heap.get? b = some o := fun b o e => by rw [Fj]; exact Heap.get?_push_of_some _ e
 have yQ : ∀ b o, s3.heap.get? b = some o -> dS.get? b = some o := fun b o e => yP.extBut b o (Nat.ne_of_lt (Heap.lt_size e)) (Heap.get?_push_of_some _ e)
 have Yo : dS.Ns s3.heap.objs.size (fun x => ([] : List (Str × Value)).reverse.lookup x) := bD
 have I4 := RP (fp := fp) (tk := s3.toks + ([] : List (Str × Value)).length) I3 c ip ur (fun b hb => ⟨by rw [e3]; exact Nat.lt_succ_of_lt (Fi b hb), (iq b hb).2.1, (iq b hb).2.2.1, (iq b hb).2.2.2.1, (iq b hb).2.2.2.2.1⟩) Yo yQ
 have loop : ∀ s4 : Shared, s4 = { s3 with heap := dS, toks := s3.toks + ([] : List (Str × Value)).length } →
   codeAny (model X.prog X.w) X.A (.compLoop (.ListComp elt [⟨tg, iter, ifs, 0⟩] scope pos) 0 (.ref it) (.ref s2.heap.objs.size) (compEnvC scope cl s3.heap.objs.size X.env))
    (compPost (model X.prog X.w) X.A X.xe use Q' (.ref s2.heap.objs.size) s3.heap.objs.size) s4 := by
  rintro s4 rfl
  refine O3 (fun m s => ∃ i bF yR, Inv (bv X N scope cl s3.heap.objs.size s3 (upd H2 s2.heap.objs.size (.lst [])) fp) [] bF yR s /\ tn i s.heap /\ (∀ b ∈ fp, yR b = none) /\ W i m bF yR) ?_ m0
   ⟨0, jS cap σ, _, I4, T.keep _ _ _ gE fun b hb o e => yQ b o (Fm b o e), fun b hb => (iq b hb).1, w0⟩
  rintro k s5 ⟨i, fK, H5, I5, og, uK, w5⟩
  have yS : ∀ {H' : Hp} {ps : List (Addr × Obj)}, (∀ b ∈ fp, H' b = none) -> (∀ p ∈ ps, ∀ b ∈ fp, p.1 ≠ b) -> ∀ b ∈ fp, fB (bv X N scope cl s3.heap.objs.size s3 (upd H2 s2.heap.objs.size (.lst [])) fp) ps H' b := fun {H' ps} hn hp b hb =>
   ⟨hn b hb, (fun z => by have q := Fi b hb; have z' : b = s3.heap.objs.size := z; rw [z', e3] at q; exact absurd q (Nat.not_lt.mpr (Nat.le_succ _))), I5.ok.nP b hb, .inl hb, fun x d hd => (iq b hb).2.2.2.2.1 x d (ip x d hd).1, fun p ZF => hp p (by simpa [bv] using ZF) b hb⟩
  rcases turn i k fK H5 w5 with ⟨stop, qn⟩ | ⟨go, step⟩
  ·refine wpAny_mono (T.done (bv X N scope cl s3.heap.objs.size s3 (upd H2 s2.heap.objs.size (.lst [])) fp) rfl rfl rfl hc i [] s5 fK H5 _ I5 (yS uK (fun _ z => nomatch z)) og stop) (fun r s6 hr => ?_) fun _ _ z => z
   obtain ⟨rfl, I6⟩ := hr
   exact fin s3 s6 _ H5 fp fK cl _ I3 iq I6 qn
  ·refine wpAny_mono (T.item (bv X N scope cl s3.heap.objs.size s3 (upd H2 s2.heap.objs.size (.lst [])) fp) rfl rfl rfl hc i [] s5 fK H5 _ I5 (yS uK (fun _ z => nomatch z)) og go) (fun r s6 hr => ?_) fun _ _ z => z
   obtain ⟨u, rfl, h6⟩ := hr
   refine wpAny_mono h6 (fun _ s7 ⟨x, H7, I7, rx, y7, yT, ZG⟩ => ?_) fun _ _ z => z
   have ZH := I7.pinned (yS ZG (fun _ z => nomatch z)) (T.obj _ _ yT)
   have back : ∀ {js : L2.St} {H8 : Hp} {s8 : Shared}, Inv (bv X N scope cl s3.heap.objs.size s3 (upd H2 s2.heap.objs.size (.lst [])) fp) ([] ++ pj fp s7.heap) js H8 s8 →
     Inv (bv X N scope cl s3.heap.objs.size s3 (upd H2 s2.heap.objs.size (.lst [])) fp) [] js H8 s8 /\ tn (i + 1) s8.heap /\ ∀ b ∈ fp, H8 b = none := fun {js H8 s8} I8 => by
    refine ⟨I8.sW, T.keep _ _ _ yT fun b hb o e => (I8.pin (b, o) (List.mem_append_right _ (List.mem_append_right _ (sA hb e)))).1, fun b hb => ?_⟩
    obtain ⟨o, e, d⟩ := T.obj _ _ yT b hb
    exact (I8.pin (b, o) (List.mem_append_right _ (List.mem_append_right _ (sA hb e)))).2.1
   refine aT (hg cl _ _ _ fp _ s7 fK H7 x u _ ZH rx (step x H7 y7)) fun _ s8 ⟨js, H8, I8, q8⟩ => ?_
   refine aT (ht cl _ _ _ fp _ s8 js H8 _ I8 q8) fun ok s9 ⟨H9, I9, q9⟩ => ?_
   cases ok with
   | false =>
    obtain ⟨m', hm, w9⟩ := q9
    obtain ⟨a1, a2, a3⟩ := back I9
    exact ⟨m', hm, i + 1, js, H9, a1, a2, a3, w9⟩
   | true =>
    refine aT (he cl _ _ _ fp _ s9 js H9 _ I9 q9) fun y ZI ⟨uQ, ZJ, ZK, ZL, xs, hx, hz, m', hm, ZM⟩ => ?_
    refine aT (sM (X := bv X N scope cl s3.heap.objs.size s3 (upd H2 s2.heap.objs.size (.lst [])) fp) _ ZI js ZJ (.ref s2.heap.objs.size) [uQ] (.ref s2.heap.objs.size) [y] (fun _ H' => W (i + 1) m' js H') ZK rfl (.cons ZL .nil) ⟨_, xs, _, rfl, rfl, hx, hz, ZM⟩) fun _ s11 ⟨_, ZN, ZO, _, ZP⟩ => ?_
    obtain ⟨a1, a2, a3⟩ := back ZO
    exact ⟨m', hm, i + 1, js, ZN, a1, a2, a3, ZP⟩
 exact codeAny_compStart_list (loop _ rfl) (T.self _ 0 _ _ _ (T.keep _ _ _ gE fun b hb o e => yQ b o (Fm b o e)) (loop _ rfl))
theorem RQ (hc : X.calm = true) (c : il X N cap scope) (hi : PI X tg iter wi) (hg : ∀ cl C aA aG ex, PG (bv X N scope cl C aA aG ex) tg g) (ht : ∀ cl C aA aG ex, PF (bv X N scope cl C aA aG ex) ifs tc)
  (he : ∀ cl C aA aG ex, PE (bv X N scope cl C aA aG ex) elt te) (hs : ∀ x, foldedSetIterable iter X.env x = pure x := by intro _; rfl) : PE X (.ListComp elt [⟨tg, iter, ifs, 0⟩] scope pos) (pC wi cap g tc te) := by
 intro pins s σ H Q I h
 rw [eval_ListComp]
 refine Bg hc c hi hg ht he hs I h fun s3 s6 H3 H6 fp qW cl D I3 iq I6 q => ?_
 obtain ⟨m6, yU, _⟩ := I6.loc
 exact ⟨m6, yU, fun h' sb => ⟨.ref D, H6, Ce I3 I6 sb iq, rfl, q⟩⟩
theorem Cf {i : Nat} {x : Str} {pos' jT : Pos} (hN : X.N.Nodup) (ed : X.N[i]? = some x) (hx : X.env.scope.names.lookup x = some .local) (fq : swapsWith (.ListComp elt [⟨tg, iter, ifs, 0⟩] scope pos) (some (.Name x pos')) jT.line X.env = pure true)
  (hc : X.calm = true) (c : il X N cap scope) (hi : PI X tg iter wi) (hg : ∀ cl C aA aG ex, PG (bv X N scope cl C aA aG ex) tg g) (ht : ∀ cl C aA aG ex, PF (bv X N scope cl C aA aG ex) ifs tc)
  (he : ∀ cl C aA aG ex, PE (bv X N scope cl C aA aG ex) elt te) (hs : ∀ x, foldedSetIterable iter X.env x = pure x := by intro _; rfl) :
  PS X (.Assign [.Name x pos'] (.ListComp elt [⟨tg, iter, ifs, 0⟩] scope pos) jT) (uh (pC wi cap g tc te) (xH i)) := by
 intro pins s σ H D I h
 rw [exec_Assign_Name_used x pos' _ jT fq]
 refine wpAny_bind (wpAny_standAt (wpAny_bind ?_))
 show wpAny (model X.prog X.w) X.A (comprehension (.ListComp elt [⟨tg, iter, ifs, 0⟩] scope pos) scope X.env _ (newList []) false (eval iter X.env) (some (assign (.Name x pos') X.env)) >>= fun _ => pure ()) _ _ s
 refine wpAny_bind (Bg hc c hi hg ht he hs I h fun s3 s6 H3 H6 fp qW cl Dl I3 iq I6 q => ?_)
 obtain ⟨m6, yU, _⟩ := I6.loc
 have Yp : s6.heap.Ns s3.heap.objs.size m6 := yU
 have I7 : Inv X pins σ H6 s6 := Ce (h' := s6.heap) I3 I6 ⟨rfl, fun _ _ => rfl⟩ iq
 refine wpAny_assign_Name (A8 I7 hN ed (.inl hx) (v := .ref Dl) rfl (fun s8 I8 h8 => ?_) (.inr hx))
 obtain ⟨a, ZQ, ha⟩ := h8
 have fresh : H6 s3.heap.objs.size = none := I6.free
 have qe : s3.heap.objs.size ≠ X.env.locals := Nat.ne_of_gt I3.lt
 have mI : ∀ y d, X.env.cells.lookup y = some d -> d ≠ s3.heap.objs.size := fun y d e => by
  obtain ⟨v, o, ho, _⟩ := I3.cell y d e
  exact Nat.ne_of_lt (Heap.lt_size ho)
 have ZR : ∀ p ∈ X.pn ++ pins, p.1 ≠ s3.heap.objs.size := fun p hp => Nat.ne_of_lt (Heap.lt_size (I3.pin p hp).1)
 have ZS : s3.heap.objs.size ≠ a := by
  rcases ha with z | z
  ·rw [z]; exact qe
  ·exact Ne.symm (mI x a z)
 refine ⟨m6, Yp.sameBut ZQ ZS, fun h' sb => wpAny_pure (wpAny_pure ⟨_, H6, ?_, q⟩)⟩
 exact I8.turned (t' := s8.toks) (fun b o hb e => (sb.2 b hb).trans e) fresh qe (.inr I3.sz) mI ZR
end
def fk (cap : List (Option Nat)) (σ : aE) : aE := cap.map fun o => o.bind fun i => (σ[i]?).join
def eG {α : Type} (m : Mo α) : Mo α := fun ph => match m ph with
 | .ok a ph' => .ok a ph'
 | _ => .no
theorem tf {α : Type} {m : Mo α} {ph : PH} {N : α -> PH -> Prop} {E E' : XC -> PH -> Prop} (h : (eG m ph).Run N E) : (m ph).Run N E' := by
 unfold eG at h
 cases e : m ph with
 | ok a ph' => rw [e] at h; exact h
 | ex x ph' => rw [e] at h; exact h.elim
 | no => rw [e] at h; exact h
def de (chk : PH -> Bool) (g : GM) (c : TM) (e : EM) (L : Nat) : List W -> aE -> Mo Unit
 | [], _ => fun ph => if chk ph = true then .ok () ph else .no
 | x :: xs, σ => fun ph => if chk ph = true then ap (eG (g x σ)) (fun aP => ap (eG (c aP)) fun t => if t = true then ap (eG (e aP)) fun w => ap (lift (fc (.ref L) [w])) fun _ => de chk g c e L xs aP else de chk g c e L xs aP) ph else .no
def cZ (im : IM) (cap : List (Option Nat)) (g : GM) (c : TM) (e : EM) : EM := fun σ => ap (im σ) fun r ph => ap (de r.2 g c e ph.length r.1 (fk cap σ)) (fun _ => aw (.ref ph.length)) (ph ++ [.lst []])
section
variable {K : PySem.W.Frag} {φ : Nat -> Addr} {n : Nat} {H : Hp}
theorem aR.cap {ws : aE} {σ : L2.St} (h : aR K φ n H ws σ) : ∀ (cap : List (Option Nat)), aR K φ n H (fk cap ws) (jS cap σ)
 | [] => .nil
 | o :: r => by
  have ih := aR.cap h r
  unfold fk jS at ih ⊢
  rw [List.map_cons, List.map_cons]
  cases o with
  | none => exact .nn ih
  | some i =>
   cases q : ws[i]? with
   | none => simp only [Option.bind_some, q, Option.join_none]; exact .nn ih
   | some o =>
    cases o with
    | none => simp only [Option.bind_some, q, Option.join_some]; exact .nn ih
    | some w =>
     obtain ⟨v, ev, rv⟩ := h.get q
     simp only [Option.bind_some, q, ev, Option.join_some]
     exact .sm rv ih
theorem Nd {L : Nat} {w u : W} {ph ph' : PH} (h : fc (.ref L) [w] ph = some (u, ph')) : ∃ ws, ph[L]? = some (.lst ws) /\ ws.length < sizeLine /\ ph' = ph.set L (.lst (ws ++ [w])) := by
 unfold fc at h
 simp only at h
 split at h
 ·rename_i ws hw
  split at h
  ·rename_i hz
   cases h
   exact ⟨ws, hw, hz, rfl⟩
  ·cases h
 ·cases h
end
def uR (K : PySem.W.Frag) (m : EM) : TE := fun σ H Q => ∃ φ ph ws, ax K φ ph H /\ aR K φ ph.length H ws σ /\ (m ws ph).Run (fun w ph' =>
 ∀ ak H' v, ax K ak ph' H' -> Step K φ ph.length H ak ph'.length H' -> ay K ak ph'.length H' w v -> Q v H') (fun _ _ => False)
def jm (K : PySem.W.Frag) (m : TM) : TT := fun σ H Q => ∃ φ ph ws, ax K φ ph H /\ aR K φ ph.length H ws σ /\ (m ws ph).Run (fun b ph' =>
 ∀ ak H', ax K ak ph' H' -> Step K φ ph.length H ak ph'.length H' -> Q b H') (fun _ _ => False)
def uS (K : PySem.W.Frag) (g : GM) : TG := fun v σ H Q => ∃ φ ph ws w, ax K φ ph H /\ aR K φ ph.length H ws σ /\ ay K φ ph.length H w v /\ (g w ws ph).Run (fun ws' ph' =>
 ∀ ak H' ao, ax K ak ph' H' -> Step K φ ph.length H ak ph'.length H' -> aR K ak ph'.length H' ws' ao -> Q ao H') (fun _ _ => False)
section
variable {X : Cx} {e : Expr}
theorem e0 {m : EM} (h : IE X e m) : PE X e (uR X.K m) := PE.imp h fun _ _ _ ⟨φ, ph, ws, a, b, c⟩ => ⟨φ, ph, ws, a, b, c.mono (fun _ _ z => z) fun _ _ z => z.elim⟩
theorem t0 {m : TM} (h : IT X e m) : PT X e (jm X.K m) := PT.imp h fun _ _ _ ⟨φ, ph, ws, a, b, c⟩ => ⟨φ, ph, ws, a, b, c.mono (fun _ _ z => z) fun _ _ z => z.elim⟩
theorem g0 {g : GM} (h : IG X e g) : PG X e (uS X.K g) := PG.imp h fun _ _ _ _ ⟨φ, ph, ws, w, a, b, r, c⟩ => ⟨φ, ph, ws, w, a, b, r, c.mono (fun _ _ z => z) fun _ _ z => z.elim⟩
end
section
variable {X : Cx} {tg iter elt : Expr} {ifs : List Expr} {scope : Scope} {pos : Pos} {N : List Str} {cap : List (Option Nat)} {im : IM} {g : GM} {c : TM} {e : EM}
theorem Bh {σ : L2.St} {Q : VK} {au : Nat -> Addr} {ph1 : PH} {H1 : Hp} {ws : aE} {J : It} {items : List W} {chk : PH -> Bool} {D : Addr} (aD : ax X.K au ph1 H1) (hS : aR X.K au ph1.length H1 ws σ) (hJ : qr X.K J items chk au ph1.length H1) (hD : H1 D = none)
  (h : (de chk g c e ph1.length items (fk cap ws) (ph1 ++ [.lst []])).Run (fun _ ph' => ∀ ak H' v, ax X.K ak ph' H' -> Step X.K au ph1.length H1 ak ph'.length H' -> ay X.K ak ph'.length H' (.ref ph1.length) v -> Q v H') (fun _ _ => True)) :
  ∃ W : Nat -> Nat -> L2.St -> Hp -> Prop, (∃ m, W 0 m (jS cap σ) (upd H1 D (.lst []))) /\
   ∀ i m bF H2, W i m bF H2 -> (J.stop i H2 /\ Q (.ref D) H2) \/ (J.go i H2 /\ ∀ x H3, J.qi i H2 x H3 -> uS X.K g x bF H3 fun jr H4 => jm X.K c jr H4 fun b H5 =>
    if b = true then uR X.K e jr H5 fun v H6 => ∃ xs, H6 D = some (.lst xs) /\ xs.length < sizeLine /\ ∃ m', m' < m /\ W (i + 1) m' jr (upd H6 D (.lst (xs ++ [v]))) else ∃ m', m' < m /\ W (i + 1) m' jr H5) := by
 have nl := nh (ws := []) (vs := []) aD .nil hD
 have hl : (ph1 ++ [PO.lst []]).length = ph1.length + 1 := by simp
 rw [hl] at nl
 obtain ⟨aY, s2, _⟩ := nl
 refine ⟨fun i m bF H2 => ∃ aS ph2 eV, m = (items.drop i).length /\ ax X.K aS ph2 H2 /\ aR X.K aS ph2.length H2 eV bF /\ Step X.K (ext au ph1.length D) (ph1.length + 1) (upd H1 D (.lst [])) aS ph2.length H2 /\
   (de chk g c e ph1.length (items.drop i) eV ph2).Run (fun _ ph' => ∀ ak H' v, ax X.K ak ph' H' -> Step X.K aS ph2.length H2 ak ph'.length H' -> ay X.K ak ph'.length H' (.ref ph1.length) v -> Q v H') (fun _ _ => True),
  ⟨_, ext au ph1.length D, ph1 ++ [PO.lst []], fk cap ws, rfl, aY, ?_, by rw [hl]; exact Step.refl, ?_⟩, ?_⟩
 ·rw [hl]
  exact (aR.cap (hS.mono s2) cap)
 ·exact Out.Run.mono h (fun _ ph' k ak H' v r' cJ rv => k ak H' v r' (s2.trans (by rw [hl] at cJ; exact cJ)) rv) fun _ _ _ => trivial
 rintro i m bF H2 ⟨aS, ph2, eV, rfl, oj, jk, gE, h4⟩
 have ut : aS ph1.length = D := by rw [gE.eq _ (Nat.lt_succ_self _), iQ]
 cases hd : items.drop i with
 | nil =>
  rw [hd] at h4
  unfold de at h4
  split at h4
  ·rename_i hc
   have hn : items[i]? = none := by
    have : items.length <= i := by simpa using hd
    simpa using this
   refine .inl ⟨(hJ aS _ H2 oj (s2.trans gE) hc i).2 hn, h4 aS H2 _ oj Step.refl ?_⟩
   rw [<- ut]
   exact .ref (Nat.lt_of_lt_of_le (Nat.lt_succ_self _) gE.le)
  ·exact h4.elim
 | cons x xs =>
  rw [hd] at h4
  unfold de at h4
  split at h4
  ·rename_i hc
   have hx : items[i]? = some x := by
    have := congrArg (fun l => l[0]?) hd
    simpa using this
   have mL : items.drop (i + 1) = xs := by
    have := congrArg (fun l => l.drop 1) hd
    simpa [List.drop_drop, Nat.add_comm] using this
   obtain ⟨yK, hy⟩ := (hJ aS _ H2 oj (s2.trans gE) hc i).1 x hx
   refine .inr ⟨yK, fun v H3 y => ?_⟩
   obtain ⟨d8, s3, rv⟩ := hy v H3 y
   rw [cq] at h4
   refine ⟨aS, ph2, eV, x, d8, jk.mono s3, rv, (tf h4).mono (fun eW gI h5 ix H5 fK ik s5 eX => ?_) fun _ _ z => z⟩
   rw [cq] at h5
   refine ⟨ix, gI, eW, ik, eX, (tf h5).mono (fun t yV h6 F5 H6 Fo s6 => ?_) fun _ _ z => z⟩
   have yW := (s3.trans s5).trans s6
   have pQ := gE.trans yW
   cases t with
   | false =>
    refine mz ⟨xs.length, by simp, F5, yV, eW, by rw [mL], Fo, eX.mono s6, pQ, ?_⟩
    rw [mL]
    exact Out.Run.mono h6 (fun _ ph' k ak H' v r' cJ q => k ak H' v r' (yW.trans cJ) q) fun _ _ z => z
   | true =>
    have Fp : (ap (eG (e eW)) (fun w => ap (lift (fc (.ref ph1.length) [w])) fun _ => de chk g c e ph1.length xs eW) yV).Run _ _ := h6
    rw [cq] at Fp
    refine mB ⟨F5, yV, eW, Fo, eX.mono s6, (tf Fp).mono (fun w7 lh h7 F6 H7 v7 Fq s7 r7 => ?_) fun _ _ z => z⟩
    rw [cq] at h7
    obtain ⟨u8, yX, e8, h8⟩ := run_lift h7
    obtain ⟨wsL, hL, hz, rfl⟩ := Nd e8
    have ZT := yW.trans s7
    have DX := pQ.trans s7
    have WV : F6 ph1.length = D := by rw [DX.eq _ (Nat.lt_succ_self _), iQ]
    obtain ⟨vs, hv, om⟩ := Fq.hp _ _ hL
    have cS : ph1.length < lh.length := (List.getElem?_eq_some_iff.mp hL).1
    obtain ⟨q1, q2⟩ := sX Fq hL (om.append (.cons r7 .nil))
    rw [WV] at hv q1 q2
    refine ⟨vs, hv, by rw [<- om.length]; exact hz, xs.length, by simp, F6, _, eW, by rw [mL], q1, ((eX.mono s6).mono s7).mono q2, DX.trans q2, ?_⟩
    rw [mL]
    exact Out.Run.mono h8 (fun _ ph' k ak H' v r' cJ q => k ak H' v r' ((ZT.trans q2).trans cJ) q) fun _ _ z => z
  ·exact h4.elim
theorem BB {σ : L2.St} {H : Hp} {Q : VK} (h : tM X (cZ im cap g c e) σ H Q) : pC (tI X im) cap (uS X.K g) (jm X.K c) (uR X.K e) σ H Q := by
 obtain ⟨φ, ph, ws, hH, hS, h⟩ := h
 unfold cZ at h
 rw [cq] at h
 refine ⟨φ, ph, ws, hH, hS, h.mono (fun r ph1 h au H1 J aD s1 hJ D hD => ?_) fun _ _ z => z⟩
 rw [cq] at h
 exact Bh aD (hS.mono s1) hJ hD (Out.Run.mono h (fun _ ph' k ak H' v r' cJ rv => k ak H' v r' (s1.trans cJ) rv) fun _ _ _ => trivial)
theorem PF.imp {t t' : TT} (h : PF X ifs t) (k : ∀ σ H Q, t' σ H Q -> t σ H Q) : PF X ifs t' := fun pins s σ H Q I q => h pins s σ H Q I (k σ H Q q)
def df : TM := fun _ => aw true
theorem UD : PF X [] (jm X.K df) := PF.imp UB fun σ H Q h => by
 obtain ⟨φ, ph, ws, hH, hS, h⟩ := h
 exact h φ H hH Step.refl
theorem UE {cd : Expr} (h : IT X cd c) : PF X [cd] (jm X.K c) := UC (t0 h)
theorem RR (hc : X.calm = true) (cp : il X N cap scope) (hi : II X tg iter im) (hg : ∀ cl C aA aG ex, IG (bv X N scope cl C aA aG ex) tg g) (ht : ∀ cl C aA aG ex, PF (bv X N scope cl C aA aG ex) ifs (jm X.K c))
  (he : ∀ cl C aA aG ex, IE (bv X N scope cl C aA aG ex) elt e) (hs : ∀ x, foldedSetIterable iter X.env x = pure x := by intro _; rfl) : IE X (.ListComp elt [⟨tg, iter, ifs, 0⟩] scope pos) (cZ im cap g c e) :=
 PE.imp (RQ hc cp hi (fun cl C aA aG ex => g0 (hg cl C aA aG ex)) ht (fun cl C aA aG ex => e0 (he cl C aA aG ex)) hs) fun _ _ _ h => BB h
theorem RS {i : Nat} {x : Str} {pos' jT : Pos} (hN : X.N.Nodup) (ed : X.N[i]? = some x) (hx : X.env.scope.names.lookup x = some .local)
  (hc : X.calm = true) (cp : il X N cap scope) (hi : II X tg iter im) (hg : ∀ cl C aA aG ex, IG (bv X N scope cl C aA aG ex) tg g) (ht : ∀ cl C aA aG ex, PF (bv X N scope cl C aA aG ex) ifs (jm X.K c))
  (he : ∀ cl C aA aG ex, IE (bv X N scope cl C aA aG ex) elt e) (fq : swapsWith (.ListComp elt [⟨tg, iter, ifs, 0⟩] scope pos) (some (.Name x pos')) jT.line X.env = pure true := by rfl) (hs : ∀ x, foldedSetIterable iter X.env x = pure x := by intro _; rfl) :
  IS X (.Assign [.Name x pos'] (.ListComp elt [⟨tg, iter, ifs, 0⟩] scope pos) jT) (aC (cZ im cap g c e) (gN i)) :=
 PS.imp (Cf hN ed hx fq hc cp hi (fun cl C aA aG ex => g0 (hg cl C aA aG ex)) ht (fun cl C aA aG ex => e0 (he cl C aA aG ex)) hs) fun D σ H h => by
  obtain ⟨φ, ph, ws, hH, hS, h⟩ := h
  unfold aC at h
  rw [cq] at h
  exact BB ⟨φ, ph, ws, hH, hS, h.mono (fun w ph1 h au H1 v aD s1 r1 => h au H1 aD s1 _ ((hS.mono s1).set r1 i)) fun _ _ z => z⟩
end
def uu : List GM -> List W -> aE -> Mo aE
 | [], [], σ => aw σ
 | g :: gs, w :: ws, σ => ap (g w σ) fun ao => uu gs ws ao
 | _, _, _ => d6
def gT (gs : List GM) : GM := fun w σ => match w with
 | .tup ws => uu gs ws σ
 | _ => d6
def qw (X : Cx) (gs : List GM) : j8 := fun vs σ H Q => ∃ φ ph ws xs, ax X.K φ ph H /\ aR X.K φ ph.length H ws σ /\ aK X.K φ ph.length H xs vs /\ (uu gs xs ws ph).Run (fun ws' ph' =>
 ∀ ak H' ao, ax X.K ak ph' H' -> Step X.K φ ph.length H ak ph'.length H' -> aR X.K ak ph'.length H' ws' ao -> Q ao H') (XE X φ ph.length H)
def nY (n : Nat) (gs : List GM) : GM := fun w σ => match w with
 | .tup ws => if ws.length = n then uu gs ws σ else d6
 | _ => d6
section
variable {X : Cx} {tg : Expr} {es : List Expr} {g : GM} {gs : List GM} {pos : Pos}
theorem fE.imp {t t' : j8} (h : fE X es t) (k : ∀ v σ H Q, t' v σ H Q -> t v σ H Q) : fE X es t' := fun pins s σ H v u Q I r q => h pins s σ H v u Q I r (k v σ H Q q)
theorem RT : fE X [] (qw X []) := fE.imp Rh fun vs σ H Q h => by
 obtain ⟨φ, ph, ws, xs, hH, hS, r, h⟩ := h
 cases r with
 | nil => exact ⟨rfl, h φ H σ hH Step.refl hS⟩
 | cons _ _ => exact h.elim
theorem P8 {e : Expr} (h1 : IG X e g) (h2 : fE X es (qw X gs)) (hs : (assignEach (e :: es) X.env).map (·.2) = assign e X.env :: (assignEach es X.env).map (·.2) := by rfl) : fE X (e :: es) (qw X (g :: gs)) :=
 fE.imp (PN h1 h2 hs) fun vs σ H Q h => by
  obtain ⟨φ, ph, ws, xs, hH, hS, r, h⟩ := h
  cases r with
  | nil => exact h.elim
  | cons cR rr =>
   refine ⟨_, _, rfl, tG.bind hH hS cR h fun jj ph1 au H1 aP aD s1 ij h1 => ?_⟩
   exact ⟨au, ph1, jj, _, aD, ij, rr.mono s1, h1.mono (fun ws' ph' k ak H' ao r' s' q => k ak H' ao r' (s1.trans s') q) fun _ _ z => z⟩
theorem UG {k n : Nat} (hc : X.calm = true) (h : fE X es (qw X gs)) (hn : (assignEach es X.env).length = n := by rfl) (fF : (assignEach es X.env).findIdx? (·.1) = none := by rfl) : IG X (.Tuple es k pos) (nY n gs) :=
 PG.imp (Ts hc h hn fF) fun v σ H Q h => by
  obtain ⟨φ, ph, ws, w, hH, hS, r, h⟩ := h
  unfold nY at h
  cases r with
  | tup hq r =>
   simp only at h
   split at h
   ·rename_i hl
    exact ⟨_, _, rfl, ce.of hq, by rw [<- r.length]; exact hl, φ, ph, ws, _, hH, hS, r, h⟩
   ·exact h.elim
  | _ => exact h.elim
def ye (o i v : W) : Po Unit := fun ph => match o, i with
 | .ref r, .int k => match ph[r]? with
  | some (.lst ws) => match cF ws.length k with
   | some j => some ((), ph.set r (.lst (ws.set j v)))
   | none => none
  | _ => none
 | _, _ => none
end
def kZ (ws : List W) (lo hi : Option Int) : List W := (ws.drop (HT.c4 ws.length 0 lo)).take (HT.c4 ws.length ws.length hi - HT.c4 ws.length 0 lo)
theorem Cg {K : PySem.W.Frag} {φ : Nat -> Addr} {n : Nat} {H : Hp} {ws : List W} {vs : List V} (r : aK K φ n H ws vs) (lo hi : Option Int) : aK K φ n H (kZ ws lo hi) (mw vs lo hi) := by
 unfold kZ mw
 rw [r.length]
 exact (r.drop _).take _
def mO (w : W) (lo hi : Option Int) : Po W := fun ph => match w with
 | .fl ws => some (.ref ph.length, ph ++ [.lst (kZ ws lo hi)])
 | .ref i => match ph[i]? with
  | some (.lst ws) => some (.ref ph.length, ph ++ [.lst (kZ ws lo hi)])
  | _ => none
 | _ => none
abbrev OM := aE -> Mo (Option Int)
def l9 : OM := fun _ => aw none
def md (m : EM) : OM := fun σ => ap (m σ) fun w => lift (match w with
 | .int i => ret (some i)
 | _ => dJ)
def mP (m : EM) (lo hi : OM) : EM := fun σ => ap (m σ) fun w => ap (lo σ) fun l => ap (hi σ) fun h => lift (mO w l h)
def tO (X : Cx) (m : OM) : TO := fun σ H Q => ∃ φ ph ws, ax X.K φ ph H /\ aR X.K φ ph.length H ws σ /\ (m ws ph).Run (fun o ph' =>
 ∀ ak H', ax X.K ak ph' H' -> Step X.K φ ph.length H ak ph'.length H' -> Q o H') (XE X φ ph.length H)
abbrev qx (X : Cx) (e : Option Expr) (m : OM) : Prop := L2.PO X e (tO X m)
section
variable {X : Cx} {e : Expr} {lo hi : Option Expr} {m : EM} {ml mh : OM} {pos p2 : Pos}
theorem RU : qx X none l9 := fun pins s σ H Q I ⟨φ, ph, ws, hH, hS, h⟩ => Rq pins s σ H Q I (h φ H hH Step.refl)
theorem RV (he : IE X e m) : qx X (some e) (md m) := fun pins s σ H Q I ⟨φ, ph, ws, hH, hS, h⟩ => Rr he pins s σ H Q I (tM.bind hH hS h fun w ph1 au H1 v aD s1 r1 h => by
 obtain ⟨o, ph', e, k⟩ := run_lift h
 split at e
 ·cases e; cases r1; exact ⟨_, rfl, k au H1 aD s1⟩
 ·cases e)
theorem tO.bind {β : Type} {m : OM} {σ : L2.St} {H : Hp} {Q : Option Int -> Hp -> Prop} {φ : Nat -> Addr} {ph : PH} {ws : aE} {f : Option Int -> Mo β} {N : β -> PH -> Prop} (hH : ax X.K φ ph H) (hS : aR X.K φ ph.length H ws σ) (h : (ap (m ws) f ph).Run N (XE X φ ph.length H))
  (k : ∀ b ph1 au H1, ax X.K au ph1 H1 -> Step X.K φ ph.length H au ph1.length H1 -> (f b ph1).Run N (XE X au ph1.length H1) -> Q b H1) : tO X m σ H Q := by
 rw [cq] at h
 exact ⟨φ, ph, ws, hH, hS, h.mono (fun b ph1 h1 au H1 aD s1 => k b ph1 au H1 aD s1 (h1.mono (fun _ _ z => z) fun _ _ z => z.step s1)) fun _ _ z => z⟩
theorem WW (he : IE X e m) (hl : qx X lo ml) (hh : qx X hi mh) : IE X (.Subscript e (.Slice lo hi none p2) pos) (mP m ml mh) :=
 PE.imp (PX Ru he hl hh) fun σ H Q h => by
  obtain ⟨φ, ph, ws, hH, hS, h⟩ := h
  refine tM.bind hH hS h fun w ph1 au H1 v aD s1 r1 h => tO.bind aD (hS.mono s1) h fun l ph2 aS H2 aY s2 h => tO.bind aY ((hS.mono s1).mono s2) h fun u dm f6 H3 d8 s3 h => ?_
  obtain ⟨w', ph', e, k⟩ := run_lift h
  have r3 := (r1.mono s2).mono s3
  have Fs := (s1.trans s2).trans s3
  unfold mO at e
  cases r3 with
  | fl hq r =>
   cases e
   refine ⟨_, _, rfl, hq.sq, fun p hp => ?_⟩
   obtain ⟨q1, q2, q3⟩ := nh d8 (Cg r l u) hp
   exact k _ _ _ q1 (Fs.trans q2) q3
  | ref ed =>
   simp only at e
   split at e
   ·rename_i ws' hw
    cases e
    obtain ⟨vs, hv, r⟩ := d8.hp _ _ hw
    refine ⟨_, _, rfl, bb.of hv, fun p hp => ?_⟩
    obtain ⟨q1, q2, q3⟩ := nh d8 (Cg r l u) hp
    exact k _ _ _ q1 (Fs.trans q2) q3
   ·cases e
  | _ => cases e
end
def kT : List W -> Po W := fun xs ph => match xs with
 | [w] => match bR w ph with
  | some ws => some (.ref ph.length, ph ++ [.lst ws])
  | none => none
 | _ => none
theorem wK {K : PySem.W.Frag} : fx K (fun xs H Q => ∃ p ys, xs = [.ref p] /\ (bb K H p ys \/ ce K H p ys) /\ ∀ l, H l = none -> Q (.ref l) (upd H l (.lst ys))) kT := by
 intro φ ph H xs vs w ph' Q hH r e k
 unfold kT at e
 split at e
 ·split at e
  ·rename_i w0 ws hw
   cases e
   cases r with
   | cons r r' =>
    cases r'
    obtain ⟨a, ys, rfl, hs, rs⟩ := wc hH r hw
    refine ⟨a, ys, rfl, hs, fun l hl => ?_⟩
    obtain ⟨q1, q2, q3⟩ := nh hH rs hl
    exact k _ _ _ q1 q2 q3
  ·cases e
 ·cases e
def fg : List W -> Po W := fun xs => match xs with
 | [.int i, .int j] => ret (.int (if j > i then j else i))
 | _ => dJ
def WX : List W -> Po W := fun xs => match xs with
 | [.int i, .int j] => ret (.int (if j < i then j else i))
 | _ => dJ
theorem o5 {K : PySem.W.Frag} : fx K (fun xs H Q => ∃ i j, xs = [.int i, .int j] /\ Q (.int (if j > i then j else i)) H) fg := by
 intro φ ph H xs vs w ph' Q hH r e k
 unfold fg at e
 split at e
 ·cases e
  cases r with
  | cons r r' =>
   cases r
   cases r' with
   | cons r r' => cases r; cases r'; exact ⟨_, _, rfl, k φ H _ hH Step.refl (.int _)⟩
 ·cases e
def UH (f f' : W -> W -> Po W) (a b c : EM) : EM := fun σ => ap (a σ) fun x => ap (b σ) fun y => ap (lift (f x y)) fun z => match z with
 | .bl k => if k = true then ap (c σ) fun u => lift (f' y u) else aw (.bl false)
 | _ => d6
structure eL (X : Cx) (N : List Str) (sc : Scope) : Prop where
 hN : X.N = N
 uJ : ∀ x, aJ sc x -> aJ X.env.scope x
 loc : ∀ x, Loc sc x -> Loc X.env.scope x
 gl : ∀ x, sc.names.lookup x = some .globalImplicit -> Gl X x
 fn : ∀ x, Loc sc x -> X.fn x = true \/ X.env.scope.names.lookup x = some .local
 nd : N.Nodup
structure dQ (X : Cx) (N : List Str) (sc : Scope) (k : Nat) : Prop extends eL X N sc where
 calm : X.calm = true
 room : bV k X.A
structure Bd (X : Cx) (N : List Str) (sc : Scope) (k : Nat) : Prop extends dQ X N sc k where
 yf : PassesOwn (model X.prog X.w) X.A X.env X.xe
section
variable {X : Cx} {N : List Str} {sc : Scope} {k : Nat} {pos : Pos}
theorem eL.var (B : eL X N sc) (i : Nat) {x : Str} (hN : N[i]? = some x) (hv : aJ sc x) (hd : (x == ("__debug__" : Str)) = false) (hcd : (x == ("__classdict__" : Str)) = false) : IE X (.Name x pos) (aa i) :=
 T5 i (hN := by rw [B.hN]; exact hN) (hv := B.uJ x hv) (hd := hd) (hcd := hcd)
theorem eL.name (B : eL X N sc) (i : Nat) {x : Str} (hN : N[i]? = some x) (hl : Loc sc x) : IG X (.Name x pos) (gN i) :=
 RB (by rw [B.hN]; exact B.nd) (by rw [B.hN]; exact hN) (B.loc x hl) (B.fn x hl)
theorem eL.set (B : eL X N sc) (i : Nat) {x : Str} {e : Expr} {m : EM} {pos' : Pos} (hN : N[i]? = some x) (hl : Loc sc x) (he : IE X e m) (hs : swapsWith e (some (.Name x pos')) pos.line X.env = pure false := by rfl) : IS X (.Assign [.Name x pos'] e pos) (aC m (gN i)) :=
 Uj (by rw [B.hN]; exact B.nd) (by rw [B.hN]; exact hN) (B.loc x hl) he hs (B.fn x hl)
theorem Bd.Yq (B : Bd X N sc k) {iter tg : Expr} {im : IM} {g : GM} {b : SM} {body : List Stmt} (hi : II X tg iter im) (hg : IG X tg g) (hb : gG X body b) (hs : ∀ x, foldedSetIterable iter X.env x = pure x := by intro _; rfl) : IS X (.For tg iter body [] pos) (b9 im g b) :=
 Ul B.yf B.calm hi hg hb hs
theorem Bd.UI (B : Bd X N sc k) {c : Expr} {t : TM} {b : SM} {body : List Stmt} (hc : IT X c t) (hb : gG X body b) : IS X (.While c body [] pos) (iR t b) := P4 B.yf hc hb
theorem zQ {env : Env} {x : Str} : ∀ {names : List (Str × NameKind)}, names.lookup x = some .globalImplicit →
    (names.map fun (n, k) => if (k == NameKind.free && env.scope.kind == .function && env.kindOf n == some .cell) then (n, NameKind.cell) else (n, k)).lookup x = some .globalImplicit
  | [], h => by cases h
  | (n, k) :: r, h => by
    show List.lookup x ((if (k == NameKind.free && env.scope.kind == .function && env.kindOf n == some .cell) = true then (n, NameKind.cell) else (n, k)) :: _) = _
    rw [List.lookup_cons] at h
    cases q : x == n with
    | true =>
      rw [q] at h
      cases h
      have yY : ¬ ((NameKind.globalImplicit == NameKind.free && env.scope.kind == .function && env.kindOf n == some .cell) = true) := by
        rw [show (NameKind.globalImplicit == NameKind.free) = false from rfl, Bool.false_and, Bool.false_and]
        exact Bool.false_ne_true
      rw [if_neg yY, List.lookup_cons, q]
    | false =>
      rw [q] at h
      have ih := zQ (env := env) h
      split
      · rw [List.lookup_cons, q]; exact ih
      · rw [List.lookup_cons, q]; exact ih
theorem Bd.bv (B : Bd X N sc k) {N' : List Str} {scope : Scope} {cl : List (Str × Addr)} {C : Addr} {aA : Shared} {aG : Hp} {ex : List Addr} (hc : ∀ y ∈ scope.names, y.2 ≠ .cell) (nd : N'.Nodup) : Bd (bv X N' scope cl C aA aG ex) N' scope k where
 hN := rfl
 uJ := fun x h => by
  rcases h with h | h | h
  ·exact .inl (lookup_relabel_local (env := X.env) h)
  ·exact absurd rfl (hc _ (mem_lookup h))
  ·exact .inr (vj (env := X.env) h)
 loc := fun x h => by
  rcases h with h | h
  ·exact .inl (lookup_relabel_local (env := X.env) h)
  ·exact absurd rfl (hc _ (mem_lookup h))
 gl := fun x h => zQ (env := X.env) h
 calm := B.calm
 room := B.room
 fn := fun x h => by
  rcases h with h | h
  ·exact .inr (lookup_relabel_local (env := X.env) h)
  ·exact absurd rfl (hc _ (mem_lookup h))
 yf := PassesOwn.never
 nd := nd
def DY (sc scope : Scope) (N N' : List Str) (cap : List (Option Nat)) : Bool :=
 cap.length == N'.length && (List.range N'.length).all (fun i => match cap[i]? with
  | some (some j) => (match N'[i]? with
   | some x => N[j]? == some x && scope.names.lookup x == some .free && (sc.names.lookup x == some .cell || sc.names.lookup x == some .free)
   | none => false)
  | _ => true) && scope.names.all (fun y => y.2 != .cell && (y.2 != .free || sc.names.lookup y.1 == some .cell || sc.names.lookup y.1 == some .free) && (y.2 != .local || scope.names.lookup y.1 == some .local)) && scope.kind == .function
theorem Bd.cap (hN : X.N = N) (aI : X.env.scope = sc) {N' : List Str} {scope : Scope} {cap : List (Option Nat)} (h : DY sc scope N N' cap = true) : il X N' cap scope := by
 unfold DY at h
 simp only [Bool.and_eq_true, List.all_eq_true, beq_iff_eq, bne_iff_ne, Bool.or_eq_true, ne_eq] at h
 obtain ⟨⟨⟨h1, h2⟩, h3⟩, h4⟩ := h
 have hk : ∀ x, X.env.kindOf x = sc.names.lookup x := fun x => by unfold Env.kindOf; rw [aI]
 refine ⟨h1, fun i j x e1 e2 => ?_, fun y hy hf => ?_, fun y hy => (h3 y hy).1.1, h4, fun y hy hl => ?_⟩
 ·have hi : i < N'.length := (List.getElem?_eq_some_iff.mp e1).1
  have := h2 i (List.mem_range.mpr hi)
  rw [e2, e1] at this
  simp only [Bool.and_eq_true, beq_iff_eq, Bool.or_eq_true] at this
  obtain ⟨⟨a1, a2⟩, a3⟩ := this
  rw [hN, hk]
  exact ⟨a1, a2, a3⟩
 ·rw [hk]
  rcases (h3 y hy).1.2 with (z | z) | z
  ·exact absurd hf z
  ·exact .inl z
  ·exact .inr z
 ·rcases (h3 y hy).2 with z | z
  ·exact absurd hl z
  ·exact z
end
def isStar : Expr -> Bool
 | .Starred .. => true
 | _ => false
theorem e7 {e : Expr} {es : List Expr} {env : Env} (h : isStar e = false) : starEach (e :: es) env = (false, eval e env) :: starEach es env := by
 cases e <;> first | rfl | cases h
def eh (es : List Expr) : Bool := es.all fun e => !isStar e
theorem any_none {env : Env} {pos : Pos} : ∀ {es : List Expr}, eh es = true -> (backTo pos (starEach es env)).any (·.1) = false
 | [], _ => rfl
 | e :: es, h => by
  unfold eh at h
  rw [List.all_cons, Bool.and_eq_true] at h
  have h1 : isStar e = false := by simpa using h.1
  rw [e7 h1]
  show (false || (backTo pos (starEach es env)).any (·.1)) = false
  rw [any_none (es := es) h.2]
  rfl
theorem all_none {env : Env} {pos : Pos} : ∀ {es : List Expr}, eh es = true -> (backTo pos (starEach es env)).all (fun x => !x.1) = true
 | [], _ => rfl
 | e :: es, h => by
  unfold eh at h
  rw [List.all_cons, Bool.and_eq_true] at h
  have h1 : isStar e = false := by simpa using h.1
  rw [e7 h1]
  show (!false && (backTo pos (starEach es env)).all (fun x => !x.1)) = true
  rw [all_none (es := es) h.2]
  rfl
section
variable {X : Cx} {e : Expr} {es : List Expr} {m : EM} {a : AM} {pos : Pos}
theorem Yr (h : isStar e = false) (he : IE X e m) (hr : IA X es a) : IA X (e :: es) (ab m a) := RF he hr (e7 h)
end
section
variable {X : Cx} {k : Nat} {f : Addr} {fd : FuncData} {ps : List Str} {fm : List W -> Mo W} {x : Str} {p pos : Pos} {e : Expr} {es : List Expr} {a : AM}
theorem UJ (hn : eh (e :: es) = true) (cy : (x == ("__debug__" : Str)) = false) (F : bp X.prog X.w X.K X.mg X.base (bE X.prog X.w) k f fd ps (bN X.K X.mg ps.length fm)) (hl : ∀ {xs : List W} {ph : PH}, xs.length ≠ ps.length -> fm xs ph = .no) (hr : bV k X.A) (hg : Gl X x) (hm : X.mg x = some (.ref f))
  (hk : PySem.W.keepIn X.K (.ref f) = true) (hb : Binds X.K fd ps []) (ha : IA X (e :: es) a) : IE X (.Call (.Name x p) (e :: es) [] pos) (aB fm a) := by
 unfold eh at hn
 rw [List.all_cons, Bool.and_eq_true] at hn
 exact RH F hl hr hg hm hk hb ha cy (e7 (by simpa using hn.1)) (any_none hn.2)
variable {t : AM} {id T : String} {r : List V -> Hp -> VK -> Prop} {fp : List W -> Po W}
theorem UL (bD : eh (e :: es) = true) (hn : x ≠ "__name__") (cy : (x == ("__debug__" : Str)) = false) (hc : cs X (.builtin id) r) (hi : fx X.K r fp) (hg : Gl X x) (hm : X.mg x = none) (hv : bootBuiltins x = some (.builtin id)) (ha : IA X (e :: es) t) : IE X (.Call (.Name x p) (e :: es) [] pos) (bg fp t) := by
 unfold eh at bD
 rw [List.all_cons, Bool.and_eq_true] at bD
 exact P5 hc hi hg hm hv ha hn cy (e7 (by simpa using bD.1)) (any_none bD.2)
theorem UM (bD : eh (e :: es) = true) (hn : x ≠ "__name__") (cy : (x == ("__debug__" : Str)) = false) (hc : cs X (.type T) r) (hi : fx X.K r fp) (hg : Gl X x) (hm : X.mg x = none) (hv : bootBuiltins x = some (.type T)) (ha : IA X (e :: es) t) : IE X (.Call (.Name x p) (e :: es) [] pos) (bg fp t) := by
 unfold eh at bD
 rw [List.all_cons, Bool.and_eq_true] at bD
 exact O1 hc hi hg hm hv ha hn cy (e7 (by simpa using bD.1)) (any_none bD.2)
end
section
variable {X : Cx} {o e : Expr} {es : List Expr} {mo : EM} {t : AM} {name : Str} {apos b5 : Pos} {T id : String} {r : V -> List V -> Hp -> VK -> Prop} {ty : W -> PH -> Bool} {f : W -> List W -> Po W}
theorem UN (bD : eh (e :: es) = true) (bz : decide ((e :: es).length < 30) = true) (pa : PlainAttrs T) (slot : Slot T name id) (mJ : typeOf (.builtin id) = pure (.type "method_descriptor")) (hm : ig X id r) (ht : mN X.K T ty) (hi : kg X.K T r f) (ho : IE X o mo) (ha : IA X (e :: es) t)
  (fT : attributeBase o name X.env (eval o X.env) = eval o X.env := by rfl) (fU : (apos.endLine == b5.line) = true := by rfl) : IE X (.Call (.Attribute o name apos) (e :: es) [] b5) (cI ty f mo t) := by
 have xW := all_none (env := X.env) (pos := b5) bD
 unfold eh at bD
 rw [List.all_cons, Bool.and_eq_true] at bD
 refine WP pa slot mJ hm ht hi ho ha fT ?_ fU (e7 (by simpa using bD.1)) (any_none bD.2)
 rw [xW, show (backToKw b5 (keywordEach [] X.env)).all (fun x => x.1.isSome) = true from rfl]
 simpa using bz
end
structure JE (X : Cx) (e : Expr) (m : EM) : Prop where
 h : IE X e m
structure JT (X : Cx) (e : Expr) (m : TM) : Prop where
 h : IT X e m
structure JW (X : Cx) (e : Expr) (m : TM) : Prop where
 h : PW X e (tT X m)
structure JA (X : Cx) (es : List Expr) (m : AM) : Prop where
 h : IA X es m
structure JS (X : Cx) (st : Stmt) (m : SM) : Prop where
 h : IS X st m
structure JB (X : Cx) (st : List Stmt) (m : SM) : Prop where
 h : gG X st m
structure JG (X : Cx) (e : Expr) (g : GM) : Prop where
 h : IG X e g
structure uT (X : Cx) (es : List Expr) (gs : List GM) : Prop where
 h : fE X es (qw X gs)
structure JI (X : Cx) (tg iter : Expr) (im : IM) : Prop where
 h : II X tg iter im
structure JO (X : Cx) (e : Option Expr) (m : OM) : Prop where
 h : qx X e m
structure JF (X : Cx) (ifs : List Expr) (c : TM) : Prop where
 h : PF X ifs (jm X.K c)
section
variable {X : Cx} {N : List Str} {sc : Scope} {k : Nat} {a b c e o : Expr} {es rest : List Expr} {ma mb mc m mo : EM} {ta tb t : TM} {am : AM} {sa sb : SM} {st : Stmt} {as bs body : List Stmt} {p p2 pos pos' : Pos} {g : GM} {gs : List GM} {im : IM} {tg iter : Expr}
theorem eL.Ys (B : eL X N sc) (i : Nat) {x : Str} (hN : N[i]? = some x) (hv : aJ sc x) (hd : (x == ("__debug__" : Str)) = false) (hcd : (x == ("__classdict__" : Str)) = false) : JE X (.Name x pos) (aa i) := ⟨B.var i hN hv hd hcd⟩
theorem ar {i : Int} {j : Nat} : JE X (.Constant (.int i) j pos) (eC (.int i)) := ⟨T6⟩
theorem aO {x : Str} {j : Nat} : JE X (.Constant (.str x) j pos) (eC (.str x)) := ⟨T7⟩
theorem fh {x : Bool} {j : Nat} : JE X (.Constant (.bool x) j pos) (eC (.bl x)) := ⟨WH⟩
theorem ny {j : Nat} : JE X (.Constant .none j pos) (eC .az) := ⟨T8⟩
theorem kR (ha : JE X a ma) : JE X (.UnaryOp .USub a pos) (eU eD ma) := ⟨WI TH Us ha.h⟩
theorem b4 (ha : JE X a ma) (hb : JE X b mb) : JE X (.BinOp a .Add b pos) (ae addW ma mb) := ⟨pz RJ Ux ha.h hb.h⟩
theorem gp (ha : JE X a ma) (hb : JE X b mb) : JE X (.BinOp a .Sub b pos) (ae dj ma mb) := ⟨pz TC Ut ha.h hb.h⟩
theorem xo (ha : JE X a ma) (hb : JE X b mb) : JE X (.BinOp a .Mult b pos) (ae fD ma mb) := ⟨pz TF Uw ha.h hb.h⟩
theorem dw (ha : JE X a ma) (hb : JE X b mb) : JE X (.BinOp a .Mod b pos) (ae cc ma mb) := ⟨pz Rj Uu ha.h hb.h⟩
theorem ff (ha : JE X a ma) (hb : JE X b mb) : JE X (.BinOp a .FloorDiv b pos) (ae cw ma mb) := ⟨pz P7 Uv ha.h hb.h⟩
structure Cp (X : Cx) (op : CmpOp) (b : Expr) (f : W -> W -> Po W) : Prop where
 ex : ∃ r, bG X (compareOp op) r /\ cf X.K r f
 bm : behindInMarks op b = false
theorem pD : Cp X .Lt b gK := ⟨⟨_, Wt, Dc⟩, lV _⟩
theorem xK : Cp X .Gt b jl := ⟨⟨_, Wu, Dc⟩, lV _⟩
theorem dQ.eq (B : dQ X N sc k) : Cp X .Eq b aV := ⟨⟨_, De B.room.units, WR⟩, lV _⟩
theorem dQ.ne (B : dQ X N sc k) : Cp X .NotEq b d9 := ⟨⟨_, Df B.room.units, WS⟩, lV _⟩
theorem WY : Cp X .Is b mE := ⟨⟨_, TJ, Uy⟩, lV _⟩
theorem xq : Cp X .IsNot b fy := ⟨⟨_, Rk, RK⟩, lV _⟩
theorem fQ {op : CmpOp} {f : W -> W -> Po W} (hc : Cp X op b f) (ha : JE X a ma) (hb : JE X b mb) : JE X (.Compare a [op] [b] pos) (ae f ma mb) := let ⟨_, h1, h2⟩ := hc.ex; ⟨T9 h1 h2 ha.h hb.h hc.bm⟩
theorem bj {op : CmpOp} {f : W -> W -> Po W} (hc : Cp X op b f) (ha : JE X a ma) (hb : JE X b mb) : JT X (.Compare a [op] [b] pos) (eT (ae f ma mb)) := let ⟨_, h1, h2⟩ := hc.ex; ⟨Ua h1 h2 ha.h hb.h hc.bm⟩
theorem pk {op : BoolOp} (ha : JE X a ma) : JE X (.BoolOp op [a] pos) ma := ⟨Ug ha.h⟩
theorem pq (ha : JE X a ma) (hb : JE X (.BoolOp .And (b :: rest) pos) mb) : JE X (.BoolOp .And (a :: b :: rest) pos) (gz ma mb) := ⟨Ue ha.h hb.h⟩
theorem WZ (ha : JE X a ma) (hb : JE X (.BoolOp .Or (b :: rest) pos) mb) : JE X (.BoolOp .Or (a :: b :: rest) pos) (uO ma mb) := ⟨WL ha.h hb.h⟩
theorem eo {op : BoolOp} (ha : JT X a ta) : JW X (.BoolOp op [a] pos) ta := ⟨Uc ha.h⟩
theorem jI (ha : JT X a ta) (hb : JW X (.BoolOp .And (b :: rest) pos) tb) : JW X (.BoolOp .And (a :: b :: rest) pos) (cE ta tb) := ⟨Ud ha.h hb.h⟩
theorem gZ (ha : JT X a ta) (hb : JW X (.BoolOp .Or (b :: rest) pos) tb) : JW X (.BoolOp .Or (a :: b :: rest) pos) (cO ta tb) := ⟨WK ha.h hb.h⟩
theorem eI (h : JW X a ta) : JT X a ta := ⟨h.h.pt⟩
theorem nz (ha : JT X a ta) : JT X (.UnaryOp .Not a pos) (eA ta) := ⟨Ub ha.h⟩
def plainT : Expr -> Bool
 | .Name .. => true | .Call .. => true | .Subscript .. => true | .Constant .. => true | .BinOp .. => true
 | _ => false
theorem gq (hp : plainT a = true) (ha : JE X a ma) : JT X a (ck ma) := ⟨by
 cases a <;> first | cases hp; done | exact Uh ha.h⟩
theorem av : JA X [] ag := ⟨Um⟩
theorem ah (h : isStar e = false) (he : JE X e m) (hr : JA X es am) : JA X (e :: es) (ab m am) := ⟨Yr h he.h hr.h⟩
theorem b7 {x1 : Nat} (h : JA X es am) : JE X (.Tuple es x1 pos) (bK am) := ⟨Uo h.h⟩
theorem cH (h : JA X es am) : JE X (.List es pos) (bQ am) := ⟨Up h.h⟩
theorem Ci : JO X none l9 := ⟨RU⟩
theorem Cj (he : JE X e m) : JO X (some e) (md m) := ⟨RV he.h⟩
theorem DZ {lo hi : Option Expr} {ml mh : OM} (he : JE X e m) (hl : JO X lo ml) (hh : JO X hi mh) : JE X (.Subscript e (.Slice lo hi none p2) pos) (mP m ml mh) := ⟨WW he.h hl.h hh.h⟩
theorem bI : JB X [] aX := ⟨Rx⟩
theorem aH {rs : List Stmt} (h1 : JS X st sa) (h2 : JB X rs sb) : JB X (st :: rs) (aq sa sb) := ⟨P2 h1.h h2.h⟩
theorem aL (h1 : JS X st sa) : JB X [st] sa := ⟨Rz h1.h⟩
theorem a8 (he : JE X e m) : JS X (.Return (some e) pos) (aN m) := ⟨Ui he.h⟩
def tP : Expr -> Bool
 | .ListComp .. => false | .SetComp .. => false | .DictComp .. => false
 | _ => true
theorem we {x : Option Expr} {n : Nat} {env : Env} (h : tP e = true) : swapsWith e x n env = pure false := by
 cases e <;> first | rfl | cases h
theorem tF (hn : tP e = true) (he : JE X e m) : JS X (.Expr e pos) (fV m) := ⟨RA he.h (we hn)⟩
theorem bJ (hc : JT X c t) (ha : JB X as sa) (hb : JB X bs sb) : JS X (.If c as bs pos) (aU t sa sb) := ⟨WM hc.h ha.h hb.h⟩
theorem eL.br (B : eL X N sc) (i : Nat) {x : Str} (hN : N[i]? = some x) (hl : Loc sc x) (hn : tP e = true) (he : JE X e m) : JS X (.Assign [.Name x pos'] e pos) (aC m (gN i)) := ⟨B.set i hN hl he.h (we hn)⟩
theorem tQ (he : JE X e m) (hg : JG X tg g) (hs : swapsWithSole [tg] e pos.line X.env = pure false := by rfl) (hw : swappedStores [tg] e X.env = pure none := by rfl)
  (h1 : (assignEach [tg] X.env).map (·.2) = [assign tg X.env] := by rfl) : JS X (.Assign [tg] e pos) (aC m g) := ⟨Uk he.h hg.h hs hw h1⟩
theorem eL.dA (B : eL X N sc) (i : Nat) {x : Str} (hN : N[i]? = some x) (hl : Loc sc x) : JG X (.Name x pos) (gN i) := ⟨B.name i hN hl⟩
theorem Ck : uT X [] [] := ⟨RT⟩
theorem tj (h1 : JG X e g) (h2 : uT X es gs) (hs : (assignEach (e :: es) X.env).map (·.2) = assign e X.env :: (assignEach es X.env).map (·.2) := by rfl) : uT X (e :: es) (g :: gs) := ⟨P8 h1.h h2.h hs⟩
theorem Dg {j n : Nat} (hc : X.calm = true) (h : uT X es gs) (hn : (assignEach es X.env).length = n := by rfl) (fF : (assignEach es X.env).findIdx? (·.1) = none := by rfl) : JG X (.Tuple es j pos) (nY n gs) := ⟨UG hc h.h hn fF⟩
theorem Bd.jU (B : Bd X N sc k) (hi : JI X tg iter im) (hg : JG X tg g) (hb : JB X body sb) (hs : ∀ x, foldedSetIterable iter X.env x = pure x := by intro _; rfl) : JS X (.For tg iter body [] pos) (b9 im g sb) := ⟨B.Yq hi.h hg.h hb.h hs⟩
theorem Bd.Dh (B : Bd X N sc k) (hc : JT X c t) (hb : JB X body sb) : JS X (.While c body [] pos) (iR t sb) := ⟨B.UI hc.h hb.h⟩
theorem iN (hl : JE X e m) : JI X tg e (di m) := ⟨RE hl.h⟩
theorem oQ (hg : Gl X "range") (hm : X.mg "range" = none) (hn : isStar a = false) (ha : JA X [a] am) : JI X tg (.Call (.Name "range" p) [a] [] pos) (eY am) := ⟨OY hg hm ha.h (e7 hn)⟩
theorem O4 (hg : Gl X "range") (hm : X.mg "range" = none) (hn : isStar a = false) (kd : isStar b = false) (ha : JA X [a, b] am) : JI X tg (.Call (.Name "range" p) [a, b] [] pos) (mM am) := ⟨OZ hg hm ha.h (by rw [e7 hn, e7 kd]; rfl) (e7 kd)⟩
theorem ba {k : Nat} {f : Addr} {fd : FuncData} {ps : List Str} {fm : List W -> Mo W} {x : Str} (hn : eh (e :: es) = true) (cy : (x == ("__debug__" : Str)) = false) (F : bp X.prog X.w X.K X.mg X.base (bE X.prog X.w) k f fd ps (bN X.K X.mg ps.length fm)) (hl : ∀ {xs : List W} {ph : PH}, xs.length ≠ ps.length -> fm xs ph = .no) (hr : bV k X.A) (hg : Gl X x) (hm : X.mg x = some (.ref f))
  (hk : PySem.W.keepIn X.K (.ref f) = true) (hb : Binds X.K fd ps []) (ha : JA X (e :: es) am) : JE X (.Call (.Name x p) (e :: es) [] pos) (aB fm am) := ⟨UJ hn cy F hl hr hg hm hk hb ha.h⟩
theorem dz {x : Str} {id : String} {r : List V -> Hp -> VK -> Prop} {fp : List W -> Po W} (bD : eh (e :: es) = true) (hn : x ≠ "__name__") (cy : (x == ("__debug__" : Str)) = false) (hc : cs X (.builtin id) r) (hi : fx X.K r fp) (hg : Gl X x) (hm : X.mg x = none) (hv : bootBuiltins x = some (.builtin id)) (ha : JA X (e :: es) am) : JE X (.Call (.Name x p) (e :: es) [] pos) (bg fp am) := ⟨UL bD hn cy hc hi hg hm hv ha.h⟩
theorem tR {x : Str} {T : String} {r : List V -> Hp -> VK -> Prop} {fp : List W -> Po W} (bD : eh (e :: es) = true) (hn : x ≠ "__name__") (cy : (x == ("__debug__" : Str)) = false) (hc : cs X (.type T) r) (hi : fx X.K r fp) (hg : Gl X x) (hm : X.mg x = none) (hv : bootBuiltins x = some (.type T)) (ha : JA X (e :: es) am) : JE X (.Call (.Name x p) (e :: es) [] pos) (bg fp am) := ⟨UM bD hn cy hc hi hg hm hv ha.h⟩
theorem lY {name : Str} {T id : String} {r : V -> List V -> Hp -> VK -> Prop} {ty : W -> PH -> Bool} {f : W -> List W -> Po W} (bD : eh (e :: es) = true) (bz : decide ((e :: es).length < 30) = true) (pa : PlainAttrs T) (slot : Slot T name id) (mJ : typeOf (.builtin id) = pure (.type "method_descriptor")) (hm : ig X id r) (ht : mN X.K T ty) (hi : kg X.K T r f) (ho : JE X o mo) (ha : JA X (e :: es) am)
  (fT : attributeBase o name X.env (eval o X.env) = eval o X.env := by rfl) (fU : (p.endLine == pos.line) = true := by rfl) : JE X (.Call (.Attribute o name p) (e :: es) [] pos) (cI ty f mo am) := ⟨UN bD bz pa slot mJ hm ht hi ho.h ha.h fT fU⟩
theorem D0 {c : Str} {cn : String} {p2 : Pos} (hk : nW X.K cn) (hv : bootBuiltins c = some (.type cn)) (hn : c ≠ "__name__") (hd : (c == ("__debug__" : Str)) = false) (fF : isStar e = false) (hg : Gl X "isinstance") (hm : X.mg "isinstance" = none) (yM : Gl X c) (yN : X.mg c = none) (he : JE X e m) :
  JE X (.Call (.Name "isinstance" p) [e, .Name c p2] [] pos) (kh cn m) := ⟨WQ hk hv hg hm yM yN he.h hn hd (by rw [e7 fF, e7 rfl]; rfl) (e7 rfl) (any_none rfl)⟩
theorem lZ : JF X [] df := ⟨UD⟩
theorem Di (h : JT X c t) : JF X [c] t := ⟨UE h.h⟩
theorem o6 {scope : Scope} {ifs : List Expr} {N' : List Str} {cap : List (Option Nat)} (hc : X.calm = true) (cp : il X N' cap scope) (hi : JI X tg iter im) (hg : ∀ cl C aA aG ex, JG (bv X N' scope cl C aA aG ex) tg g) (ht : ∀ cl C aA aG ex, JF (bv X N' scope cl C aA aG ex) ifs t)
  (he : ∀ cl C aA aG ex, JE (bv X N' scope cl C aA aG ex) e m) (hs : ∀ x, foldedSetIterable iter X.env x = pure x := by intro _; rfl) : JE X (.ListComp e [⟨tg, iter, ifs, 0⟩] scope pos) (cZ im cap g t m) :=
 ⟨RR hc cp hi.h (fun cl C aA aG ex => (hg cl C aA aG ex).h) (fun cl C aA aG ex => (ht cl C aA aG ex).h) (fun cl C aA aG ex => (he cl C aA aG ex).h) hs⟩
theorem wL {scope : Scope} {ifs : List Expr} {N' : List Str} {cap : List (Option Nat)} {i : Nat} {x : Str} (hN : X.N.Nodup) (ed : X.N[i]? = some x) (hx : X.env.scope.names.lookup x = some .local)
  (hc : X.calm = true) (cp : il X N' cap scope) (hi : JI X tg iter im) (hg : ∀ cl C aA aG ex, JG (bv X N' scope cl C aA aG ex) tg g) (ht : ∀ cl C aA aG ex, JF (bv X N' scope cl C aA aG ex) ifs t)
  (he : ∀ cl C aA aG ex, JE (bv X N' scope cl C aA aG ex) e m) (fq : swapsWith (.ListComp e [⟨tg, iter, ifs, 0⟩] scope p) (some (.Name x pos')) pos.line X.env = pure true) (hs : ∀ x, foldedSetIterable iter X.env x = pure x := by intro _; rfl) :
  JS X (.Assign [.Name x pos'] (.ListComp e [⟨tg, iter, ifs, 0⟩] scope p) pos) (aC (cZ im cap g t m) (gN i)) :=
 ⟨RS hN ed hx hc cp hi.h (fun cl C aA aG ex => (hg cl C aA aG ex).h) (fun cl C aA aG ex => (ht cl C aA aG ex).h) (fun cl C aA aG ex => (he cl C aA aG ex).h) fq hs⟩
end
open PySem PySem.Spec PyProof.Rows L2 PySem.W Builtin.ObjectAttr Builtin.Getset_descriptor
section
variable {prog : Program} {w : World} {A : Around} {E : Value -> Shared -> Prop} {s : Shared} {K : PySem.W.Frag} {x C D : Addr}
def EF (K : PySem.W.Frag) (D : Addr) : Bool :=
 findIn K (.ref D) "__getattribute__" == some (some (.builtin "BaseException.__getattribute__")) && findIn K (.ref D) "__getattr__" == some none &&
 findIn K (.ref D) "__class__" == some (some (.builtin "object.__class__")) && specialIn K (.builtin "object.__class__") "__get__" == some (some (.builtin "getset_descriptor.__get__")) && takesIn K (.builtin "object.__class__") == some true &&
 mroIn K D (.type "object") == some true && mroIn K D (.type "BaseException") == some true && (clsIn K D).isSome
structure uw (K : PySem.W.Frag) (D : Addr) : Prop where
 ga : findIn K (.ref D) "__getattribute__" = some (some (.builtin "BaseException.__getattribute__"))
 gh : findIn K (.ref D) "__getattr__" = some none
 cl : findIn K (.ref D) "__class__" = some (some (.builtin "object.__class__"))
 cg : specialIn K (.builtin "object.__class__") "__get__" = some (some (.builtin "getset_descriptor.__get__"))
 ct : takesIn K (.builtin "object.__class__") = some true
 mo : mroIn K D (.type "object") = some true
 mb : mroIn K D (.type "BaseException") = some true
 cd : (clsIn K D).isSome = true
theorem uw.of (h : EF K D = true) : uw K D := by
 unfold EF at h
 simp only [Bool.and_eq_true, beq_iff_eq] at h
 obtain ⟨⟨⟨⟨⟨⟨⟨h1, h2⟩, h3⟩, h4⟩, h5⟩, h6⟩, h7⟩, h8⟩ := h
 exact ⟨h1, h2, h3, h4, h5, h6, h7, h8⟩
end
def pR (K : PySem.W.Frag) (cv : Value) (tb : List (Str × Bool)) : Prop :=
 ∀ c b, tb.lookup c = some b -> ∃ C, PySem.W.nsIn K mainGlobals c = some (some (.ref C)) /\ uw K C /\ PySem.W.kitOne K (.ref C) cv = some b
theorem pR.nil {K : PySem.W.Frag} {cv : Value} : pR K cv [] := fun c b e => by cases e
theorem pR.cons {K : PySem.W.Frag} {cv : Value} {tb : List (Str × Bool)} {c : Str} {b : Bool} {C : Addr} (h1 : PySem.W.nsIn K mainGlobals c = some (some (.ref C))) (h2 : uw K C) (h3 : PySem.W.kitOne K (.ref C) cv = some b) (h : pR K cv tb) :
  pR K cv ((c, b) :: tb) := fun c' b' e => by
 rw [List.lookup_cons] at e
 split at e
 ·rename_i q
  cases e
  rw [beq_iff_eq] at q
  subst q
  exact ⟨C, h1, h2, h3⟩
 ·exact h c' b' e
def yZ {α : Type} (x : XC) : Mo α := fun ph => .ex x ph
open PySem PySem.Spec PyProof.Rows L2 PySem.W
structure cx (X : Cx) : Prop where
 st : X.stack = X.env :: X.outer
 fr : X.env.frame = some X.env.locals
 ex : X.ex = []
def j7 {α : Type} (m : Mo α) : Mo α := fun ph => match m ph with
 | .ok a ph' => .ok a ph'
 | _ => .no
theorem aR.len {K : PySem.W.Frag} {φ : Nat -> Addr} {n : Nat} {H : Hp} : ∀ {ws : aE} {vs : L2.St}, aR K φ n H ws vs -> ws.length = vs.length
 | _, _, .nil => rfl
 | _, _, .sm _ r => by rw [List.length_cons, List.length_cons, aR.len r]
 | _, _, .nn r => by rw [List.length_cons, List.length_cons, aR.len r]
theorem aR.none {K : PySem.W.Frag} {φ : Nat -> Addr} {n : Nat} {H : Hp} : ∀ (vs : L2.St), aR K φ n H (List.replicate vs.length Option.none) vs
 | [] => .nil
 | _ :: vs => .nn (aR.none vs)
theorem BC {K : PySem.W.Frag} {φ : Nat -> Addr} {n : Nat} {H : Hp} {a : Addr} {o : HO} (ha : H a = none) : Step K φ n H φ n (upd H a o) := by
 refine ⟨Nat.le_refl _, fun _ _ => rfl, fun c xs h => ?_, fun c ob u h => by rw [aM (fun z => by rw [z, ha] at h; cases h)]; exact h⟩
 rw [aM (fun z => by rw [z, ha] at h; cases h)]; exact h
def pS (K : PySem.W.Frag) (D : Addr) (tb : List (Str × Bool)) : Prop :=
 ∀ c b, tb.lookup c = some b -> ∃ C, PySem.W.nsIn K mainGlobals c = some (some (.ref C)) /\ PySem.W.subIn K (.ref C) (.ref D) = some b
theorem pS.nil {K : PySem.W.Frag} {D : Addr} : pS K D [] := fun c b e => by cases e
theorem pS.cons {K : PySem.W.Frag} {D : Addr} {tb : List (Str × Bool)} {c : Str} {b : Bool} {C : Addr} (h1 : PySem.W.nsIn K mainGlobals c = some (some (.ref C))) (h3 : PySem.W.subIn K (.ref C) (.ref D) = some b) (h : pS K D tb) :
  pS K D ((c, b) :: tb) := fun c' b' e => by
 rw [List.lookup_cons] at e
 split at e
 ·rename_i q
  cases e
  rw [beq_iff_eq] at q
  subst q
  exact ⟨C, h1, h3⟩
 ·exact h c' b' e
theorem P9 {K : PySem.W.Frag} {φ : Nat -> Addr} {ph : PH} {H : Hp} {a : Addr} {o : HO} (h : ax K φ ph H) (ha : H a = none) : ax K φ ph (upd H a o) :=
 ⟨fun i p e => by
  obtain ⟨x, hx, _⟩ := h.at (List.getElem?_eq_some_iff.mp e).1
  exact (h.hp i p e).mono (BC ha) (aM fun z => by rw [z, ha] at hx; cases hx), h.inj⟩
def qy (ph : PH) (x y : W) : Option Nat := match (if cL x ph = true then bR x ph else none), dat ph 40 y with
 | some ws, some dy => (bf (dat ph 40) ws).bind fun ds => ds.findIdx? fun d => PyData.eqv d dy
 | _, _ => none
def nA (x : W) (ys : List W) : Po W := fun ph => match ys with
 | [y] => (qy ph x y).map fun (j : Nat) => (W.int ((j : Nat) : Int), ph)
 | _ => none
def Dj (K : PySem.W.Frag) : V -> List V -> Hp -> VK -> Prop := fun x ys H Q => ∃ (φ : Nat -> Addr) (ph : PH) (wx wy : W) (y : V) (j : Nat), ys = [y] /\ ax K φ ph H /\ ay K φ ph.length H wx x /\ ay K φ ph.length H wy y /\ qy ph wx wy = some j /\ Q (.int (j : Int)) H
theorem Dk {X : Cx} {pins : List (Addr × Obj)} {σ : L2.St} {H : Hp} {s : Shared} {φ : Nat -> Addr} {ph : PH} (I : Inv X pins σ H s) (hH : ax X.K φ ph H) {dx : PyData} : ∀ {ws : List W} {vs : List V} {us : List Value} {ds : List PyData}, aK X.K φ ph.length H ws vs -> Vals vs us -> bf (dat ph 40) ws = some ds →
  us.findIdx? (jL s dx) = ds.findIdx? fun d => PyData.eqv d dx
 | _, _, _, _, .nil, .nil, e => by cases e; rfl
 | w :: ws, _, _, ds, .cons h r, .cons hv rv, e => by
  unfold bf at e
  split at e
  ·rename_i b bs e1 e2
   cases e
   have q := gi I hH 40 h hv e1
   rw [List.findIdx?_cons, List.findIdx?_cons, Dk I hH r rv e2, sZ q]
  ·cases e
theorem RW {K : PySem.W.Frag} {φ : Nat -> Addr} {ph : PH} {H : Hp} {x : W} {v : V} {ws : List W} (hH : ax K φ ph H) (r : ay K φ ph.length H x v) (h : cL x ph = true) (e : bR x ph = some ws) : ∃ a vs, v = .ref a /\ bb K H a vs /\ aK K φ ph.length H ws vs := by
 unfold cL at h
 unfold bR at e
 cases r with
 | fl hq r => cases e; exact ⟨_, _, rfl, hq.sq, r⟩
 | ref hi =>
  simp only at e
  split at e
  ·rename_i ws' hw
   cases e
   obtain ⟨vs, hv, r⟩ := hH.hp _ _ hw
   exact ⟨_, vs, rfl, bb.of hv, r⟩
  ·cases e
 | _ => cases h
theorem Qa {X : Cx} (hu : X.A.units + 64 < cLine) : ig X "list.index" (Dj X.K) := by
 intro pins s σ H x xs v us Q I rx rv h
 obtain ⟨φ, ph, wx, wy, y, j, rfl, hH, r1, r2, e, q⟩ := h
 obtain ⟨u, rfl, ru⟩ := rv.one
 unfold qy at e
 split at e
 ·rename_i ws dy hs hd
  have hL : cL wx ph = true := by
   cases z : cL wx ph with
   | true => rfl
   | false => rw [z, if_neg Bool.false_ne_true] at hs; cases hs
  rw [if_pos hL] at hs
  obtain ⟨ds, e1, e2⟩ := Option.bind_eq_some_iff.mp e
  obtain ⟨a, vs, rfl, hq, rs⟩ := RW hH r1 hL hs
  cases rx
  obtain ⟨its, om, ⟨o, n, ho, hc, Ft, dR⟩, hz⟩ := I.list hq
  obtain ⟨oc, od, ZU, ic⟩ := o
  cases (show oc = _ from hc)
  cases (show ZU = _ from dR)
  obtain ⟨⟨as, k1⟩, c1, l1⟩ := gi I hH 40 r2 ru hd
  have q2 := (wJ I hH (dx := dy) rs om e1).2
  rw [<- Dk I hH rs om e1, List.findIdx?_eq_some_iff_getElem] at e2
  obtain ⟨hj, hit, yY⟩ := e2
  have bz : its.length <= sizeLine := by rw [<- om.length]; exact hz
  refine call_meets F.slot_list_index ⟨_, ho, rfl⟩ F.entry_list_index (F.args_list_index_2 _ _) (SeqAt.list_indexAt a its.toArray n od ic u (jL s dy) j (by simpa using hj) ?_ (by simpa using hit) fun m hm ZV => ?_) ⟨ho, fun z ZW => ?_, .int _, H, I.tok _, ⟨_, rfl⟩, q⟩
  ·have : (j : Int) < its.length := by exact_mod_cast hj
   have h2 : ((its.length : Nat) : Int) <= (sizeLine : Nat) := by exact_mod_cast bz
   have h3 : ((sizeLine : Nat) : Int) <= 2 ^ 62 := by rw [sizeLine_eq]; decide
   omega
  ·have := yY m ZV
   simpa using this
  ·obtain ⟨d, j5⟩ := q2 z (by simpa using ZW)
   rw [sZ j5]
   obtain ⟨⟨bs, k2⟩, c2, l2⟩ := j5
   intro prog w E Q hQ
   exact SeqAt.eqBoolOverData prog w _ E s z u d dy bs as Q k2 k1 c2 c1 (by show X.A.units + 1 + _ < _; omega) hQ
 ·cases e
theorem Qb {K : PySem.W.Frag} : kg K "list" (Dj K) nA := by
 intro φ ph H x xs vx vs w ph' Q hH rx rs e k
 unfold nA at e
 split at e
 ·obtain ⟨j, e1, e2⟩ := Option.map_eq_some_iff.mp e
  cases e2
  cases rs with
  | cons r0 r1 =>
   cases r1
   exact ⟨φ, ph, x, _, _, j, rfl, hH, rx, r0, e1, k φ H _ hH Step.refl (.int _)⟩
 ·cases e
theorem cA {P : Program} {w : World} {K : PySem.W.Frag} {mg : Str -> Option Value} {base : Heap} {x qual : Str} {st : Stmt} {f : Addr} {fd : FuncData} {N ps : List Str} {k n np : Nat} {body : SM} (hn : N.length = n) (hp : ps.length = np) (F : bY K x qual st f fd) (S : bZ N ps (af st))
  (l6 : ∀ {X : Cx}, X.prog = P -> X.w = w -> X.K = K -> X.mg = mg -> X.base = base -> Bd X N (af st) k -> cx X -> X.env.scope = af st -> JB X (aW st) body) : bp P w K mg base (bE P w) (k + 1) f fd ps (bN K mg np (fM body n np)) := by
 subst hn hp
 exact Uq F S fun bT A outer s H E hr => (l6 (X := i6 (bE P w) P w K mg base N qual (af st) f bT A outer s H E) rfl rfl rfl rfl rfl ⟨⟨⟨rfl, fun _ z => z, fun _ z => z, fun _ z => z, fun _ _ => .inl rfl, S.nd⟩, rfl, hr⟩, PassesOwn.leaving⟩ ⟨rfl, rfl, rfl⟩ rfl).h
def spT (K : PySem.W.Frag) : Sp := fun vs H Q _ => ∃ (a : Addr) (ns : List Int), vs = [.ref a] /\ ns.length <= 63 /\ pP H /\ bb K H a (ns.map V.int) /\ ∀ H', Q (.bl true) H'
theorem RX {K : PySem.W.Frag} {mg : Str -> Option Value} {fm : List W -> Mo W} (good : ∀ ns : List Int, ns.length <= 63 -> ∃ ph', fm [.fl (ns.map W.int)] [] = .ok (.bl true) ph') {vs : List V} {H : Hp} {Q : VK} {E : XK} (h : spT K vs H Q E) : bN K mg 1 fm vs H Q E := by
 obtain ⟨a, ns, rfl, hl, hO, hS, q⟩ := h
 obtain ⟨h1, φ, ph, args, h2, h3, h4⟩ := Ur (mg := mg) hO hS (good ns hl)
 refine ⟨h1, φ, ph, args, h2, h3, ?_⟩
 cases e : fm args ph with
 | ok w ph' =>
  rw [e] at h4
  intro ak H' v r1 r2 r3
  have := h4 ak H' v r1 r2 r3
  subst this
  exact q H'
 | ex x ph' =>
  rw [e] at h4
  exact fun ak H' C r1 r2 r3 r4 => (h4 ak H' C r1 r2 r3 r4).elim
 | no => rw [e] at h4; exact h4
theorem RY {l : PySem.W.OpenLaw} {q : Program} {loose : List Str} {XP : (Str -> Option Value) -> Heap -> Prop} {YP : World -> Heap -> Prop} {d : DefRec} {K : Params -> PySem.W.Frag} {x : Str} {fm : List W -> Mo W} (k : Nat)
  (good : ∀ ns : List Int, ns.length <= 63 -> ∃ ph', fm [.fl (ns.map W.int)] [] = .ok (.bl true) ph') (hn : l.most = some 63) (mK : d.params.defaults = []) (hr : bV k callerA) (hY : ∀ (w : World) (h : Heap), YP w h -> (K w.params).In h)
  (F : ∀ (w : World) (mg : Str -> Option Value) (fa : Addr) (h : Heap), (K w.params).In h -> h.Ns mainGlobals mg -> mg d.name = some (.ref fa) →
   ∃ fd : FuncData, (∀ (s : Shared) (u : Value), BindsTo s fd ⟨[u], []⟩ [(x, u)]) /\ ∀ base : Heap, (K w.params).In base -> base.Ns mainGlobals mg -> bp l.prog w (K w.params) mg base (bE l.prog w) k fa fd [x] (bN (K w.params) mg 1 fm)) :
  PySem.W.WalkO q loose XP YP l.row.toRowW d [] (fun f vs => PySem.call f vs) :=
 L2.Rv (n := 63) (k := k) (x := x) (CX := fun w => bE l.prog w) (sp := fun w => spT (K w.params)) hn (by decide) mK hr hY
  (fun w mg fa h KX G hm => let ⟨fd, b, f⟩ := F w mg fa h KX G hm; ⟨fd, b, fun base i g => bp.imp (f base i g) fun _ _ _ _ z => RX good z⟩)
  (fun w H a ns hl hO hS => ⟨a, ns, rfl, hl, hO, hS, fun _ => rfl⟩) fun w H s e s' ⟨_, _, _, z⟩ => z
def qz : W -> Option Bool
 | .bl b => some b
 | _ => none
def k0 (w : W) (ph : PH) : Option (List Bool) := if cL w ph = true then (bR w ph).bind (bf qz) else none
def pT : List W -> Po W := fun xs ph => match xs with
 | [w] => (k0 w ph).map fun bs => (.bl (bs.any id), ph)
 | _ => none
def nZ : List W -> Po W := fun xs ph => match xs with
 | [w] => (k0 w ph).map fun bs => (.bl (bs.all id), ph)
 | _ => none
section
variable {X : Cx}
theorem RZ (bs : List Bool) : ((List.range bs.length).any fun i => (bs[i]?).getD false) = bs.any id := by
 rw [Bool.eq_iff_iff, List.any_eq_true, List.any_eq_true]
 constructor
 ·rintro ⟨i, hi, e⟩
  have hi := List.mem_range.mp hi
  simp only [List.getElem?_eq_getElem hi, Option.getD_some] at e
  exact ⟨_, List.getElem_mem hi, e⟩
 ·rintro ⟨b, hb, e⟩
  obtain ⟨i, hi, q⟩ := List.getElem_of_mem hb
  exact ⟨i, List.mem_range.mpr hi, by simp only [List.getElem?_eq_getElem hi, Option.getD_some, q]; exact e⟩
theorem Cm (bs : List Bool) : ((List.range bs.length).all fun i => (bs[i]?).getD true) = bs.all id := by
 rw [Bool.eq_iff_iff, List.all_eq_true, List.all_eq_true]
 constructor
 ·intro h b hb
  obtain ⟨i, hi, q⟩ := List.getElem_of_mem hb
  have := h i (List.mem_range.mpr hi)
  simp only [List.getElem?_eq_getElem hi, Option.getD_some, q] at this
  exact this
 ·intro h i hi
  have hi := List.mem_range.mp hi
  simp only [List.getElem?_eq_getElem hi, Option.getD_some]
  exact h _ (List.getElem_mem hi)
theorem wg {h h' : Heap} {o : Obj} (hk : ∀ b x, b ∉ [h.objs.size] -> (h.push o).get? b = some x -> h'.get? b = some x) : ∀ b x, h.get? b = some x -> h'.get? b = some x :=
 fun b x e => hk b x (fun hm => by rw [List.mem_singleton.mp hm] at e; exact Nat.lt_irrefl _ (Heap.lt_size e)) (Heap.get?_push_of_some _ e)
theorem Oa (hc : X.calm = true) : cs X (.builtin "any") (fun xs H Q => ∃ p, ∃ bs : List Bool, xs = [.ref p] /\ bb X.K H p (bs.map V.bl) /\ Q (.bl (bs.any id)) H) := by
 intro pins s σ H xs us Q I r h
 obtain ⟨p, bs, rfl, hq, q⟩ := h
 obtain ⟨u, rfl, rx⟩ := vals1 r
 cases rx
 obtain ⟨its, r', pl, hz⟩ := I.list hq
 have bz := r'.length
 rw [List.length_map] at bz
 have cS : p < s.heap.objs.size := by obtain ⟨_, e, _⟩ := pl.isList; exact Heap.lt_size e
 refine call_any_walk (wpAny_pyIter_list pl.isList ?_)
 refine ⟨s.heap.objs.size, [s.heap.objs.size, p], [s.heap.objs.size], its.toArray.size, _, _, fun i => (bs[i]?).getD false, rfl, Walks.list (A := X.A.in1) (I.ok.hd hc) _ p (Nat.ne_of_lt cS) its.toArray,
  ⟨⟨_, Heap.get?_push_size _ rfl, rfl, rfl⟩, pl.isList.push _⟩, fun i v s' Q' E' hP hQ => ?_, fun h' tk hk => ?_⟩
 ·have hP : its[i]? = some v := by simpa using hP
  have hi : i < bs.length := by rw [bz]; exact (List.getElem?_eq_some_iff.mp hP).1
  obtain ⟨u, hu, ru⟩ := r'.get (i := i) (x := .bl bs[i]) (by simp [hi])
  rw [hP] at hu; cases hu
  have ru : v = .bool bs[i] := ru
  subst ru
  simp only [List.getElem?_eq_getElem hi, Option.getD_some] at hQ
  exact wpAny_truthy_bool hQ
 ·rw [List.size_toArray, <- bz, RZ]
  exact ⟨.bl _, H, I.kept (wg hk), rfl, q⟩
theorem Ob (hc : X.calm = true) : cs X (.builtin "all") (fun xs H Q => ∃ p, ∃ bs : List Bool, xs = [.ref p] /\ bb X.K H p (bs.map V.bl) /\ Q (.bl (bs.all id)) H) := by
 intro pins s σ H xs us Q I r h
 obtain ⟨p, bs, rfl, hq, q⟩ := h
 obtain ⟨u, rfl, rx⟩ := vals1 r
 cases rx
 obtain ⟨its, r', pl, hz⟩ := I.list hq
 have bz := r'.length
 rw [List.length_map] at bz
 have cS : p < s.heap.objs.size := by obtain ⟨_, e, _⟩ := pl.isList; exact Heap.lt_size e
 refine call_all_walk (wpAny_pyIter_list pl.isList ?_)
 refine ⟨s.heap.objs.size, [s.heap.objs.size, p], [s.heap.objs.size], its.toArray.size, _, _, fun i => (bs[i]?).getD true, rfl, Walks.list (A := X.A.in1) (I.ok.hd hc) _ p (Nat.ne_of_lt cS) its.toArray,
  ⟨⟨_, Heap.get?_push_size _ rfl, rfl, rfl⟩, pl.isList.push _⟩, fun i v s' Q' E' hP hQ => ?_, fun h' tk hk => ?_⟩
 ·have hP : its[i]? = some v := by simpa using hP
  have hi : i < bs.length := by rw [bz]; exact (List.getElem?_eq_some_iff.mp hP).1
  obtain ⟨u, hu, ru⟩ := r'.get (i := i) (x := .bl bs[i]) (by simp [hi])
  rw [hP] at hu; cases hu
  have ru : v = .bool bs[i] := ru
  subst ru
  simp only [List.getElem?_eq_getElem hi, Option.getD_some] at hQ
  exact wpAny_truthy_bool hQ
 ·rw [List.size_toArray, <- bz, Cm]
  exact ⟨.bl _, H, I.kept (wg hk), rfl, q⟩
theorem wM {K : PySem.W.Frag} {φ : Nat -> Addr} {n : Nat} {H : Hp} : ∀ {ws : List W} {vs : List V} {bs : List Bool}, aK K φ n H ws vs -> bf qz ws = some bs -> vs = bs.map V.bl
 | _, _, _, .nil, e => by cases e; rfl
 | w :: ws, _, bs, .cons h r, e => by
  unfold bf at e
  split at e
  ·rename_i b yO e1 e2
   cases e
   have q := wM r e2
   unfold qz at e1
   cases h <;> cases e1
   rw [q]; rfl
  ·cases e
theorem BD {K : PySem.W.Frag} {φ : Nat -> Addr} {ph : PH} {H : Hp} {w : W} {v : V} {bs : List Bool} (hH : ax K φ ph H) (r : ay K φ ph.length H w v) (e : k0 w ph = some bs) : ∃ p, v = .ref p /\ bb K H p (bs.map V.bl) := by
 unfold k0 at e
 split at e
 ·rename_i hL
  cases r with
  | ref hi =>
   unfold cL at hL
   simp only at hL
   split at hL
   ·rename_i ws hw
    obtain ⟨vs, hv, rs⟩ := hH.hp _ _ hw
    simp only [bR, hw, Option.bind_some] at e
    rw [wM rs e] at hv
    exact ⟨_, rfl, bb.of hv⟩
   ·cases hL
  | fl h rs =>
   simp only [bR, Option.bind_some] at e
   have q := wM rs e
   subst q
   exact ⟨_, rfl, h.sq⟩
  | _ => cases hL
 ·cases e
theorem UO {K : PySem.W.Frag} : fx K (fun xs H Q => ∃ p, ∃ bs : List Bool, xs = [.ref p] /\ bb K H p (bs.map V.bl) /\ Q (.bl (bs.any id)) H) pT := by
 intro φ ph H xs vs w ph' Q hH r e k
 unfold pT at e
 split at e
 ·rename_i x
  cases q : k0 x ph with
  | none => rw [q] at e; cases e
  | some bs =>
   rw [q] at e
   cases e
   cases r with
   | cons r r' =>
    cases r'
    obtain ⟨p, rfl, hs⟩ := BD hH r q
    exact ⟨p, bs, rfl, hs, k φ H _ hH Step.refl (.bl _)⟩
 ·cases e
theorem UP {K : PySem.W.Frag} : fx K (fun xs H Q => ∃ p, ∃ bs : List Bool, xs = [.ref p] /\ bb K H p (bs.map V.bl) /\ Q (.bl (bs.all id)) H) nZ := by
 intro φ ph H xs vs w ph' Q hH r e k
 unfold nZ at e
 split at e
 ·rename_i x
  cases q : k0 x ph with
  | none => rw [q] at e; cases e
  | some bs =>
   rw [q] at e
   cases e
   cases r with
   | cons r r' =>
    cases r'
    obtain ⟨p, rfl, hs⟩ := BD hH r q
    exact ⟨p, bs, rfl, hs, k φ H _ hH Step.refl (.bl _)⟩
 ·cases e
end
def o7 : W -> List W -> Po W := fun x xs ph => match x, xs with
 | .ref i, [.ref j] => match ph[i]?, ph[j]? with
  | some (.lst ws), some (.lst us) => if ws.length + us.length <= sizeLine then some (.az, ph.set i (.lst (ws ++ us))) else none
  | _, _ => none
 | _, _ => none
theorem O5 {K : PySem.W.Frag} : kg K "list" B8 o7 := by
 intro φ ph H x xs vx vs w ph' Q hH rx rs e k
 unfold o7 at e
 split at e
 ·rename_i i j
  split at e
  ·rename_i ws us hw hu
   split at e
   ·rename_i hz
    cases e
    cases rx with
    | ref hi =>
     cases rs with
     | cons ry rr =>
      cases rr
      cases ry with
      | ref hj =>
       obtain ⟨xs, hv, r⟩ := hH.hp _ _ hw
       obtain ⟨ys, j9, r'⟩ := hH.hp _ _ hu
       obtain ⟨q1, q2⟩ := sX hH hw (r.append r')
       exact ⟨_, _, xs, ys, rfl, rfl, hv, j9, by rw [<- r.length, <- r'.length]; exact hz, k φ _ _ q1 q2 .az⟩
   ·cases e
  ·cases e
 ·cases e
section
variable {X : Cx} {pins : List (Addr × Obj)} {σ : L2.St} {H : Hp} {s : Shared} {h' : Heap}
theorem R0 {t' : Nat} {fp : List Addr} {T : Addr} {o : HO} (I : Inv X pins σ H s) (k : ∀ b u, b ∉ fp -> s.heap.get? b = some u -> h'.get? b = some u) (hf : ∀ b ∈ fp, fB X pins H b) (hp : s.heap.objs.size <= T)
  (new : b8 X.prog X.w (upd H T o) h' T o) : Inv X pins σ (upd H T o) { s with heap := h', toks := t' } := by
 have hn := I.aF.fresh hp
 have neT : ∀ b u, s.heap.get? b = some u -> b ≠ T := fun b u e => Nat.ne_of_lt (Nat.lt_of_lt_of_le (Heap.lt_size e) hp)
 have la : ∀ b u, H b = some u -> b ∉ fp := fun b u e z => by rw [(hf b z).1] at e; cases e
 refine I.step (g' := s.gens) (d' := s.drawn) (ch := fp) (fun b hb => ?_) (fun b u _ _ hc e _ => k b u hc e) (fun b u _ _ hc e _ => ⟨u.slots, k b u hc e⟩) (fun b u _ e n => by rw [aM (neT b u e)]; exact n)
  (fun b u hc e => ⟨u, k b u hc e⟩) (fun b xs e => by rw [aM (dH e hn)]; exact e) (fun b u v e => by rw [aM (dH e hn)]; exact e) (fun b ps e => ⟨#[], by rw [aM (dH e hn), e]; simp⟩) (fun m hm => ?_) (fun b u e => ?_) I.bare
 ·obtain ⟨_, f1, _, f3, f4, f5⟩ := hf b hb
  exact ⟨f3, f1, f4, f5⟩
 ·obtain ⟨u, es, ep, ho, r⟩ := hm
  exact ⟨u, es, ep, k _ u (fun z => (hf _ z).2.1 rfl) ho, r⟩
 ·by_cases hb : b = T
  ·subst hb; rw [bw] at e; cases e; exact new
  ·rw [aM hb] at e
   refine (I.aF b u e).gv (fun c v hc q => k c v ?_ q) (fun c q => by rw [aM (dH q hn)]; exact q) fun c xs q => by rw [aM (dH q hn)]; exact q
   rcases hc with z | z
   ·rw [z]; exact la b u e
   ·exact la c _ z
theorem Cn {t' : Nat} {fp : List Addr} (I : Inv X pins σ H s) (k : ∀ b u, b ∉ fp -> s.heap.get? b = some u -> h'.get? b = some u) (hf : ∀ b ∈ fp, fB X pins H b) : Inv X pins σ H { s with heap := h', toks := t' } := by
 have la : ∀ b u, H b = some u -> b ∉ fp := fun b u e z => by rw [(hf b z).1] at e; cases e
 refine I.step (g' := s.gens) (d' := s.drawn) (ch := fp) (fun b hb => ?_) (fun b u _ _ hc e _ => k b u hc e) (fun b u _ _ hc e _ => ⟨u.slots, k b u hc e⟩) (fun b u _ e n => n)
  (fun b u hc e => ⟨u, k b u hc e⟩) (fun b xs e => e) (fun b u v e => e) (fun b ps e => ⟨#[], by rw [e]; simp⟩) (fun m hm => ?_) (fun b u e => ?_) I.bare
 ·obtain ⟨_, f1, _, f3, f4, f5⟩ := hf b hb
  exact ⟨f3, f1, f4, f5⟩
 ·obtain ⟨u, es, ep, ho, r⟩ := hm
  exact ⟨u, es, ep, k _ u (fun z => (hf _ z).2.1 rfl) ho, r⟩
 ·refine (I.aF b u e).gv (fun c v hc q => k c v ?_ q) (fun _ q => q) fun _ _ q => q
  rcases hc with z | z
  ·rw [z]; exact la b u e
  ·exact la c _ z
end
theorem sN {env : Env} {e : Expr} {gens : List Comprehension} {scope : Scope} {p pos' : Pos} {x : Str} {line : Nat} (hk : env.scope.kind = .function) (hx : env.scope.names.lookup x = some .local) (hl : (pos'.line == p.line) = true)
  (hn : (scope.names.any fun y => y.1 == x && (y.2 == .local || y.2 == .cell)) = false) : swapsWith (.ListComp e gens scope p) (some (.Name x pos')) line env = pure true := by
 have e1 : (env.kindOf x == some .local) = true := by unfold Env.kindOf; rw [hx]; rfl
 have e2 : (env.blockKind == .function) = true := by unfold Env.blockKind; rw [hk]; rfl
 show pure (env.blockKind == .function && env.kindOf x == some .local && pos'.line == p.line && !(scope.names.any fun y => y.1 == x && (y.2 == .local || y.2 == .cell))) = _
 rw [e1, e2, hl, hn]
 rfl
def newD : Po W := fun ph => some (.ref ph.length, ph ++ [.aQ []])
def ux : EM := fun _ => lift newD
theorem BE {K : PySem.W.Frag} {φ : Nat -> Addr} {ph : PH} {H : Hp} {p : Addr} (hH : ax K φ ph H) (hp : H p = none) :
  ax K (ext φ ph.length p) (ph ++ [.aQ []]) (upd H p (.dK [])) /\ Step K φ ph.length H (ext φ ph.length p) (ph ++ [PO.aQ []]).length (upd H p (.dK [])) /\ ay K (ext φ ph.length p) (ph ++ [PO.aQ []]).length (upd H p (.dK [])) (.ref ph.length) (.ref p) := by
 have hl : (ph ++ [PO.aQ []]).length = ph.length + 1 := by simp
 rw [hl]
 have s := oU (K := K) (φ := φ) (n := ph.length) (o := HO.dK []) hp
 refine ⟨hH.new hp (.inl ⟨[], bw, .nil⟩), s, ?_⟩
 have q : ay K (ext φ ph.length p) (ph.length + 1) (upd H p (.dK [])) (.ref ph.length) (.ref (ext φ ph.length p ph.length)) := .ref (Nat.lt_succ_self _)
 rw [iQ] at q
 exact q
theorem UQ {X : Cx} {pos : Pos} : JE X (.Dict [] [] pos) ux := ⟨PE.imp P1 fun σ H Q h p hp => by
 obtain ⟨φ, ph, ws, hH, hS, h⟩ := h
 obtain ⟨w, ph', e, k⟩ := run_lift h
 cases e
 obtain ⟨q1, q2, q3⟩ := BE hH hp
 exact k _ _ _ q1 q2 q3⟩
theorem tq {a b : Key} (h : bq a = bq b) : a = b := by
 cases a <;> cases b <;> simp_all [bq]
theorem sO : ∀ {a b : List Key}, a.map bq = b.map bq -> a = b
 | [], [], _ => rfl
 | [], _ :: _, e => by simp at e
 | _ :: _, [], e => by simp at e
 | x :: xs, y :: ys, e => by
  rw [List.map_cons, List.map_cons] at e
  injection e with e1 e2
  rw [tq e1, sO e2]
def pU : W -> Option Key
 | .int i => some (.inl i)
 | .str x => some (.inr x)
 | _ => none
def uy : W -> Option (List Key)
 | .tup ws => bf pU ws
 | _ => none
theorem wN {w : W} {k : Key} (h : pU w = some k) : w = bq k := by
 cases w <;> simp only [pU] at h <;> first | (cases h; done) | (cases h; rfl)
theorem BF : ∀ {ws : List W} {ks : List Key}, bf pU ws = some ks -> ws = ks.map bq
 | [], ks, h => by cases h; rfl
 | w :: ws, ks, h => by
  unfold bf at h
  split at h
  ·rename_i b bs e1 e2
   cases h
   rw [wN e1, BF e2]; rfl
  ·cases h
theorem Co {w : W} {ks : List Key} (h : uy w = some ks) : w = .tup (ks.map bq) := by
 cases w <;> simp only [uy] at h <;> first | (cases h; done) | rw [BF h]
theorem xM {K : PySem.W.Frag} {φ : Nat -> Addr} {n : Nat} {H : Hp} {k : Key} {v : V} (r : ay K φ n H (bq k) v) : v = kV k := by
 cases k with
 | inl i => cases r; rfl
 | inr x => cases r; rfl
theorem Dm {K : PySem.W.Frag} {φ : Nat -> Addr} {n : Nat} {H : Hp} : ∀ {ks : List Key} {vs : List V}, aK K φ n H (ks.map bq) vs -> vs = ks.map kV
 | [], _, r => by cases r; rfl
 | k :: ks, _, r => by
  cases r with
  | cons h r => rw [xM h, Dm r]; rfl
theorem Dn {K : PySem.W.Frag} {φ : Nat -> Addr} {n : Nat} {H : Hp} {ks : List Key} {v : V} (r : ay K φ n H (.tup (ks.map bq)) v) : ∃ b, v = .ref b /\ H b = some (.tup (ks.map kV)) := by
 cases r with
 | tup h r => rw [Dm r] at h; exact ⟨_, rfl, h⟩
def bP (kws : List (W × W)) (k : W) : Option W := (kws.find? fun p => decide (p.1 = k)).map (·.2)
def cu (kws : List (W × W)) (k w : W) : List (W × W) := if (kws.any fun p => decide (p.1 = k)) = true then kws.map (fun p => if p.1 = k then (p.1, w) else p) else kws ++ [(k, w)]
def i9 (K : PySem.W.Frag) (φ : Nat -> Addr) (n : Nat) (H : Hp) : Option W -> Option V -> Prop
 | none, none => True
 | some w, some v => ay K φ n H w v
 | _, _ => False
section
variable {K : PySem.W.Frag} {φ : Nat -> Addr} {n : Nat} {H : Hp}
theorem UR {a b : Key} : decide (bq a = bq b) = decide (a = b) := by
 rw [decide_eq_decide]; exact ⟨tq, fun e => by rw [e]⟩
theorem R1 {a b : List Key} : decide (W.tup (a.map bq) = W.tup (b.map bq)) = decide (a = b) := by
 rw [decide_eq_decide]; exact ⟨fun e => sO (W.tup.inj e), fun e => by rw [e]⟩
theorem bc.val (k : Key) : ∀ {kws : List (W × W)} {kvs : List (Key × V)}, bc K φ n H kws kvs -> i9 K φ n H (bP kws (bq k)) (d4 kvs k)
 | _, _, .nil => trivial
 | _, _, .cons (k := j) (w := w) (v := v) h r => by
  unfold bP
  rw [List.find?_cons]
  by_cases e : j = k
  ·rw [decide_eq_true (congrArg bq e), oS (p := (j, v)) e]; exact h
  ·rw [decide_eq_false (fun z => e (tq z)), oT (p := (j, v)) e]
   exact bc.val k r
theorem bh.val (k : List Key) : ∀ {kws : List (W × W)} {kvs : List (List Key × V)}, bh K φ n H kws kvs -> i9 K φ n H (bP kws (.tup (k.map bq))) (d4 kvs k)
 | _, _, .nil => trivial
 | _, _, .cons (k := j) (w := w) (v := v) h r => by
  unfold bP
  rw [List.find?_cons]
  by_cases e : j = k
  ·rw [decide_eq_true (by rw [e]), oS (p := (j, v)) e]; exact h
  ·rw [decide_eq_false (fun z => e (sO (W.tup.inj z))), oT (p := (j, v)) e]
   exact bh.val k r
theorem bc.len : ∀ {kws : List (W × W)} {kvs : List (Key × V)}, bc K φ n H kws kvs -> kws.length = kvs.length
 | _, _, .nil => rfl
 | _, _, .cons _ r => by rw [List.length_cons, List.length_cons, bc.len r]
theorem bh.len : ∀ {kws : List (W × W)} {kvs : List (List Key × V)}, bh K φ n H kws kvs -> kws.length = kvs.length
 | _, _, .nil => rfl
 | _, _, .cons _ r => by rw [List.length_cons, List.length_cons, bh.len r]
theorem bc.any (k : Key) : ∀ {kws : List (W × W)} {kvs : List (Key × V)}, bc K φ n H kws kvs -> (kws.any fun p => decide (p.1 = bq k)) = kvs.any fun p => decide (p.1 = k)
 | _, _, .nil => rfl
 | _, _, .cons (k := j) _ r => by
  rw [List.any_cons, List.any_cons, bc.any k r]
  show (decide (bq j = bq k) || _) = (decide (j = k) || _)
  rw [UR]
theorem bh.any (k : List Key) : ∀ {kws : List (W × W)} {kvs : List (List Key × V)}, bh K φ n H kws kvs -> (kws.any fun p => decide (p.1 = .tup (k.map bq))) = kvs.any fun p => decide (p.1 = k)
 | _, _, .nil => rfl
 | _, _, .cons (k := j) _ r => by
  rw [List.any_cons, List.any_cons, bh.any k r]
  show (decide (W.tup (j.map bq) = W.tup (k.map bq)) || _) = (decide (j = k) || _)
  rw [R1]
theorem bc.hU (k : Key) {w : W} {v : V} (q : ay K φ n H w v) : ∀ {kws : List (W × W)} {kvs : List (Key × V)}, bc K φ n H kws kvs -> bc K φ n H (kws.map fun p => if p.1 = bq k then (p.1, w) else p) (kvs.map fun p => if p.1 = k then (p.1, v) else p)
 | _, _, .nil => .nil
 | _, _, .cons (k := j) h r => by
  rw [List.map_cons, List.map_cons]
  by_cases e : j = k
  ·rw [if_pos (show bq j = bq k by rw [e]), if_pos (show j = k from e)]; exact .cons q (bc.hU k q r)
  ·rw [if_neg (show ¬ bq j = bq k from fun z => e (tq z)), if_neg (show ¬ j = k from e)]; exact .cons h (bc.hU k q r)
theorem bh.hU (k : List Key) {w : W} {v : V} (q : ay K φ n H w v) : ∀ {kws : List (W × W)} {kvs : List (List Key × V)}, bh K φ n H kws kvs -> bh K φ n H (kws.map fun p => if p.1 = .tup (k.map bq) then (p.1, w) else p) (kvs.map fun p => if p.1 = k then (p.1, v) else p)
 | _, _, .nil => .nil
 | _, _, .cons (k := j) h r => by
  rw [List.map_cons, List.map_cons]
  by_cases e : j = k
  ·rw [if_pos (show W.tup (j.map bq) = W.tup (k.map bq) by rw [e]), if_pos (show j = k from e)]; exact .cons q (bh.hU k q r)
  ·rw [if_neg (show ¬ W.tup (j.map bq) = W.tup (k.map bq) from fun z => e (sO (W.tup.inj z))), if_neg (show ¬ j = k from e)]; exact .cons h (bh.hU k q r)
theorem bc.snoc (k : Key) {w : W} {v : V} (q : ay K φ n H w v) : ∀ {kws : List (W × W)} {kvs : List (Key × V)}, bc K φ n H kws kvs -> bc K φ n H (kws ++ [(bq k, w)]) (kvs ++ [(k, v)])
 | _, _, .nil => .cons q .nil
 | _, _, .cons h r => .cons h (bc.snoc k q r)
theorem bh.snoc (k : List Key) {w : W} {v : V} (q : ay K φ n H w v) : ∀ {kws : List (W × W)} {kvs : List (List Key × V)}, bh K φ n H kws kvs -> bh K φ n H (kws ++ [(.tup (k.map bq), w)]) (kvs ++ [(k, v)])
 | _, _, .nil => .cons q .nil
 | _, _, .cons h r => .cons h (bh.snoc k q r)
theorem bc.put (k : Key) {w : W} {v : V} (q : ay K φ n H w v) {kws : List (W × W)} {kvs : List (Key × V)} (r : bc K φ n H kws kvs) : bc K φ n H (cu kws (bq k) w) (putK kvs k v) := by
 unfold cu putK
 rw [r.any k]
 by_cases e : (kvs.any fun kv => decide (kv.1 = k)) = true
 ·rw [if_pos e, if_pos e]; exact r.hU k q
 ·rw [if_neg e, if_neg e]; exact r.snoc k q
theorem bh.put (k : List Key) {w : W} {v : V} (q : ay K φ n H w v) {kws : List (W × W)} {kvs : List (List Key × V)} (r : bh K φ n H kws kvs) : bh K φ n H (cu kws (.tup (k.map bq)) w) (putK kvs k v) := by
 unfold cu putK
 rw [r.any k]
 by_cases e : (kvs.any fun kv => decide (kv.1 = k)) = true
 ·rw [if_pos e, if_pos e]; exact r.hU k q
 ·rw [if_neg e, if_neg e]; exact r.snoc k q
end
section
variable {X : Cx} {pins : List (Addr × Obj)} {σ : L2.St} {H : Hp} {s : Shared} {a : Addr}
theorem gX (I : Inv X pins σ H s) (e : H a = some (.dK [])) : Inv X pins σ (upd H a (.dT [])) s := by
 obtain ⟨z, hd, vs, rel, o, es, ep, h1, h2, h3, h4, h5, h6⟩ := nG I.aF e
 cases rel
 have he : es.toList = [] := by
  generalize es.toList = l at h5
  cases h5; rfl
 exact I.write (x := a) (e := a) (h' := s.heap) (t' := s.toks) (o := .dT []) (by rw [e]; trivial) (.inl rfl) (fun _ _ _ q => q) ⟨o, h1⟩ ⟨Nat.zero_le _, hd, [], .nil, o, es, ep, h1, h2, h3, by rw [he]; rfl, List.nodup_nil⟩
theorem gY (I : Inv X pins σ H s) (e : H a = some (.dT [])) : Inv X pins σ (upd H a (.dK [])) s := by
 obtain ⟨z, hd, xs, rel, o, es, ep, h1, h2, h3, h4, h5, h6⟩ := nH I.aF e
 cases rel
 have he : es = #[] := by
  have : es.toList = [] := h4
  simpa using this
 subst he
 exact I.write (x := a) (e := a) (h' := s.heap) (t' := s.toks) (o := .dK []) (by rw [e]; trivial) (.inl rfl) (fun _ _ _ q => q) ⟨o, h1⟩ ⟨Nat.zero_le _, hd, [], .nil, o, #[], ep, h1, h2, h3, fun x hx => by simp at hx, .nil, List.nodup_nil⟩
theorem kM {o u : HO} (e : H a = some o) : upd (upd H a u) a o = H := by
 rw [o4]
 funext b
 unfold upd
 split
 ·rename_i q; rw [q, e]
 ·rfl
end
def nI (H : Hp) (a : Addr) (y : V) (o : Option V) : Prop := dh H a y o \/ (o = none /\ ((H a = some (.dK []) /\ ∃ (k : List Key) (b : Addr), y = .ref b /\ H b = some (.tup (k.map kV))) \/ (H a = some (.dT []) /\ ∃ k : Key, y = kV k)))
def iW (H : Hp) (a : Addr) (y v : V) (H' : Hp) : Prop := hV H a y v H' \/ (H a = some (.dK []) /\ ∃ (k : List Key) (b : Addr), y = .ref b /\ H b = some (.tup (k.map kV)) /\ H' = upd H a (.dT [(k, v)])) \/ (H a = some (.dT []) /\ ∃ k : Key, y = kV k /\ H' = upd H a (.dK [(k, v)]))
section
variable {X : Cx}
theorem US (hu : X.A.units + 1 < cLine) : bG X (compareOp .In) (fun y x H Q => ∃ a o, x = .ref a /\ nI H a y o /\ Q (.bl o.isSome) H) := by
 intro pins s σ H y x u v Q I ry rx h
 obtain ⟨a, o, rfl, g, q⟩ := h
 cases rx
 rcases g with g | ⟨rfl, ⟨e, k, b, ey, eb⟩ | ⟨e, k, ey⟩⟩
 ·exact xY hu I g ry fun s3 I3 => ⟨.bl o.isSome, H, I3, rfl, q⟩
 ·subst ey
  have g : dh (upd H a (.dT [])) a (.ref b) none := .inr ⟨[], k, b, .inl bw, rfl, by rw [aM (cY eb e (fun z => nomatch z))]; exact eb, rfl⟩
  exact xY hu (gX I e) g ry fun s3 I3 => ⟨.bl false, H, by have := gY I3 bw; rwa [kM e] at this, rfl, q⟩
 ·subst ey
  have g : dh (upd H a (.dK [])) a (kV k) none := .inl ⟨[], k, .inl bw, rfl, rfl⟩
  exact xY hu (gY I e) g ry fun s3 I3 => ⟨.bl false, H, by have := gX I3 bw; rwa [kM e] at this, rfl, q⟩
theorem R3 (hu : X.A.units + 1 < cLine) : bG X (compareOp .NotIn) (fun y x H Q => ∃ a o, x = .ref a /\ nI H a y o /\ Q (.bl (!o.isSome)) H) := by
 intro pins s σ H y x u v Q I ry rx h
 obtain ⟨a, o, rfl, g, q⟩ := h
 cases rx
 rcases g with g | ⟨rfl, ⟨e, k, b, ey, eb⟩ | ⟨e, k, ey⟩⟩
 ·exact wI hu I g ry fun s3 I3 => ⟨.bl (!o.isSome), H, I3, rfl, q⟩
 ·subst ey
  have g : dh (upd H a (.dT [])) a (.ref b) none := .inr ⟨[], k, b, .inl bw, rfl, by rw [aM (cY eb e (fun z => nomatch z))]; exact eb, rfl⟩
  exact wI hu (gX I e) g ry fun s3 I3 => ⟨.bl true, H, by have := gY I3 bw; rwa [kM e] at this, rfl, q⟩
 ·subst ey
  have g : dh (upd H a (.dK [])) a (kV k) none := .inl ⟨[], k, .inl bw, rfl, rfl⟩
  exact wI hu (gY I e) g ry fun s3 I3 => ⟨.bl true, H, by have := gX I3 bw; rwa [kM e] at this, rfl, q⟩
theorem set_dict (hu : X.A.units + 1 < cLine) : jP X (fun o i v H Q => ∃ a H', o = .ref a /\ iW H a i v H' /\ Q H') := by
 intro pins s σ H o i v ov iv u Q I ro ri rv h
 obtain ⟨a, H', rfl, g, q⟩ := h
 cases ro
 rcases g with g | ⟨e, k, b, ey, eb, eH⟩ | ⟨e, k, ey, eH⟩
 ·exact vU hu I g ri rv fun s3 I3 => ⟨H', I3, q⟩
 ·subst ey eH
  have g : hV (upd H a (.dT [])) a (.ref b) v (upd (upd H a (.dT [])) a (.dT (putK [] k v))) := .inr ⟨[], k, b, bw, rfl, by rw [aM (cY eb e (fun z => nomatch z))]; exact eb, by decide, rfl⟩
  refine vU hu (gX I e) g ri rv fun s3 I3 => ⟨_, ?_, q⟩
  rw [o4] at I3
  exact I3
 ·subst ey eH
  have g : hV (upd H a (.dK [])) a (kV k) v (upd (upd H a (.dK [])) a (.dK (putK [] k v))) := .inl ⟨[], k, bw, rfl, by decide, rfl⟩
  refine vU hu (gY I e) g ri rv fun s3 I3 => ⟨_, ?_, q⟩
  rw [o4] at I3
  exact I3
theorem R4 (hu : X.A.units + 1 < cLine) : ie X (fun x y H Q => ∃ a v, x = .ref a /\ dh H a y (some v) /\ Q v H) := by
 intro value slice pins s σ H x y v u Q I rx ry h hs
 obtain ⟨a, w, rfl, g, q⟩ := h
 cases rx
 have hT := Nc I g
 unfold subscriptTail
 refine wpAny_bind ?_
 rw [getitemInPython_of_ne hT.not_modules]
 refine wpAny_bind (wpAny_specialOf hT PySem.F.slot_dict_getitem.lookup ?_)
 have fin : wpAny (model X.prog X.w) X.A (subscripted slice false (.ref a) u) (fun r zD => wpAny (model X.prog X.w) X.A (letTemporaryGo value (.ref a) r >>= fun _ => pure r) (EP X pins σ Q) X.xe zD) X.xe s := by
  rw [hs]
  exact wpAny_operating (OX hu I g ry fun w' s3 I3 cR => wpAny_bind (wpAny_letTemporaryGo (wpAny_pure ⟨w, H, I3, cR, q⟩)))
 first
  | exact wpAny_pure (wpAny_bind fin)
  | exact wpAny_bind (wpAny_pure (wpAny_bind fin))
  | exact wpAny_bind fin
end
def fv : W -> Bool
 | .tup _ => true
 | _ => false
def fi (kws : List (W × W)) (x : W) : Bool := ((pU x).isSome && kws.all fun p => !fv p.1) || ((uy x).isSome && kws.all fun p => fv p.1)
def dB (y : W) (ph : PH) : Option (Nat × List (W × W)) := match y with
 | .ref i => match ph[i]? with
  | some (.aQ kws) => some (i, kws)
  | _ => none
 | _ => none
section
variable {K : PySem.W.Frag} {φ : Nat -> Addr} {ph : PH} {H : Hp}
theorem bc.y0 {kws : List (W × W)} {kvs : List (Key × V)} {n : Nat} (r : bc K φ n H kws kvs) (h : kws.all (fun p => fv p.1) = true) : kws = [] /\ kvs = [] := by
 cases r with
 | nil => exact ⟨rfl, rfl⟩
 | cons h' r =>
  rename_i k w v kws kvs
  rw [List.all_cons] at h
  have : fv (bq k) = true := by simp only [Bool.and_eq_true] at h; exact h.1
  cases k <;> cases this
theorem bh.yg {kws : List (W × W)} {kvs : List (List Key × V)} {n : Nat} (r : bh K φ n H kws kvs) (h : kws.all (fun p => !fv p.1) = true) : kws = [] /\ kvs = [] := by
 cases r with
 | nil => exact ⟨rfl, rfl⟩
 | cons h' r =>
  rw [List.all_cons] at h
  have h := (Bool.and_eq_true _ _ ▸ h).1
  cases h
theorem fN {y : W} {v : V} {i : Nat} {kws : List (W × W)} (hH : ax K φ ph H) (r : ay K φ ph.length H y v) (e : dB y ph = some (i, kws)) : y = .ref i /\ i < ph.length /\ ph[i]? = some (.aQ kws) /\ v = .ref (φ i) := by
 unfold dB at e
 cases r with
 | ref hi =>
  simp only at e
  split at e
  ·rename_i Yt hw
   cases e
   exact ⟨rfl, hi, hw, rfl⟩
  ·cases e
 | _ => cases e
theorem oV {i : Nat} {kws : List (W × W)} {x : W} {v : V} (hH : ax K φ ph H) (hd : ph[i]? = some (.aQ kws)) (r : ay K φ ph.length H x v) (hk : fi kws x = true) : ∃ o, nI H (φ i) v o /\ i9 K φ ph.length H (bP kws x) o := by
 unfold fi at hk
 rw [Bool.or_eq_true, Bool.and_eq_true, Bool.and_eq_true] at hk
 rcases hk with ⟨h1, h2⟩ | ⟨h1, h2⟩
 ·obtain ⟨k, hk⟩ := Option.isSome_iff_exists.mp h1
  have := wN hk
  subst this
  have := xM r
  subst this
  rcases hH.hp _ _ hd with ⟨kvs, q, rd⟩ | ⟨kvs, q, rd⟩
  ·exact ⟨_, .inl (.inl ⟨kvs, k, .inl q, rfl, rfl⟩), rd.val k⟩
  ·obtain ⟨rfl, rfl⟩ := rd.yg h2
   exact ⟨none, .inr ⟨rfl, .inr ⟨q, k, rfl⟩⟩, trivial⟩
 ·obtain ⟨ks, hk⟩ := Option.isSome_iff_exists.mp h1
  have := Co hk
  subst this
  obtain ⟨b, rfl, hb⟩ := Dn r
  rcases hH.hp _ _ hd with ⟨kvs, q, rd⟩ | ⟨kvs, q, rd⟩
  ·obtain ⟨rfl, rfl⟩ := rd.y0 h2
   exact ⟨none, .inr ⟨rfl, .inl ⟨q, ks, b, rfl, hb⟩⟩, trivial⟩
  ·exact ⟨_, .inl (.inr ⟨kvs, ks, b, .inl q, rfl, hb, rfl⟩), rd.val ks⟩
theorem BG {i : Nat} {kws : List (W × W)} {x w : W} {v u : V} (hH : ax K φ ph H) (hi : i < ph.length) (hd : ph[i]? = some (.aQ kws)) (r : ay K φ ph.length H x v) (rw : ay K φ ph.length H w u) (hk : fi kws x = true) (hz : kws.length < sizeLine) :
  ∃ H', iW H (φ i) v u H' /\ ax K φ (ph.set i (.aQ (cu kws x w))) H' /\ Step K φ ph.length H φ (ph.set i (.aQ (cu kws x w))).length H' := by
 obtain ⟨y, ey, my⟩ := hH.mu hd rfl
 rw [List.length_set]
 unfold fi at hk
 rw [Bool.or_eq_true, Bool.and_eq_true, Bool.and_eq_true] at hk
 rcases hk with ⟨h1, h2⟩ | ⟨h1, h2⟩
 ·obtain ⟨k, hk⟩ := Option.isSome_iff_exists.mp h1
  have := wN hk
  subst this
  have := xM r
  subst this
  rcases hH.hp _ _ hd with ⟨kvs, q, rd⟩ | ⟨kvs, q, rd⟩
  ·have s := iM (K := K) (φ := φ) (n := ph.length) (y := HO.dK (putK kvs k u)) ey my
   exact ⟨_, .inl (.inl ⟨kvs, k, q, rfl, by rw [<- rd.len]; exact hz, rfl⟩), hH.put hd rfl (.inl ⟨_, bw, (rd.put k rw).mono s⟩), s⟩
  ·obtain ⟨rfl, rfl⟩ := rd.yg h2
   have s := iM (K := K) (φ := φ) (n := ph.length) (y := HO.dK [(k, u)]) ey my
   exact ⟨_, .inr (.inr ⟨q, k, rfl, rfl⟩), hH.put hd rfl (.inl ⟨_, bw, ((bc.nil).put k rw).mono s⟩), s⟩
 ·obtain ⟨ks, hk⟩ := Option.isSome_iff_exists.mp h1
  have := Co hk
  subst this
  obtain ⟨b, rfl, hb⟩ := Dn r
  rcases hH.hp _ _ hd with ⟨kvs, q, rd⟩ | ⟨kvs, q, rd⟩
  ·obtain ⟨rfl, rfl⟩ := rd.y0 h2
   have s := iM (K := K) (φ := φ) (n := ph.length) (y := HO.dT [(ks, u)]) ey my
   exact ⟨_, .inr (.inl ⟨q, ks, b, rfl, hb, rfl⟩), hH.put hd rfl (.inr ⟨_, bw, ((bh.nil).put ks rw).mono s⟩), s⟩
  ·have s := iM (K := K) (φ := φ) (n := ph.length) (y := HO.dT (putK kvs ks u)) ey my
   exact ⟨_, .inl (.inr ⟨kvs, ks, b, q, rfl, hb, by rw [<- rd.len]; exact hz, rfl⟩), hH.put hd rfl (.inr ⟨_, bw, (rd.put ks rw).mono s⟩), s⟩
end
def cD : W -> W -> Po W := fun x y ph => match dB y ph with
 | some p => if fi p.2 x = true then some (.bl (bP p.2 x).isSome, ph) else none
 | none => gL x y ph
def ja : W -> W -> Po W := fun x y ph => match dB y ph with
 | some p => if fi p.2 x = true then some (.bl (!(bP p.2 x).isSome), ph) else none
 | none => uq x y ph
def aj : W -> W -> Po W := fun x y ph => match dB x ph with
 | some p => if fi p.2 y = true then (bP p.2 y).map fun w => (w, ph) else none
 | none => dF x y ph
def pV (o i v : W) : Po Unit := fun ph => match dB o ph with
 | some p => if fi p.2 i = true /\ p.2.length < sizeLine then some ((), ph.set p.1 (.aQ (cu p.2 i v))) else none
 | none => ye o i v ph
theorem i9.isSome {K : PySem.W.Frag} {φ : Nat -> Addr} {n : Nat} {H : Hp} {a : Option W} {b : Option V} (h : i9 K φ n H a b) : a.isSome = b.isSome := by
 cases a <;> cases b <;> first | rfl | exact h.elim
theorem W0 {K : PySem.W.Frag} : cf K (fun x y H Q => nX K (fun b => b) x y H Q \/ ∃ a o, y = .ref a /\ nI H a x o /\ Q (.bl o.isSome) H) cD := by
 intro φ ph H x y vx vy w ph' Q hH rx ry e k
 unfold cD at e
 split at e
 ·rename_i p hp
  obtain ⟨i, kws⟩ := p
  obtain ⟨rfl, hi, hd, rfl⟩ := fN hH ry hp
  split at e
  ·rename_i hk
   cases e
   obtain ⟨o, g, ro⟩ := oV hH hd rx hk
   exact .inr ⟨_, o, rfl, g, by rw [<- ro.isSome]; exact k φ H _ hH Step.refl (.bl _)⟩
  ·cases e
 ·exact .inl (WT hH rx ry e k)
theorem UT {K : PySem.W.Frag} : cf K (fun x y H Q => nX K (fun b => !b) x y H Q \/ ∃ a o, y = .ref a /\ nI H a x o /\ Q (.bl (!o.isSome)) H) ja := by
 intro φ ph H x y vx vy w ph' Q hH rx ry e k
 unfold ja at e
 split at e
 ·rename_i p hp
  obtain ⟨i, kws⟩ := p
  obtain ⟨rfl, hi, hd, rfl⟩ := fN hH ry hp
  split at e
  ·rename_i hk
   cases e
   obtain ⟨o, g, ro⟩ := oV hH hd rx hk
   exact .inr ⟨_, o, rfl, g, by rw [<- ro.isSome]; exact k φ H _ hH Step.refl (.bl _)⟩
  ·cases e
 ·exact .inl (UA hH rx ry e k)
theorem W2 {K : PySem.W.Frag} : cf K (fun x y H Q => yE K x y H Q \/ ∃ a v, x = .ref a /\ dh H a y (some v) /\ Q v H) aj := by
 intro φ ph H x y vx vy w ph' Q hH rx ry e k
 unfold aj at e
 split at e
 ·rename_i p hp
  obtain ⟨i, kws⟩ := p
  obtain ⟨rfl, hi, hd, rfl⟩ := fN hH rx hp
  split at e
  ·rename_i hk
   cases q : bP kws y with
   | none => rw [q] at e; cases e
   | some u =>
    rw [q] at e
    cases e
    obtain ⟨o, g, ro⟩ := oV hH hd ry hk
    rw [q] at ro
    cases o with
    | none => exact ro.elim
    | some v =>
     rcases g with g | ⟨z, _⟩
     ·exact .inr ⟨_, v, rfl, g, k φ H _ hH Step.refl ro⟩
     ·cases z
  ·cases e
 ·exact .inl (WO hH rx ry e k)
section
variable {X : Cx} {a b o i : Expr} {ma mb mo mi : EM} {pos : Pos} {N : List Str} {sc : Scope} {k : Nat}
theorem dQ.UU (B : dQ X N sc k) (hp : wH b) (ha : JE X a ma) (hb : JE X b mb) : JE X (.Subscript a b pos) (ae aj ma mb) :=
 ⟨PE.imp (WB (ie.or TZ (R4 (px B.room))) ha.h hb.h hp) fun _ _ _ h => tE W2 h⟩
theorem dQ.jV (B : dQ X N sc k) (h : behindInMarks .In b = false) : Cp X .In b cD := ⟨⟨_, bG.or (Uz B.room.units) (US (px B.room)), W0⟩, h⟩
theorem dQ.W3 (B : dQ X N sc k) (h : behindInMarks .NotIn b = false) : Cp X .NotIn b ja := ⟨⟨_, bG.or (RN B.room.units) (R3 (px B.room)), UT⟩, h⟩
theorem jP.or {t t' : pM} (h : jP X t) (h' : jP X t') : jP X (fun o i v H Q => t o i v H Q \/ t' o i v H Q) := by
 intro pins s σ H o i v ov iv u Q I ro ri rv q
 rcases q with q | q
 ·exact h pins s σ H o i v ov iv u Q I ro ri rv q
 ·exact h' pins s σ H o i v ov iv u Q I ro ri rv q
def iX (o i : EM) : GM := fun v σ => ap (o σ) fun ow => ap (i σ) fun iw => ap (lift (pV ow iw v)) fun _ => aw σ
theorem dQ.wO (B : dQ X N sc k) (ho : JE X o mo) (hi : JE X i mi) (ha : ∀ v, assign (.Subscript o i pos) X.env v = (do
   let ov <- holding [v] (eval o X.env)
   let iv <- holding [v, ov] (eval i X.env)
   standAt pos
   holding [v, ov, iv] (setItem ov iv v)
   release [v, ov, iv] []) := by intro _; rfl) : JG X (.Subscript o i pos) (iX mo mi) :=
 ⟨PG.imp (C3 ho.h hi.h (jP.or set_list (set_dict (px B.room))) ha) fun v σ H Q h => by
  obtain ⟨φ, ph, ws, w, hH, hS, rv, h⟩ := h
  refine tM.bind hH hS h fun ow ph1 au H1 vo aD s1 ro h => tM.bind aD (hS.mono s1) h fun iw ph2 aS H2 vi aY s2 ri h => ?_
  rw [cq] at h
  obtain ⟨_, dm, e, k⟩ := run_lift h
  have uU := ro.mono s2
  have oo := (rv.mono s1).mono s2
  unfold pV at e
  split at e
  ·rename_i p hp
   obtain ⟨r, kws⟩ := p
   obtain ⟨rfl, hr, hd, rfl⟩ := fN aY uU hp
   split at e
   ·rename_i hk
    cases e
    obtain ⟨H', g, q1, q2⟩ := BG aY hr hd ri oo hk.1 hk.2
    exact .inr ⟨_, H', rfl, g, k aS _ σ q1 ((s1.trans s2).trans q2) (((hS.mono s1).mono s2).mono q2)⟩
   ·cases e
  ·unfold ye at e
   split at e
   ·rename_i r k'
    split at e
    ·rename_i ws' hw
     split at e
     ·rename_i j hj
      cases e
      cases uU with
      | ref cS =>
       cases ri
       obtain ⟨us, hu, ru⟩ := aY.hp _ _ hw
       obtain ⟨q1, q2⟩ := sX aY hw (ru.set oo j)
       exact .inl ⟨_, us, _, j, rfl, rfl, hu, by rw [<- ru.length]; exact hj, k aS _ σ q1 ((s1.trans s2).trans q2) (((hS.mono s1).mono s2).mono q2)⟩
     ·cases e
    ·cases e
   ·cases e⟩
end
def uz : W -> Option Int
 | .int i => some i
 | _ => none
def nJ (w : W) (ph : PH) : Option (List Int) := if cL w ph = true then (bR w ph).bind (bf uz) else none
def nK (f : Nat -> Int) : Nat -> Int
 | 0 => f 0
 | k + 1 => if f (k + 1) < nK f k then f (k + 1) else nK f k
def iY (f : Nat -> Int) : Nat -> Int
 | 0 => f 0
 | k + 1 => if iY f k < f (k + 1) then f (k + 1) else iY f k
def Yu (ns : List Int) : Int := nK (fun i => ns.getD i 0) (ns.length - 1)
def jb (ns : List Int) : Int := iY (fun i => ns.getD i 0) (ns.length - 1)
def aai : List W -> Po W := fun xs ph => match xs with
 | [w] => match nJ w ph with
  | some ns => if ns = [] then none else some (.int (Yu ns), ph)
  | none => none
 | _ => none
def nL : List W -> Po W := fun xs ph => match xs with
 | [w] => match nJ w ph with
  | some ns => if ns = [] then none else some (.int (jb ns), ph)
  | none => none
 | _ => none
section
variable {X : Cx}
theorem Qc (f : Nat -> Int) : ∀ k, f (argBest (fun i j => decide (f i < f j)) k) = nK f k
 | 0 => rfl
 | k + 1 => by
  have ih := Qc f k
  unfold argBest nK
  rw [ih]
  by_cases h : f (k + 1) < nK f k
  ·simp [h]
  ·simp [h, ih]
theorem BH (f : Nat -> Int) : ∀ k, f (argBest (fun i j => decide (f i > f j)) k) = iY f k
 | 0 => rfl
 | k + 1 => by
  have ih := BH f k
  unfold argBest iY
  rw [ih]
  by_cases h : iY f k < f (k + 1)
  ·simp [h]
  ·simp [h, ih]
theorem Oc (hc : X.calm = true) : cs X (.builtin "max") (fun xs H Q => ∃ p, ∃ ns : List Int, xs = [.ref p] /\ bb X.K H p (ns.map V.int) /\ ns ≠ [] /\ Q (.int (jb ns)) H) := by
 intro pins s σ H xs us Q I r h
 obtain ⟨p, ns, rfl, hq, dP, q⟩ := h
 obtain ⟨u, rfl, rx⟩ := vals1 r
 cases rx
 obtain ⟨its, r', pl, hz⟩ := I.list hq
 have bz := r'.length
 rw [List.length_map] at bz
 have Yv : 0 < ns.length := List.length_pos_iff.mpr dP
 have cS : p < s.heap.objs.size := by obtain ⟨_, e, _⟩ := pl.isList; exact Heap.lt_size e
 have val : ∀ (i : Nat) v, its.toArray[i]? = some v -> ∃ t, v = .int (ns.getD i 0) t := fun i v hP => by
  have hP : its[i]? = some v := by simpa using hP
  have hi : i < ns.length := by rw [bz]; exact (List.getElem?_eq_some_iff.mp hP).1
  obtain ⟨u, hu, ru⟩ := r'.get (i := i) (x := .int ns[i]) (by simp [hi])
  rw [hP] at hu; cases hu
  obtain ⟨t, e⟩ := (show ∃ t, v = Value.int ns[i] t from ru)
  exact ⟨t, by rw [e]; simp [hi]⟩
 refine call_max_walk (wpAny_pyIter_list pl.isList ?_)
 refine ⟨s.heap.objs.size, [s.heap.objs.size, p], [s.heap.objs.size], its.toArray.size, _, _, _, rfl, Walks.list (A := X.A.in1) (I.ok.hd hc) _ p (Nat.ne_of_lt cS) its.toArray,
  ⟨⟨_, Heap.get?_push_size _ rfl, rfl, rfl⟩, pl.isList.push _⟩, fun b hb => ?_, by rw [List.size_toArray, <- bz]; exact Yv, CmpOf.ints_gt (fun i => ns.getD i 0) val, fun v h' tk hP hk => ?_⟩
 ·show b < (s.heap.push _).objs.size
  rw [Heap.size_push]
  rcases List.mem_cons.mp hb with rfl | hb
  ·exact Nat.lt_succ_self _
  ·have : b = p := by simpa using hb
   rw [this]
   exact Nat.lt_succ_of_lt cS
 ·obtain ⟨t, rfl⟩ := val _ v hP
  refine ⟨.int (jb ns), H, I.kept (wg hk), ⟨t, ?_⟩, q⟩
  have := BH (fun i => ns.getD i 0) (its.toArray.size - 1)
  rw [this, List.size_toArray, <- bz]; rfl
theorem wj {K : PySem.W.Frag} {φ : Nat -> Addr} {n : Nat} {H : Hp} : ∀ {ws : List W} {vs : List V} {ns : List Int}, aK K φ n H ws vs -> bf uz ws = some ns -> vs = ns.map V.int
 | _, _, _, .nil, e => by cases e; rfl
 | w :: ws, _, bs, .cons h r, e => by
  unfold bf at e
  split at e
  ·rename_i b yO e1 e2
   cases e
   have q := wj r e2
   unfold uz at e1
   cases h <;> cases e1
   rw [q]; rfl
  ·cases e
theorem O6 {K : PySem.W.Frag} {φ : Nat -> Addr} {ph : PH} {H : Hp} {w : W} {v : V} {ns : List Int} (hH : ax K φ ph H) (r : ay K φ ph.length H w v) (e : nJ w ph = some ns) : ∃ p, v = .ref p /\ bb K H p (ns.map V.int) := by
 unfold nJ at e
 split at e
 ·rename_i hL
  cases r with
  | ref hi =>
   unfold cL at hL
   simp only at hL
   split at hL
   ·rename_i ws hw
    obtain ⟨vs, hv, rs⟩ := hH.hp _ _ hw
    simp only [bR, hw, Option.bind_some] at e
    rw [wj rs e] at hv
    exact ⟨_, rfl, bb.of hv⟩
   ·cases hL
  | fl h rs =>
   simp only [bR, Option.bind_some] at e
   have q := wj rs e
   subst q
   exact ⟨_, rfl, h.sq⟩
  | _ => cases hL
 ·cases e
theorem R5 {K : PySem.W.Frag} : fx K (fun xs H Q => ∃ p, ∃ ns : List Int, xs = [.ref p] /\ bb K H p (ns.map V.int) /\ ns ≠ [] /\ Q (.int (jb ns)) H) nL := by
 intro φ ph H xs vs w ph' Q hH r e k
 unfold nL at e
 split at e
 ·rename_i x
  split at e
  ·rename_i ns q
   split at e
   ·cases e
   ·rename_i dP
    cases e
    cases r with
    | cons r r' =>
     cases r'
     obtain ⟨p, rfl, hs⟩ := O6 hH r q
     exact ⟨p, ns, rfl, hs, dP, k φ H _ hH Step.refl (.int _)⟩
  ·cases e
 ·cases e
end
def EG : W -> W -> Po W := fun x y ph => match x, y with
 | .ref i, .int k => match ph[i]? with
  | some (.lst ws) => if -(2 ^ 63) <= k /\ k < 2 ^ 63 /\ ws.length * k.toNat <= sizeLine then some (.ref ph.length, ph ++ [.lst (List.replicate k.toNat ws).flatten]) else none
  | _ => none
 | x, y => fD x y ph
theorem aK.rep {K : PySem.W.Frag} {φ : Nat -> Addr} {n : Nat} {H : Hp} {ws : List W} {vs : List V} (r : aK K φ n H ws vs) : ∀ k : Nat, aK K φ n H (List.replicate k ws).flatten (List.replicate k vs).flatten
 | 0 => .nil
 | k + 1 => by
  rw [List.replicate_succ, List.replicate_succ, List.flatten_cons, List.flatten_cons]
  exact r.append (aK.rep r k)
section
variable {prog : Program} {w : World} {A : Around} {E : Value -> Shared -> Prop} {s : Shared} {a : Addr}
theorem Mv : typeLookup (.type "list") "keys" = pure none := am_miss_of_fast (by decide +kernel)
theorem R6 {o : Obj} {xs : Array Value} {k : Nat} {Q : Option Value -> Shared -> Prop} (hx : s.heap.get? a = some o) (hc : o.cls = .type "list") (pW : o.data = .seq xs k) (hd : o.dict = none) (hA : A.handled = none)
  (h : ∀ h' tk, (∀ b ob, s.heap.get? b = some ob -> h'.get? b = some ob) -> Q none { s with heap := h', toks := tk }) : wpAny (model prog w) A (getAttr? (.ref a) "keys") Q E s := by
 obtain ⟨c, aQ, dat, sl⟩ := o
 simp only at hc pW hd
 subst hc pW hd
 obtain ⟨hp, g, d, tk, os⟩ := s
 have hT : ∀ Fu, (⟨hp, g, d, Fu, os⟩ : Shared).TypeIs (.ref a) "list" := fun _ => ⟨_, hx, rfl⟩
 have f1 := sub_AttributeError
 have f3 := F.slot_list_getattribute.lookup
 have f4 := F.slot_list_getattribute.bind (.ref a)
 have f5 := am_list_getattr_none
 unfold getAttr? getAttrBy? getAttrBy
 repeat (any_goals (first | assumption | exact hT _ | ((with_reducible show wpAny _ _ (call (Value.builtin "list.__getattribute__") _ _) _ _ _); refine call_meets F.slot_list_getattribute (hT _) am_entry_list_getattribute (F.args_list_getattribute_2 _ _) (meets_getattribute_miss_list a xs k sl "keys" _ Mv (by decide)) ⟨hx, hA, fun h' Fu e jn => ?_⟩) | wp_step))
 obtain ⟨t', u', he⟩ := jn.there
 show wpAny _ _ (getattributeRaised _ _ _ _ _ _ _) _ _ _
 unfold getattributeRaised
 repeat (any_goals (first | assumption | wp_step))
 exact h _ _ jn.keeps
end
def tZ (d : Addr) : Hp -> List (V × V) -> Hp -> Prop
 | H, [], H' => H' = H
 | H, p :: r, H' => ∃ H1, iW H d p.1 p.2 H1 /\ tZ d H1 r H'
abbrev xr (H : Hp) : List V -> List (V × V) -> Prop := Paired fun v p => ∃ T, v = .ref T /\ H T = some (.tup [p.1, p.2])
theorem iW.other {H H' : Hp} {a b : Addr} {y v : V} (h : iW H a y v H') (hb : b ≠ a) : H' b = H b := by
 rcases h with (⟨_, _, _, _, _, e⟩ | ⟨_, _, _, _, _, _, _, e⟩) | ⟨_, _, _, _, _, e⟩ | ⟨_, _, _, e⟩ <;> rw [e, aM hb]
theorem iW.dict {H H' : Hp} {a : Addr} {y v : V} (h : iW H a y v H') : (∃ kvs, H a = some (.dK kvs)) \/ ∃ kvs, H a = some (.dT kvs) := by
 rcases h with (⟨_, _, e, _⟩ | ⟨_, _, _, e, _⟩) | ⟨e, _⟩ | ⟨e, _⟩
 ·exact .inl ⟨_, e⟩
 ·exact .inr ⟨_, e⟩
 ·exact .inl ⟨_, e⟩
 ·exact .inr ⟨_, e⟩
theorem iW.ne {H H' : Hp} {a b : Addr} {y v : V} {o : HO} (h : iW H a y v H') (hb : H b = some o) (h1 : ∀ kvs, o ≠ .dK kvs) (h2 : ∀ kvs, o ≠ .dT kvs) : b ≠ a := by
 rcases h.dict with ⟨kvs, e⟩ | ⟨kvs, e⟩
 ·exact cY hb e (h1 _)
 ·exact cY hb e (h2 _)
section
variable {X : Cx} {pins : List (Addr × Obj)} {σ : L2.St} {H : Hp} {s : Shared} {a : Addr} {y v : V} {u r : Value} {A : Around} {E : Value -> Shared -> Prop}
theorem xN {H' : Hp} {Q : Unit -> Shared -> Prop} (hu : A.units < cLine) (I : Inv X pins σ H s) (g : hV H a y v H') (ry : RelV y u) (rv : RelV v r)
  (h : ∀ h' t, Inv X pins σ H' { s with heap := h', toks := t } -> Heap.SameBut a s.heap h' -> Q () { s with heap := h', toks := t }) : wpAny (model X.prog X.w) A (dictSet a u r) Q E s := by
 rcases g with ⟨kvs, k, e, ey, l, eH⟩ | ⟨kvs, k, b, e, ey, eb, l, eH⟩
 ·subst ey eH
  obtain ⟨z, hd, vs, rel, dd⟩ := nG I.aF e
  have hz : vs.length <= sizeLine := by rw [<- rel.length]; exact z
  have hl : (putK kvs k v).length <= sizeLine := by have := sg kvs k v; omega
  refine wpAny_dictSet_pairs (hsz := hz) (kS ry) dd fun h' ke hs => h _ _ ?_ hs
  have he : ∃ q, h'.get? a = some q := let ⟨q, _, _, hq, _⟩ := ke; ⟨q, hq⟩
  exact nj I (by rw [e]; exact True.intro) hs he (C8 hl hd (rel.put k rv) ke)
 ·subst ey eH
  cases (show u = Value.ref b from ry)
  obtain ⟨z, hd, xs, rel, dd⟩ := nH I.aF e
  have hz : xs.length <= sizeLine := by rw [<- Paired.length rel]; exact z
  have hl : (putK kvs k v).length <= sizeLine := by have := sg kvs k v; omega
  refine wpAny_dictSet_heap (hsz := hz) hu (kQ I.aF eb) dd fun h' ke hs => h _ _ ?_ hs
  obtain ⟨q, es, ep, hq, h2, h3, h4, _, h5⟩ := ke
  refine nj I (by rw [e]; exact True.intro) hs ⟨q, hq⟩ ⟨hl, hd, _, (rel.put k eb rv).keeps fun c ys ec => ?_, q, es, ep, hq, h2, h3, h4, h5⟩
  rw [aM (cY ec e (fun z => nomatch z))]
  exact ec
theorem UV {H' : Hp} {Q : Unit -> Shared -> Prop} (hu : A.units < cLine) (I : Inv X pins σ H s) (g : iW H a y v H') (ry : RelV y u) (rv : RelV v r)
  (h : ∀ h' t, Inv X pins σ H' { s with heap := h', toks := t } -> Heap.SameBut a s.heap h' -> Q () { s with heap := h', toks := t }) : wpAny (model X.prog X.w) A (dictSet a u r) Q E s := by
 rcases g with g | ⟨e, k, b, ey, eb, eH⟩ | ⟨e, k, ey, eH⟩
 ·exact xN hu I g ry rv h
 ·subst ey eH
  have g : hV (upd H a (.dT [])) a (.ref b) v (upd (upd H a (.dT [])) a (.dT (putK [] k v))) := .inr ⟨[], k, b, bw, rfl, by rw [aM (cY eb e (fun z => nomatch z))]; exact eb, by decide, rfl⟩
  refine xN hu (gX I e) g ry rv fun h' t I3 hs => h h' t ?_ hs
  rw [o4] at I3
  exact I3
 ·subst ey eH
  have g : hV (upd H a (.dK [])) a (kV k) v (upd (upd H a (.dK [])) a (.dK (putK [] k v))) := .inl ⟨[], k, bw, rfl, by decide, rfl⟩
  refine xN hu (gY I e) g ry rv fun h' t I3 hs => h h' t ?_ hs
  rw [o4] at I3
  exact I3
end
theorem z6 : entryFor table "dict.update.loop" = some Builtin.«dict.update.loop» := entryFor_of_tree (by kernel_rfl)
theorem rj : plainId "dict.update.loop" = true := by decide +kernel
section
variable {X : Cx} {pins : List (Addr × Obj)} {σ : L2.St} {A : Around} {R : Result -> Shared -> Prop}
theorem Cq {H : Hp} {s : Shared} {h' : Heap} {it : Addr} (I : Inv X pins σ H s) (k : ∀ b u, b ≠ it -> s.heap.get? b = some u -> h'.get? b = some u) (hf : fB X pins H it) : Inv X pins σ H { s with heap := h' } :=
 Cn (s := s) (h' := h') (t' := s.toks) (fp := [it]) I (fun b o hb q => k b o (fun z => hb (by simp [z])) q) (fun b hb => by
  have : b = it := by simpa using hb
  subst this
  exact hf)
theorem pair_items {T : Addr} {ot : Obj} {uk uv : Value} {nt : Nat} {s : Shared} {E : Value -> Shared -> Prop} {Q : List Value -> Shared -> Prop} (uV : s.heap.get? T = some ot) (y1 : ot.cls = .type "tuple") (dR : ot.data = .seq #[uk, uv] nt) (h : Q [uk, uv] s) :
  wpAny (model X.prog X.w) A (Builtin.Dict.pairItems (.ref T)) Q E s := by
 unfold Builtin.Dict.pairItems
 refine wpAny_bind (wpAny_typeOf (T := "tuple") ⟨_, uV, y1⟩ ?_)
 rw [if_pos (by decide)]
 exact wpAny_bind (wpAny_seqItems uV dR (wpAny_pure h))
theorem Bi (hA : A.handled = none) (hu : A.units + 1 < cLine) {d it l : Addr} {xs : List V} : ∀ (ps : List (V × V)) (i : Nat) (t : Tok) (s : Shared) (H H' : Hp), Inv X pins σ H s -> H l = some (.lst xs) -> fB X pins H it -> it ≠ d -> s.heap.IsListIter it l i →
  xr H (xs.drop i) ps -> tZ d H ps H' -> (∀ s', Inv X pins σ H' s' -> R (.ok (.ret .none)) s') -> codeAny (model X.prog X.w) A (.builtin "dict.update.loop" ⟨[.ref d, .ref it, .int (i : Int) t, .none], []⟩) R s
 | [], i, t, s, H, H', I, hl, hf, dP, hit, hp, hF, k => by
  obtain rfl : H' = H := hF
  obtain ⟨its, rv, pl, hz⟩ := I.list (bb.of hl)
  have hd : xs.drop i = [] := by
   generalize xs.drop i = z at hp
   cases hp; rfl
  have hge : xs.length <= i := by simpa using hd
  refine codeAny_builtin z6 ?_
  rw [Around.under_plainId rj _]
  show wpAny _ A.in1 (pyNext (.ref it) >>= _) _ _ s
  refine wpAny_bind (wpAny_pyNext_list_end (A := A.in1) hA hit pl.isList (by have := rv.length; simp; omega) fun h' eb => ?_)
  show wpAny _ A.in1 (Builtin.Dict.addKeywords d [] >>= fun _ => PySem.ret Value.none) _ _ _
  refine wpAny_bind (wpAny_pure ?_)
  refine wpAny_pure (k _ ?_)
  exact Cq I (fun b o hb q => eb b o hb q) hf
 | p :: ps, i, t, s, H, H', I, hl, hf, dP, hit, hp, hF, k => by
  obtain ⟨H1, n0, hF⟩ := hF
  obtain ⟨its, rv, pl, hz⟩ := I.list (bb.of hl)
  cases hd : xs.drop i with
  | nil => rw [hd] at hp; cases hp
  | cons x ys =>
   rw [hd] at hp
   cases hp with
   | cons hx hp =>
    obtain ⟨T, rfl, hT⟩ := hx
    have ZX : xs[i]? = some (.ref T) := by
     have := congrArg (fun l => l[0]?) hd
     simpa using this
    have ZY : xs.drop (i + 1) = ys := by
     have := congrArg (fun l => l.drop 1) hd
     simpa [List.drop_drop, Nat.add_comm] using this
    obtain ⟨u, uW, ru⟩ := rv.get ZX
    obtain rfl : u = Value.ref T := ru
    refine codeAny_builtin z6 ?_
    rw [Around.under_plainId rj _]
    show wpAny _ A.in1 (pyNext (.ref it) >>= _) _ _ s
    refine wpAny_bind (wpAny_pyNext_list_item hit pl.isList (x := .ref T) (by simpa using uW) fun h1 Yw ZZ => ?_)
    have I1 : Inv X pins σ H { s with heap := h1 } := Cq I (fun b o hb q => ZZ.extBut b o hb q) hf
    obtain ⟨dg, qA, pt, _⟩ := I1.tuple (ce.of hT)
    obtain ⟨uk, uv, e2, rk, Z0⟩ := Vals.two qA
    subst e2
    obtain ⟨ot, uV, y1, nt, dR⟩ := pt
    have yh : it ≠ d := dP
    simp only []
    refine wpAny_bind (wpAny_holding (wpAny_bind (wpAny_tryCatch (pair_items uV y1 dR ?_))))
    simp only []
    refine wpAny_holding (UV hu I1 n0 rk Z0 fun h2 t2 I2 d5 => ?_)
    refine wpAny_pure ⟨plainId_quiet rj _, ?_⟩
    have Z1 : l ≠ d := n0.ne hl (fun _ z => nomatch z) (fun _ z => nomatch z)
    refine Bi hA hu ps (i + 1) 0 _ H1 H' I2 (by rw [n0.other Z1]; exact hl) ⟨by rw [n0.other yh]; exact hf.1, hf.2⟩ yh (Yw.at fun o q => (d5.2 it yh).trans q) ?_ hF k
    rw [ZY]
    exact Paired.i4 hp fun _ _ ⟨T', e1, e2⟩ => ⟨T', e1, by rw [n0.other (n0.ne e2 (fun _ z => nomatch z) (fun _ z => nomatch z))]; exact e2⟩
end
def D1 : List V -> Hp -> VK -> Prop := fun xs H Q => ∃ l vs ps, xs = [.ref l] /\ H l = some (.lst vs) /\ xr H vs ps /\ ∀ d, H d = none -> ∃ H', tZ d (upd H d (.dK [])) ps H' /\ Q (.ref d) H'
section
variable {X : Cx}
theorem O7 (hc : X.calm = true) (hu : X.A.units + 64 < cLine) : cs X (.type "dict") D1 := by
 intro pins s σ H xs us Q I r h
 obtain ⟨l, vs, ps, rfl, hl, hp, h⟩ := h
 obtain ⟨u, rfl, rx⟩ := vals1 r
 obtain rfl : u = Value.ref l := rx
 have hA : X.A.handled = none := I.ok.hd hc
 have hn := I.aF.fresh (Nat.le_refl s.heap.objs.size)
 obtain ⟨H', hF, hq⟩ := h s.heap.objs.size hn
 refine callType_codes (Q₁ := fun obj bA => obj = .ref s.heap.objs.size /\ bA = { s with heap := s.heap.push { cls := .type "dict", data := .dict #[] } }) F.kt_called_dict (F.kt_typeCall_dict_1 _) F.entry_dict_init (kt_code_dict_new _ ⟨rfl, rfl⟩) ?_
 rintro obj bA ⟨rfl, rfl⟩
 have yi : (s.heap.push { cls := .type "dict", data := .dict #[] }).DictOf (bi X.prog X.w) s.heap.objs.size [] := Heap.DictOf.new s.heap
 have Yx : (s.heap.objs.size == sysModules) = false := beq_eq_false_iff_ne.mpr (Nat.ne_of_gt I.big)
 have I1 : Inv X pins σ (upd H s.heap.objs.size (.dK [])) { s with heap := s.heap.push { cls := .type "dict", data := .dict #[] } } :=
  I.laid (t' := s.toks) (fun b u q => Heap.get?_push_of_some _ q) (Nat.le_refl _) ⟨Nat.zero_le _, Yx, [], .nil, yi⟩
 refine ⟨yi.typeIs, F.args_dict_init_2 _ _, ?_⟩
 have Z2 : l ≠ s.heap.objs.size := dH hl hn
 have fZ : upd H s.heap.objs.size (.dK []) l = some (.lst vs) := by rw [aM Z2]; exact hl
 obtain ⟨its, rv, pl, hz⟩ := I1.list (bb.of fZ)
 unfold Builtin.«dict.__init__»
 refine wpAny_bind ?_
 unfold Builtin.Dict.selfAndRest
 refine wpAny_bind (wpAny_notOrdered_dict yi.typeIs ?_)
 show wpAny _ _ (pure (s.heap.objs.size, [Value.ref l])) _ _ _
 refine wpAny_pure ?_
 show wpAny _ _ (Builtin.Dict.updateFrom "dict.__init__" s.heap.objs.size (.ref l) [] .none) _ _ _
 unfold Builtin.Dict.updateFrom
 obtain ⟨ol, Z3, ip, n, hdl⟩ := pl.isList
 have hT : ({ s with heap := s.heap.push { cls := .type "dict", data := .dict #[] } } : Shared).TypeIs (.ref l) "list" := ⟨_, Z3, ip⟩
 refine wpAny_bind (wpAny_typeOf hT ?_)
 rw [if_pos (by decide)]
 obtain ⟨oq, nq, Z4, Z5, Z6, Z7⟩ := pl
 refine wpAny_bind ((R6 (A := X.A.in1.in1) Z4 Z5 Z7 Z6 hA fun h1 t1 k1 => ?_))
 simp only [Option.isNone_none, if_true]
 refine wpAny_bind (wpAny_rule ?_)
 have I2 : Inv X pins σ (upd H s.heap.objs.size (.dK [])) { s with heap := h1, toks := t1 } := I1.kept (t' := t1) k1
 obtain ⟨dg, qA, y3, hz2⟩ := I2.list (bb.of fZ)
 refine wpAny_bind (wpAny_pyIter_list y3.isList ?_)
 refine wpAny_pure ⟨plainId_quiet rj _, ?_⟩
 have hd : s.heap.objs.size < h1.objs.size := Heap.lt_size (k1 _ _ (Heap.get?_push_size _ rfl))
 have I3 : Inv X pins σ (upd H s.heap.objs.size (.dK [])) { s with heap := h1.push { cls := .type "list_iterator", data := .fields #[.ref l, .int 0 0] }, toks := t1 } := I2.kept (t' := t1) fun b u q => Heap.get?_push_of_some _ q
 refine Bi (X := X) (pins := pins) (σ := σ) (A := X.A.in1) hA (by show X.A.units + 1 + 1 < cLine; omega) ps 0 0 _ _ H' I3 fZ (I2.pN (Nat.le_refl _) (I2.aF.fresh (Nat.le_refl _))) (Nat.ne_of_gt hd) ⟨_, Heap.get?_push_size _ rfl, rfl, rfl⟩ ?_ hF fun s' I' => ?_
 ·exact Paired.i4 hp fun _ _ ⟨T', e1, e2⟩ => ⟨T', e1, by rw [aM (dH e2 hn)]; exact e2⟩
 ·exact ⟨rfl, .ref s.heap.objs.size, H', I', rfl, hq⟩
end
def kU : List (W × W) -> List (W × W) -> Option (List (W × W))
 | d, [] => some d
 | d, p :: r => if fi d p.1 = true /\ d.length < sizeLine then kU (cu d p.1 p.2) r else none
def nM : W -> Option (W × W)
 | .tup [a, b] => some (a, b)
 | _ => none
def pE : List W -> Po W := fun xs ph => match xs with
 | [.ref i] => match ph[i]? with
  | some (.lst ws) => match bf nM ws with
   | some ps => match kU [] ps with
    | some d => some (.ref ph.length, ph ++ [.aQ d])
    | none => none
   | none => none
  | _ => none
 | _ => none
abbrev D3 (K : PySem.W.Frag) (φ : Nat -> Addr) (n : Nat) (H : Hp) : List (W × W) -> List (V × V) -> Prop := Paired fun p q => ay K φ n H p.1 q.1 /\ ay K φ n H p.2 q.2
theorem BI {K : PySem.W.Frag} {φ : Nat -> Addr} {i : Nat} : ∀ {ps : List (W × W)} {qs : List (V × V)} {ph : PH} {H : Hp} {d d' : List (W × W)}, ax K φ ph H -> i < ph.length -> ph[i]? = some (.aQ d) -> D3 K φ ph.length H ps qs -> kU d ps = some d' →
  ∃ H', tZ (φ i) H qs H' /\ ax K φ (ph.set i (.aQ d')) H' /\ Step K φ ph.length H φ ph.length H'
 | [], qs, ph, H, d, d', hH, hi, hd, hr, e => by
  cases hr
  cases e
  refine ⟨H, rfl, ?_, Step.refl⟩
  have : ph.set i (.aQ d) = ph := by
   apply List.ext_getElem?
   intro j
   by_cases hj : i = j
   ·subst hj; rw [List.getElem?_set_self hi, hd]
   ·rw [List.getElem?_set_ne hj]
  rw [this]; exact hH
 | p :: ps, qs, ph, H, d, d', hH, hi, hd, hr, e => by
  cases hr with
  | cons h r =>
   unfold kU at e
   split at e
   ·rename_i hk
    obtain ⟨H1, hp, aD, s1⟩ := BG hH hi hd h.1 h.2 hk.1 hk.2
    rw [List.length_set] at s1
    have hl : (ph.set i (.aQ (cu d p.1 p.2))).length = ph.length := List.length_set ..
    obtain ⟨H2, hF, aY, s2⟩ := BI (ph := ph.set i (.aQ (cu d p.1 p.2))) aD (by rw [hl]; exact hi) (List.getElem?_set_self hi) (by rw [hl]; exact Paired.i4 r fun _ _ z => ⟨z.1.mono s1, z.2.mono s1⟩) e
    rw [hl] at s2
    rw [List.set_set] at aY
    exact ⟨H2, ⟨H1, hp, hF⟩, aY, s1.trans s2⟩
   ·cases e
theorem Bj {K : PySem.W.Frag} {φ : Nat -> Addr} {n : Nat} {H : Hp} : ∀ {ws : List W} {vs : List V} {ps : List (W × W)}, aK K φ n H ws vs -> bf nM ws = some ps -> ∃ qs, xr H vs qs /\ D3 K φ n H ps qs
  | _, _, ps, .nil, e => by cases e; exact ⟨[], .nil, .nil⟩
  | _, _, ps, .cons h r, e => by
    unfold bf at e
    split at e
    · rename_i b bs e1 e2
      cases e
      obtain ⟨qs, h1, h2⟩ := Bj r e2
      unfold nM at e1
      split at e1
      · cases e1
        cases h with
        | tup hT rt =>
          cases rt with
          | cons ra rt =>
            cases rt with
            | cons rb rt =>
              cases rt
              exact ⟨(_, _) :: qs, .cons ⟨_, rfl, hT⟩ h1, .cons ⟨ra, rb⟩ h2⟩
      · cases e1
    · cases e
theorem R7 {K : PySem.W.Frag} : fx K D1 pE := by
 intro φ ph H xs vs w ph' Q hH r e k
 unfold pE at e
 split at e
 ·rename_i i
  split at e
  ·rename_i ws hw
   split at e
   ·rename_i ps uX
    split at e
    ·rename_i d hd
     cases e
     cases r with
     | cons r rr =>
      cases rr
      cases r with
      | ref hi =>
       obtain ⟨us, hu, ru⟩ := hH.hp _ _ hw
       obtain ⟨qs, h1, h2⟩ := Bj ru uX
       refine ⟨_, us, qs, rfl, hu, h1, fun p hp => ?_⟩
       obtain ⟨q1, q2, q3⟩ := BE hH hp
       have hl : (ph ++ [PO.aQ []]).length = ph.length + 1 := by simp
       obtain ⟨H', hF, uY, s'⟩ := BI (i := ph.length) (d := []) q1 (by rw [hl]; exact Nat.lt_succ_self _) (by simp) (Paired.i4 h2 fun _ _ z => ⟨z.1.mono q2, z.2.mono q2⟩) hd
       have he : (ph ++ [PO.aQ []]).set ph.length (.aQ d) = ph ++ [.aQ d] := by simp
       have fY : (ph ++ [PO.aQ d]).length = (ph ++ [PO.aQ []]).length := by simp
       rw [he] at uY
       rw [iQ] at hF
       refine ⟨H', hF, k _ H' _ uY (by rw [fY]; exact q2.trans s') (by rw [fY]; exact q3.mono s')⟩
    ·cases e
   ·cases e
  ·cases e
 ·cases e
section
variable {prog : Program} {w : World} {A : Around} {E : Value -> Shared -> Prop} {s : Shared} {d it v : Addr} {od : Obj} {es : Array DictEntry} {ep : Nat}
theorem O8 {Q : Value -> Shared -> Prop} (hd : (d == sysModules) = false) (ho : s.heap.get? d = some od) (hc : od.cls = .type "dict")
  (h : Q (.ref s.heap.objs.size) { s with heap := s.heap.push { cls := .type "dict_items", data := .fields #[.ref d] } }) : wpAny (model prog w) A (call (.builtin "dict.items") [.ref d]) Q E s := by
 have hT : s.TypeIs (.ref d) "dict" := ⟨_, ho, hc⟩
 refine wpAny_call_entry F.slot_dict_items hT F.entry_dict_items ?_ (F.args_dict_items_1 _)
 unfold Builtin.«dict.items» Builtin.Dict.noArgs
 refine wpAny_bind (wpAny_bind (wpAny_notOrdered_dict hT ?_))
 show wpAny _ _ (pure d) _ _ s
 refine wpAny_pure ?_
 show wpAny _ _ (Builtin.Dict.showsAll d >>= _) _ _ s
 unfold Builtin.Dict.showsAll
 rw [if_neg (by rw [hd]; exact Bool.false_ne_true)]
 exact wpAny_bind (wpAny_pure (wpAny_bind (wpAny_newObj_type (wpAny_pure ⟨_, rfl, h⟩))))
theorem Qd {Q : Value -> Shared -> Prop} (hv : s.heap.IsItemsView v d) (ho : s.heap.get? d = some od) (pW : od.data = .dict es ep)
  (hQ : Q (.ref s.heap.objs.size) { s with heap := s.heap.push { cls := .type "dict_itemiterator", data := .fields #[.none, .bool false, .ref d, .int 0 0, .int es.size 0, .int ep 0, .none, .none] } }) :
  wpAny (model prog w) A (pyIter (.ref v)) Q E s := by
 obtain ⟨ov, Z8, hcv, Z9⟩ := id hv
 refine wpAny_pyIter_slot hv.typeIs F.slot_dict_items_iter (wpAny_call_entry F.slot_dict_items_iter hv.typeIs F.entry_dict_items_iter ?_ (F.args_dict_items_iter_1 _))
 unfold Builtin.«dict_items.__iter__»
 refine wpAny_bind (wpAny_pure (wpAny_bind ?_))
 unfold Builtin.Dict_items.dictOf
 refine wpAny_bind (wpAny_field Z8 Z9 (x := .ref d) rfl (wpAny_pure (wpAny_bind ?_)))
 unfold Builtin.Dict_items.newIterator
 refine wpAny_bind (wpAny_dictEntries ho pW (wpAny_bind (wpAny_dictEpoch ho pW ?_)))
 have pX : Builtin.Dict_items.ownsTuple "dict_itemiterator" = true := by decide
 simp only [pX, if_true]
 refine wpAny_newObj_type (wpAny_pure ⟨_, rfl, "dict_itemiterator", _, ⟨_, Heap.get?_push_size _ rfl, rfl⟩, F.slot_dict_itemiterator_next.lookup, ?_⟩)
  (by simp only [sizeOk, Builtin.Dict_items.ownedTupleFields, List.size_toArray, List.length_append, List.length_cons, List.length_nil, sizeLine_eq]; omega)
 simpa [rawInt, Builtin.Dict_items.ownedTupleFields] using hQ
theorem Qe {i : Nat} {e : DictEntry} {ok ov : Value} {Q : Option Value -> Shared -> Prop} (hit : IsItemIter s.heap it d i es.size ep ok ov) (qB : s.heap.get? d = some od) (qC : od.data = .dict es ep) (hx : es[i]? = some e)
  (hQ : ∀ h', IsItemIterOut h' it d (i + 1) es.size ep e.key e.val s.heap.objs.size -> h'.get? s.heap.objs.size = some { cls := .type "tuple", data := .seq #[e.key, e.val] } →
   (∀ b o, b ≠ it -> s.heap.get? b = some o -> h'.get? b = some o) -> Q (some (.ref s.heap.objs.size)) { s with heap := h' }) : wpAny (model prog w) A (pyNext (.ref it)) Q E s := by
 obtain ⟨hp, g, dr, tk, os⟩ := s
 have hT : Shared.TypeIs ⟨hp, g, dr, tk, os⟩ (.ref it) "dict_itemiterator" := ⟨_, hit, rfl⟩
 obtain ⟨cS, he⟩ := Array.getElem?_eq_some_iff.mp hx
 unfold pyNext
 refine wpAny_bind (wpAny_attempt (wpAny_callSpecial?_slot (name := Str.ofString "__next__") hT F.slot_dict_itemiterator_next
  (wpAny_call_entry F.slot_dict_itemiterator_next hT F.entry_dict_itemiterator_next ?_ (F.args_dict_itemiterator_next_1 _))))
 refine wpAny_bind (wpAny_pure (wpAny_bind (wpAny_bind ?_)))
 refine wpAny_bind (wpAny_typeNameOfWhole_itemiter hT (wpAny_pure (wpAny_bind (wpAny_fieldsOf hit rfl ?_))))
 have pX : Builtin.Dict_items.ownsTuple "dict_itemiterator" = true := by decide
 simp only [pX, if_true]
 show wpAny _ _ (if (Value.ref d == Value.none) = true then _ else _) _ _ _
 rw [if_neg (show ¬ ((Value.ref d == Value.none) = true) from Bool.false_ne_true)]
 refine wpAny_bind (wpAny_pure (wpAny_bind (wpAny_dictEntries qB qC ?_)))
 rw [if_neg (by simp)]
 refine wpAny_bind (wpAny_pure (wpAny_bind (wpAny_dictEpoch qB qC ?_)))
 rw [if_neg (by simp)]
 refine wpAny_pure ?_
 simp only [show ¬ ((i : Int) < 0) from by omega, if_false, Int.toNat_natCast, hx]
 refine wpAny_bind ?_
 refine wpAny_bind (wpAny_typeNameOfWhole_itemiter hT (wpAny_pure (wpAny_bind (wpAny_isOneOf_itemiter hT ?_))))
 show wpAny _ _ (setField (.ref it) 3 (rawInt ((i : Int) + 1)) >>= _) _ _ ⟨hp, g, dr, tk, os⟩
 refine wpAny_bind (wpAny_setField_rec hit (by simp) fun dS qD qE => ?_)
 replace qE : Heap.SameBut it hp dS := qE
 replace qD : IsItemIter dS it d (i + 1) es.size ep ok ov := by
  have q : ((i + 1 : Nat) : Int) = (i : Int) + 1 := by omega
  unfold IsItemIter; rw [q]; simpa [rawInt] using qD
 have y4 : Shared.TypeIs ⟨dS, g, dr, tk, os⟩ (.ref it) "dict_itemiterator" := ⟨_, qD, rfl⟩
 refine wpAny_bind (wpAny_holding (wpAny_bind (wpAny_isOneOf_itemiter y4 (wpAny_bind (wpAny_isOneOf_itemiter y4 ?_)))))
 show wpAny _ _ (Builtin.Dict_items.pairFromOwner (.ref it) 6 e.key e.val) _ _ ⟨dS, g, dr, tk, os⟩
 unfold Builtin.Dict_items.pairFromOwner
 refine wpAny_bind (wpAny_newTuple ?_)
 have y6 : dS.objs.size = hp.objs.size := qE.1
 have y8 : it < hp.objs.size := Heap.lt_size hit
 have dP : hp.objs.size ≠ it := Nat.ne_of_gt y8
 have qF : IsItemIter (dS.push { cls := .type "tuple", data := .seq #[e.key, e.val] }) it d (i + 1) es.size ep ok ov := Heap.get?_push_of_some _ qD
 have Fv : (dS.push { cls := .type "tuple", data := .seq #[e.key, e.val] }).get? hp.objs.size = some { cls := .type "tuple", data := .seq #[e.key, e.val] } := by rw [<- y6]; exact Heap.get?_push_size _ rfl
 have Fw : ∀ b o, b ≠ it -> hp.get? b = some o -> (dS.push { cls := .type "tuple", data := .seq #[e.key, e.val] }).get? b = some o := fun b o hb q => Heap.get?_push_of_some _ (qE.extBut b o hb q)
 show wpAny _ _ (Builtin.Dict_items.ownedTupleIsFree (.ref it) >>= _) _ _ ⟨dS.push { cls := .type "tuple", data := .seq #[e.key, e.val] }, g, dr, tk, os⟩
 generalize dS.push { cls := .type "tuple", data := .seq #[e.key, e.val] } = F7 at qF Fv Fw
 rw [y6]
 clear qD qE y4 y6 dS
 refine wpAny_bind ?_
 unfold Builtin.Dict_items.ownedTupleIsFree
 refine wpAny_bind (wpAny_field qF rfl (x := .none) rfl (wpAny_pure ?_))
 simp only [if_true]
 refine wpAny_bind (wpAny_field qF rfl (x := ok) rfl (wpAny_bind (wpAny_field qF rfl (x := ov) rfl ?_)))
 refine wpAny_bind (wpAny_setField_rec qF (by simp) fun zE y9 za => ?_)
 replace za : Heap.SameBut it F7 zE := za
 replace y9 : IsItemIter zE it d (i + 1) es.size ep e.key ov := y9
 refine wpAny_bind (wpAny_setField_rec y9 (by simp) fun zF zb zc => ?_)
 replace zc : Heap.SameBut it zE zF := zc
 replace zb : IsItemIter zF it d (i + 1) es.size ep e.key e.val := zb
 refine wpAny_bind (wpAny_setField_rec zb (by simp) fun zG zd ze => ?_)
 replace ze : Heap.SameBut it zF zG := ze
 replace zd : IsItemIterOut zG it d (i + 1) es.size ep e.key e.val hp.objs.size := zd
 refine wpAny_bind (wpAny_setField_rec zd (by simp) fun vf zf zg => ?_)
 replace zg : Heap.SameBut it zG vf := zg
 replace zf : IsItemIterOut vf it d (i + 1) es.size ep e.key e.val hp.objs.size := zf
 have all : ∀ b o, b ≠ it -> F7.get? b = some o -> vf.get? b = some o := fun b o hb q => zg.extBut b o hb (ze.extBut b o hb (zc.extBut b o hb (za.extBut b o hb q)))
 exact wpAny_bind (wpAny_letGo (wpAny_pure (wpAny_pure ⟨_, rfl, wpAny_pure (hQ vf zf (all _ _ dP Fv) fun b o hb q => all b o hb (Fw b o hb q))⟩)))
theorem R8 {i : Nat} {ok ov : Value} {Q : Option Value -> Shared -> Prop} (hh : A.handled = none) (hit : IsItemIter s.heap it d i es.size ep ok ov) (qB : s.heap.get? d = some od) (qC : od.data = .dict es ep) (hx : es.size <= i)
  (hQ : ∀ h', Heap.ExtBut it s.heap h' -> Q none { s with heap := h' }) : wpAny (model prog w) A (pyNext (.ref it)) Q E s := by
 have hT : s.TypeIs (.ref it) "dict_itemiterator" := ⟨_, hit, rfl⟩
 unfold pyNext
 refine wpAny_bind (wpAny_attempt (wpAny_callSpecial?_slot (name := Str.ofString "__next__") hT F.slot_dict_itemiterator_next
  (wpAny_call_entry F.slot_dict_itemiterator_next hT F.entry_dict_itemiterator_next ?_ (F.args_dict_itemiterator_next_1 _))))
 refine wpAny_bind (wpAny_pure (wpAny_bind (wpAny_bind ?_)))
 refine wpAny_bind (wpAny_typeNameOfWhole_itemiter hT (wpAny_pure (wpAny_bind (wpAny_fieldsOf hit rfl ?_))))
 have pX : Builtin.Dict_items.ownsTuple "dict_itemiterator" = true := by decide
 simp only [pX, if_true]
 show wpAny _ _ (if (Value.ref d == Value.none) = true then _ else _) _ _ s
 rw [if_neg (show ¬ ((Value.ref d == Value.none) = true) from Bool.false_ne_true)]
 refine wpAny_bind (wpAny_pure (wpAny_bind (wpAny_dictEntries qB qC ?_)))
 rw [if_neg (by simp)]
 refine wpAny_bind (wpAny_pure (wpAny_bind (wpAny_dictEpoch qB qC ?_)))
 rw [if_neg (by simp)]
 refine wpAny_pure ?_
 simp only [show ¬ ((i : Int) < 0) from by omega, if_false, Int.toNat_natCast, Array.getElem?_eq_none hx]
 refine wpAny_bind (wpAny_bind (wpAny_typeNameOfWhole_itemiter hT (wpAny_pure ?_)))
 show wpAny _ _ (setField (.ref it) 2 .none >>= _) _ _ s
 refine wpAny_bind (wpAny_setField hit rfl (by simp) ?_)
 show wpAny _ _ (newExc (.type "StopIteration") [] >>= _) _ _ _
 refine wpAny_bind ?_
 simp only [newExc, newTuple]
 refine wpAny_bind (wpAny_newObj_type ?_ (by size_fits))
 refine wpAny_bind (m := firstArgMember _ _) (wpAny_of_eq (a := Value.none) (by first | rfl | (simp only [firstArgMember]; rfl)) ?_)
 refine wpAny_newObj_type ?_ (by size_fits)
 simp only [raiseNew]
 refine wpAny_bind (wpAny_handled ?_)
 rw [show A.in1.handled = none from hh]
 refine wpAny_bind (wpAny_pure (wpAny_throw ?_))
 refine wpAny_bind (wpAny_isInstance (T := "StopIteration") (b := true) ⟨_, Heap.get?_push_size _ rfl, rfl⟩ isSubtype_stop ?_)
 exact wpAny_pure (hQ _ (((Heap.SameBut.update ..).extBut.push _).push _))
end
def fj : HO -> Prop
 | .dK _ => True
 | .dT _ => True
 | _ => False
def NF (X : Cx) (d : Addr) : Prop := ∀ o u, X.aG d ≠ some (.bu o u)
theorem Cr {u : HO} (h : fj u) : jf (some u) := by cases u <;> first | exact trivial | exact h.elim
section
variable {X : Cx} {pins : List (Addr × Obj)} {σ : L2.St} {H : Hp} {s : Shared} {d : Addr} {u : HO}
theorem R9 {P : Program} {w : World} {h : Heap} (hu : fj u) (ok : b8 P w H h d u) : ∃ o es ep, h.get? d = some o /\ o.cls = .type "dict" /\ o.data = .dict es ep /\ (d == sysModules) = false := by
 cases u with
 | dK kvs => obtain ⟨_, z, vs, _, o, es, ep, h1, h2, h3, _⟩ := ok; exact ⟨o, es, ep, h1, h2.1, h3, z⟩
 | dT kvs => obtain ⟨_, z, xs, _, o, es, ep, h1, h2, h3, _⟩ := ok; exact ⟨o, es, ep, h1, h2.1, h3, z⟩
 | _ => exact hu.elim
theorem Od (I : Inv X pins σ H s) (e : H d = some u) (hu : fj u) : ∃ o es ep, s.heap.get? d = some o /\ o.cls = .type "dict" /\ o.data = .dict es ep /\ (d == sysModules) = false /\ NF X d /\ Inv X pins σ (upd H d (.bu o u)) s := by
 have hk := I.aF d u e
 obtain ⟨o, es, ep, h1, h2, h3, h4⟩ := R9 hu hk
 refine ⟨o, es, ep, h1, h2, h3, h4, fun o' u' z => ?_, ?_⟩
 ·have q := I.base.dC d o' u' z
  rw [e] at q
  cases q
  exact hu
 ·refine I.write (x := d) (e := d) (h' := s.heap) (t' := s.toks) (o := .bu o u) (by rw [e]; exact Cr hu) (.inl rfl) (fun _ _ _ q => q) ⟨o, h1⟩ ⟨h1, ?_⟩
  refine hk.gv (fun _ _ _ q => q) (fun b q => ?_) fun b xs q => ?_
  ·rw [aM (cY q e (fun z => by subst z; exact hu))]; exact q
  ·rw [aM (cY q e (fun z => by subst z; exact hu))]; exact q
theorem Qf {o : Obj} (I : Inv X pins σ H s) (e : H d = some (.bu o u)) (hu : fj u) (nf : NF X d) : Inv X pins σ (upd H d u) s := by
 have nn : ∀ b, H b = none -> b ≠ d := fun b q z => by rw [z, e] at q; cases q
 refine ⟨I.ok, I.os, I.bare, ⟨I.base.keep, I.base.slot, fun b ob q n hx => ?_, I.base.there, fun b xs q => ?_, fun b ob v q => ?_, fun b ps q => ?_⟩, I.loc, I.cell, ?_, fun x c q => ?_, fun p hp => ?_, fun a v q => ?_, I.len⟩
 ·have z := I.base.free b ob q n hx
  rw [aM (nn b z)]; exact z
 ·have z := I.base.d0 b xs q
  rw [aM (cY z e (fun z => nomatch z))]; exact z
 ·have z := I.base.dC b ob v q
  by_cases hb : b = d
  ·subst hb; exact (nf _ _ q).elim
  ·rw [aM hb]; exact z
 ·obtain ⟨m, z⟩ := I.base.d3 b ps q
  exact ⟨m, by rw [aM (cY z e (fun z => nomatch z))]; exact z⟩
 ·rw [aM (nn _ I.free)]; exact I.free
 ·rw [aM (nn _ (I.gr x c q))]; exact I.gr x c q
 ·obtain ⟨q1, q2, q3⟩ := I.pin p hp
  exact ⟨q1, by rw [aM (nn _ q2)]; exact q2, q3⟩
 ·by_cases hb : a = d
  ·subst hb
   rw [bw] at q
   cases q
   exact (I.aF a _ e).2.gv (fun _ _ _ q => q) (fun b q => by rw [aM (cY q e (fun z => nomatch z))]; exact q) fun b xs q => by rw [aM (cY q e (fun z => nomatch z))]; exact q
  ·rw [aM hb] at q
   exact (I.aF a _ q).gv (fun _ _ _ q => q) (fun b q => by rw [aM (cY q e (fun z => nomatch z))]; exact q) fun b xs q => by rw [aM (cY q e (fun z => nomatch z))]; exact q
end
section
variable {K : PySem.W.Frag} {φ : Nat -> Addr} {n : Nat} {H : Hp} {d : Addr} {o : Obj} {u : HO} (e : H d = some (.bu o u)) (hu : fj u) (hc : o.cls = .type "dict")
include e hu hc
theorem xt {a : Addr} {o' : Obj} {u' : HO} (h : H a = some (.bu o' u')) (k : (∀ v, fj v -> u' ≠ v) \/ ∃ C, o'.cls = .ref C) : a ≠ d := fun z => by
 subst z
 rw [e] at h
 cases h
 rcases k with k | ⟨C, k⟩
 ·exact k u hu rfl
 ·rw [hc] at k; cases k
theorem kY.bW {x : Obj} {ns : List Str} {vs : List V} (h : kY H x ns vs) : kY (upd H d u) x ns vs :=
 h.imp_right fun ⟨b, od, e1, e2, e3⟩ => ⟨b, od, e1, e2, by rw [aM (xt e hu hc e3 (.inl fun v hv z => by subst z; exact hv))]; exact e3⟩
mutual
theorem ay.bW : ∀ {w : W} {v : V}, ay K φ n H w v -> ay K φ n (upd H d u) w v
 | _, _, .az => .az
 | _, _, .bl b => .bl b
 | _, _, .int i => .int i
 | _, _, .str x => .str x
 | _, _, .tup h r => .tup (by rw [aM (cY h e (fun z => nomatch z))]; exact h) (aK.bW r)
 | _, _, .fl h r => .fl (h.elim (fun ⟨o', q⟩ => .inl ⟨o', by rw [aM (xt e hu hc q (.inl fun v hv z => by subst z; exact hv))]; exact q⟩) .inr) (aK.bW r)
 | _, _, .ref h => .ref h
 | _, _, .exc h fX hn hk hf r => .exc (by rw [aM (xt e hu hc h (.inr ⟨_, fX⟩))]; exact h) fX hn hk (kY.bW e hu hc hf) (aK.bW r)
theorem aK.bW : ∀ {ws : List W} {vs : List V}, aK K φ n H ws vs -> aK K φ n (upd H d u) ws vs
 | _, _, .nil => .nil
 | _, _, .cons h r => .cons (ay.bW h) (aK.bW r)
end
theorem bc.bW : ∀ {ws : List (W × W)} {vs : List (Key × V)}, bc K φ n H ws vs -> bc K φ n (upd H d u) ws vs
 | _, _, .nil => .nil
 | _, _, .cons h r => .cons (h.bW e hu hc) (bc.bW r)
theorem bh.bW : ∀ {ws : List (W × W)} {vs : List (List Key × V)}, bh K φ n H ws vs -> bh K φ n (upd H d u) ws vs
 | _, _, .nil => .nil
 | _, _, .cons h r => .cons (h.bW e hu hc) (bh.bW r)
theorem c0.bW : ∀ {ws : List (Str × W)} {vs : List (Str × V)}, c0 K φ n H ws vs -> c0 K φ n (upd H d u) ws vs
 | _, _, .nil => .nil
 | _, _, .cons h r => .cons (h.bW e hu hc) (c0.bW r)
theorem cj.bW : ∀ {ws : List (W × W)} {vs : List (V × V)}, cj K φ n H ws vs -> cj K φ n (upd H d u) ws vs
 | _, _, .nil => .nil
 | _, _, .cons hk h r => .cons (hk.bW e hu hc) (h.bW e hu hc) (cj.bW r)
theorem UW {p : PO} {a : Addr} (ha : a ≠ d) (h : iU K φ n H p a) : iU K φ n (upd H d u) p a := by
 have q0 : upd H d u a = H a := aM ha
 cases p with
 | lst ws => obtain ⟨vs, q, r⟩ := h; exact ⟨vs, q0.trans q, r.bW e hu hc⟩
 | aQ kws =>
  rcases h with ⟨vs, q, r⟩ | ⟨vs, q, r⟩
  ·exact .inl ⟨vs, q0.trans q, r.bW e hu hc⟩
  ·exact .inr ⟨vs, q0.trans q, r.bW e hu hc⟩
 | obj c fs => obtain ⟨C, dx, vs, q1, q2, r⟩ := h; exact ⟨C, dx, vs, q1, q0.trans q2, r.bW e hu hc⟩
 | bM kws => obtain ⟨kvs, q, r, nd⟩ := h; exact ⟨kvs, q0.trans q, r.bW e hu hc, nd⟩
 | eK kws =>
  obtain ⟨o, fX, ⟨vs, q, r⟩ | ⟨vs, q, r⟩⟩ := h
  ·exact ⟨o, fX, .inl ⟨vs, q0.trans q, r.bW e hu hc⟩⟩
  ·exact ⟨o, fX, .inr ⟨vs, q0.trans q, r.bW e hu hc⟩⟩
end
theorem ax.bW {K : PySem.W.Frag} {φ : Nat -> Addr} {ph : PH} {H : Hp} {i : Nat} {kws : List (W × W)} {o : Obj} {u : HO} (h : ax K φ ph H) (hi : i < ph.length) (e : H (φ i) = some (.bu o u)) (hu : fj u) (hw : ph[i]? = some (.eK kws)) : ax K φ (ph.set i (.aQ kws)) (upd H (φ i) u) := by
 have key : o.cls = .type "dict" /\ ((∃ kvs, u = .dK kvs /\ bc K φ ph.length H kws kvs) \/ ∃ kvs, u = .dT kvs /\ bh K φ ph.length H kws kvs) := by
  obtain ⟨o', fX, ⟨vs, q, r⟩ | ⟨vs, q, r⟩⟩ := h.hp i _ hw
  ·rw [e] at q; cases q; exact ⟨fX, .inl ⟨vs, rfl, r⟩⟩
  ·rw [e] at q; cases q; exact ⟨fX, .inr ⟨vs, rfl, r⟩⟩
 obtain ⟨hc, key⟩ := key
 refine ⟨fun j p ej => ?_, fun j k hj hk z => by rw [List.length_set] at hj hk; exact h.inj j k hj hk z⟩
 rw [List.length_set]
 by_cases hj : j = i
 ·subst hj
  rw [List.getElem?_set_self hi] at ej
  cases ej
  rcases key with ⟨kvs, rfl, r⟩ | ⟨kvs, rfl, r⟩
  ·exact .inl ⟨kvs, bw, r.bW e hu hc⟩
  ·exact .inr ⟨kvs, bw, r.bW e hu hc⟩
 ·rw [List.getElem?_set_ne (Ne.symm hj)] at ej
  exact UW e hu hc (fun z => hj (h.inj j i (List.getElem?_eq_some_iff.mp ej).1 hi z)) (h.hp j p ej)
theorem O9 {K : PySem.W.Frag} {φ ak : Nat -> Addr} {n n' : Nat} {H H' : Hp} {d : Addr} {o : Obj} {u v : HO} (hd : H d = some v) (hv : fj v) (s : Step K φ n (upd H d (.bu o u)) ak n' H') : Step K φ n H ak n' (upd H' d u) := by
 have ne : ∀ a x, H a = some x -> ¬ fj x -> a ≠ d := fun a x q nx z => by
  subst z
  rw [hd] at q
  cases q
  exact nx hv
 refine ⟨s.le, s.eq, fun a xs h => ?_, fun a o' u' h => ?_⟩
 ·have ha := ne a _ h (fun z => z)
  rw [aM ha]
  exact s.tup a xs (by rw [aM ha]; exact h)
 ·have ha := ne a _ h (fun z => z)
  rw [aM ha]
  exact s.bu a o' u' (by rw [aM ha]; exact h)
def t7 : HO -> Nat
 | .dK kvs => kvs.length
 | .dT kvs => kvs.length
 | _ => 0
def D4 (H : Hp) (u : HO) (i : Nat) (y v : V) : Prop := match u with
 | .dK kvs => ∃ k, kvs[i]? = some (k, v) /\ y = kV k
 | .dT kvs => ∃ k b, kvs[i]? = some (k, v) /\ y = .ref b /\ H b = some (.tup (k.map kV))
 | _ => False
def zh (d : Addr) (o : Obj) (u : HO) : It :=
 ⟨fun i H => H d = some (.bu o u) /\ i < t7 u, fun i H x H' => ∃ T y v, x = .ref T /\ H T = none /\ H' = upd H T (.tup [y, v]) /\ D4 H u i y v, fun i H => H d = some (.bu o u) /\ t7 u <= i⟩
theorem W4 {P : Program} {w : World} {k : Key} {x : Value} (h : (bi P w).is k x = true) : RelV (kV k) x := by
 rcases gO h with ⟨i, t, rfl, rfl⟩ | ⟨y, t, rfl, rfl⟩
 ·exact ⟨t, rfl⟩
 ·exact ⟨t, rfl⟩
theorem Paired.at {α β : Type} {R : α -> β -> Prop} : ∀ {xs : List α} {ys : List β} {i : Nat} {y : β}, Paired R xs ys -> ys[i]? = some y -> ∃ x, xs[i]? = some x /\ R x y
 | _, _, _, _, .nil, e => by simp at e
 | _, _, 0, _, .cons h _, e => by simp at e; subst e; exact ⟨_, rfl, h⟩
 | _, _, i + 1, y, .cons _ r, e => by
  obtain ⟨x, h1, h2⟩ := Paired.at (i := i) r (by simpa using e)
  exact ⟨x, by simpa using h1, h2⟩
theorem Cs {P : Program} {w : World} {H : Hp} {h : Heap} {d : Addr} {o : Obj} {u : HO} {es : Array DictEntry} {ep : Nat} (hu : fj u) (ok : b8 P w H h d u) (ho : h.get? d = some o) (hd : o.data = .dict es ep) :
  t7 u = es.size /\ ∀ i e, es[i]? = some e -> ∃ y v, D4 H u i y v /\ RelV y e.key /\ RelV v e.val := by
 cases u with
 | dK kvs =>
  obtain ⟨_, z, vs, rel, o', qg, qh, h1, h2, h3, h4, h5, h6⟩ := ok
  rw [ho] at h1
  cases h1
  rw [hd] at h3
  cases h3
  have l1 := Paired.length rel
  have l2 := h5.length
  refine ⟨by show kvs.length = _; rw [l1, <- l2]; simp, fun i e he => ?_⟩
  have gM : es.toList[i]? = some e := by simpa using he
  have hi : i < vs.length := by rw [<- l2]; exact (List.getElem?_eq_some_iff.mp gM).1
  obtain ⟨q1, q2⟩ := h5.get? (i := i) (e := e) (k := vs[i].1) (v := vs[i].2) gM (by simp [hi])
  obtain ⟨p, e1, e2, e3⟩ := Paired.at (i := i) (y := vs[i]) rel (by simp [hi])
  refine ⟨kV p.1, p.2, ⟨p.1, e1, rfl⟩, ?_, by rw [q2]; exact e3⟩
  rw [e2]; exact W4 q1
 | dT kvs =>
  obtain ⟨_, z, xs, rel, o', qg, qh, h1, h2, h3, h4, h5⟩ := ok
  rw [ho] at h1
  cases h1
  rw [hd] at h3
  cases h3
  have l1 := Paired.length rel
  have l2 := congrArg List.length h4
  rw [List.length_map] at l2
  refine ⟨by show kvs.length = _; rw [l1, <- l2]; simp, fun i e he => ?_⟩
  have gM : es.toList[i]? = some e := by simpa using he
  rw [h4, List.getElem?_map] at gM
  cases q : xs[i]? with
  | none => rw [q] at gM; cases gM
  | some x =>
   rw [q] at gM
   cases gM
   obtain ⟨p, e1, e2, e3, e4⟩ := Paired.at (i := i) (y := x) rel q
   exact ⟨.ref x.2.1, p.2, ⟨p.1, x.2.1, e1, rfl, e3⟩, rfl, e4⟩
 | _ => exact hu.elim
theorem Gw : entryFor table "dict_itemiterator.__iter__" = some Builtin.«dict_keyiterator.__iter__» :=
 entryFor_alias (id' := "dict_keyiterator.__iter__") (by kernel_rfl) (by first | rfl | decide +kernel) (by decide +kernel) (by kernel_rfl)
theorem Oe {P : Program} {w : World} {K : PySem.W.Frag} {hW : List Expr} {j : Nat} {pos : Pos} {d it : Addr} {o : Obj} {u : HO} {es : Array DictEntry} {ep : Nat} (hu : fj u) (hd : o.data = .dict es ep) :
  Turn P w K (.Tuple hW j pos) (zh d o u) [it] it (fun i h => ∃ ok ov, IsItemIter h it d i es.size ep ok ov) where
 mem := by simp
 obj := fun i h ⟨ok, ov, st⟩ b hb => by
  have : b = it := by simpa using hb
  subst this
  exact ⟨_, st, fun v z => by cases z⟩
 keep := fun i h h' ⟨ok, ov, st⟩ k => ⟨ok, ov, k it (by simp) _ st⟩
 item := by
  intro X hP hw hK hc i pins s σ H E I hf st hg
  subst hP hw hK
  obtain ⟨ok, ov, st⟩ := st
  obtain ⟨hg, hi⟩ := hg
  obtain ⟨h1, h2⟩ := (show b8 X.prog X.w H s.heap d (.bu o u) from I.aF d _ hg)
  obtain ⟨hl, he⟩ := Cs hu h2 h1 hd
  have ed : i < es.size := by rw [<- hl]; exact hi
  have hx : es[i]? = some es[i] := by simp [ed]
  obtain ⟨y, v, hE, ry, rv⟩ := he i _ hx
  refine Qe st h1 hd hx fun h' ho hT hk => ⟨_, rfl, ?_⟩
  refine wpAny_letOwnedTupleGo_items ho fun qt he2 d5 => ?_
  have kk : ∀ b x, b ∉ [it] -> s.heap.get? b = some x -> qt.get? b = some x := fun b x hb q => by
   have Fx : b ≠ it := fun z => hb (by simp [z])
   exact (d5.2 b Fx).trans (hk b x Fx q)
  have Fy : s.heap.objs.size ≠ it := Nat.ne_of_gt (Heap.lt_size st)
  have new : b8 X.prog X.w (upd H s.heap.objs.size (.tup [y, v])) qt s.heap.objs.size (.tup [y, v]) :=
   ⟨by show 2 <= sizeLine; decide, [es[i].key, es[i].val], .cons ry (.cons rv .nil), _, (d5.2 _ Fy).trans hT, rfl, _, rfl⟩
  refine ⟨.ref s.heap.objs.size, _, R0 (s := s) (h' := qt) (t' := s.toks) I kk hf (Nat.le_refl _) new, rfl, ⟨_, y, v, rfl, I.aF.fresh (Nat.le_refl _), rfl, hE⟩, ⟨_, _, he2⟩, fun b hb => ?_⟩
  have : b = it := by simpa using hb
  subst this
  rw [aM (Ne.symm Fy)]
  exact (hf b hb).1
 done := by
  intro X hP hw hK hc i pins s σ H E I hf st hg
  subst hP hw hK
  obtain ⟨ok, ov, st⟩ := st
  obtain ⟨hg, hi⟩ := hg
  obtain ⟨h1, h2⟩ := (show b8 X.prog X.w H s.heap d (.bu o u) from I.aF d _ hg)
  obtain ⟨hl, _⟩ := Cs hu h2 h1 hd
  exact R8 (I.ok.hd hc) st h1 hd (by rw [<- hl]; exact hi) fun h1 eb => ⟨rfl, Cn (t' := s.toks) I (fun b x hb q => eb b x (fun z => hb (by simp [z])) q) hf⟩
 self := fun A i s Q E ⟨ok, ov, st⟩ h => by
  have hT : s.TypeIs (.ref it) "dict_itemiterator" := ⟨_, st, rfl⟩
  refine wpAny_pyIter_slot hT F.slot_dict_itemiterator_iter (wpAny_call_entry F.slot_dict_itemiterator_iter hT Gw ?_ (F.args_dict_itemiterator_iter_1 _))
  show wpAny _ _ (PySem.ret (.ref it)) _ _ s
  exact wpAny_pure ⟨_, rfl, "dict_itemiterator", _, hT, F.slot_dict_itemiterator_next.lookup, h⟩
def Do (X : Cx) (ta : TE) : TI := fun σ H R => ta σ H fun x H1 => ∃ d u, x = .ref d /\ H1 d = some u /\ fj u /\ ∀ o, o.cls = .type "dict" -> NF X d -> R (zh d o u) (upd H1 d (.bu o u))
section
variable {X : Cx} {o : Expr} {ta : TE} {hW : List Expr} {j : Nat} {tp apos b5 : Pos}
theorem Qg (ho : PE X o ta) (fT : attributeBase o "items" X.env (eval o X.env) = eval o X.env := by rfl) (fU : (apos.endLine == b5.line) = true := by rfl) :
  PI X (.Tuple hW j tp) (.Call (.Attribute o "items" apos) [] [] b5) (Do X ta) := by
 intro pins s σ H R I h
 refine wpAny_Call_method0_late fT fU (aT (ho pins s σ H _ I h) fun v s1 ⟨x, H1, I1, r1, d, u, ex, hd, hu, q⟩ => ?_)
 subst ex
 obtain rfl : v = Value.ref d := r1
 obtain ⟨ob, es, ep, h1, h2, h3, h4, nf, I2⟩ := Od I1 hd hu
 have Ft : ob.dict = none := by
  have hk := I1.aF d u hd
  cases u with
  | dK kvs =>
   obtain ⟨_, _, vs, _, o', _, _, q1, q2, _⟩ := hk
   rw [h1] at q1; cases q1; exact q2.2.1
  | dT kvs =>
   obtain ⟨_, _, xs, _, o', _, _, q1, q2, _⟩ := hk
   rw [h1] at q1; cases q1; exact q2.2.1
  | _ => exact hu.elim
 refine ⟨"dict", "dict.items", PySem.F.plainAttrs_dict, PySem.F.slot_dict_items, PySem.F.type_dict_items, ⟨_, h1, h2⟩, fun a z => by cases z; exact ⟨ob, h1, Ft⟩, Calls.callWith_builtin rfl (PySem.evalArgs_none ?_)⟩
 refine O8 h4 h1 h2 ?_
 have k3 : ∀ b x, s1.heap.get? b = some x -> (s1.heap.push { cls := .type "dict_items", data := .fields #[.ref d] }).get? b = some x := fun b x q => Heap.get?_push_of_some _ q
 have I3 := I2.kept (t' := s1.toks) k3
 refine Qd (s := { s1 with heap := s1.heap.push { cls := .type "dict_items", data := .fields #[.ref d] } }) ⟨_, Heap.get?_push_size _ rfl, rfl, rfl⟩ (k3 _ _ h1) h3 ?_
 have I4 := I3.kept (t' := s1.toks) (h' := (s1.heap.push { cls := .type "dict_items", data := .fields #[.ref d] }).push { cls := .type "dict_itemiterator", data := .fields #[.none, .bool false, .ref d, .int 0 0, .int es.size 0, .int ep 0, .none, .none] }) fun b x q => Heap.get?_push_of_some _ q
 refine ⟨_, [(s1.heap.push { cls := .type "dict_items", data := .fields #[.ref d] }).objs.size], _, _, _, rfl, I4, Oe hu h3, ⟨_, _, Heap.get?_push_size _ rfl⟩, fun b hb => ?_, q ob h2 nf⟩
 have : b = (s1.heap.push { cls := .type "dict_items", data := .fields #[.ref d] }).objs.size := by simpa using hb
 subst this
 exact I3.pN (Nat.le_refl _) (I3.aF.fresh (Nat.le_refl _))
end
def jJ (kws : List (W × W)) : List W := kws.map fun p => .tup [p.1, p.2]
def xO (i : Nat) (kws : List (W × W)) (L : Nat) : Mo W := fun ph => if ph[i]? = some (.eK kws) then .ok (.ref L) (ph.set i (.aQ kws)) else .no
def nC (m : EM) (cap : List (Option Nat)) (g : GM) (c : TM) (e : EM) : EM := fun σ => ap (m σ) fun w ph => match dB w ph with
 | some p => ap (de (fun _ => true) g c e ph.length (jJ p.2) (fk cap σ)) (fun _ => xO p.1 p.2 ph.length) (ph.set p.1 (.eK p.2) ++ [.lst []])
 | none => .no
theorem vW {K : PySem.W.Frag} {φ : Nat -> Addr} {n : Nat} {H : Hp} : ∀ (ks : List Key), aK K φ n H (ks.map bq) (ks.map kV)
 | [] => .nil
 | .inl i :: ks => .cons (.int i) (vW ks)
 | .inr x :: ks => .cons (.str x) (vW ks)
theorem Qh {K : PySem.W.Frag} {φ : Nat -> Addr} {n : Nat} {H : Hp} : ∀ (k : Key), ay K φ n H (bq k) (kV k)
 | .inl i => .int i
 | .inr x => .str x
theorem bc.get {K : PySem.W.Frag} {φ : Nat -> Addr} {n : Nat} {H : Hp} : ∀ {kws : List (W × W)} {kvs : List (Key × V)} {i : Nat} {k : Key} {v : V}, bc K φ n H kws kvs -> kvs[i]? = some (k, v) -> ∃ w, kws[i]? = some (bq k, w) /\ ay K φ n H w v
 | _, _, _, _, _, .nil, e => by simp at e
 | _, _, 0, _, _, .cons h _, e => by simp at e; obtain ⟨rfl, rfl⟩ := e; exact ⟨_, rfl, h⟩
 | _, _, i + 1, k, v, .cons _ r, e => by
  obtain ⟨u, h1, h2⟩ := bc.get (i := i) (k := k) (v := v) r (by simpa using e)
  exact ⟨u, by simpa using h1, h2⟩
theorem bh.get {K : PySem.W.Frag} {φ : Nat -> Addr} {n : Nat} {H : Hp} : ∀ {kws : List (W × W)} {kvs : List (List Key × V)} {i : Nat} {k : List Key} {v : V}, bh K φ n H kws kvs -> kvs[i]? = some (k, v) -> ∃ w, kws[i]? = some (.tup (k.map bq), w) /\ ay K φ n H w v
 | _, _, _, _, _, .nil, e => by simp at e
 | _, _, 0, _, _, .cons h _, e => by simp at e; obtain ⟨rfl, rfl⟩ := e; exact ⟨_, rfl, h⟩
 | _, _, i + 1, k, v, .cons _ r, e => by
  obtain ⟨u, h1, h2⟩ := bh.get (i := i) (k := k) (v := v) r (by simpa using e)
  exact ⟨u, by simpa using h1, h2⟩
theorem Qi {K : PySem.W.Frag} {φ : Nat -> Addr} {n : Nat} {H : Hp} {d : Addr} {o : Obj} {u : HO} {kws : List (W × W)} (e : H d = some (.bu o u)) (r : (∃ kvs, u = .dK kvs /\ bc K φ n H kws kvs) \/ ∃ kvs, u = .dT kvs /\ bh K φ n H kws kvs) :
  qr K (zh d o u) (jJ kws) (fun _ => true) φ n H := by
 intro aS ph2 H2 aY s2 _ j
 have e2 := s2.bu _ _ _ e
 have hl : t7 u = (jJ kws).length := by
  unfold jJ
  rw [List.length_map]
  rcases r with ⟨kvs, rfl, r⟩ | ⟨kvs, rfl, r⟩
  ·exact r.len.symm
  ·exact r.len.symm
 refine ⟨fun w hw => ⟨⟨e2, by rw [hl]; exact (List.getElem?_eq_some_iff.mp hw).1⟩, fun x d7 hy => ?_⟩, fun hn => ⟨e2, by rw [hl]; simpa using hn⟩⟩
 obtain ⟨T, y, v, rfl, hT, rfl, hE⟩ := hy
 refine ⟨aY.tup hT, ng hT, ?_⟩
 unfold jJ at hw
 rw [List.getElem?_map] at hw
 rcases r with ⟨kvs, rfl, r⟩ | ⟨kvs, rfl, r⟩
 ·obtain ⟨k, ek, rfl⟩ := hE
  obtain ⟨w', ew, cR⟩ := (r.mono s2).get ek
  rw [ew] at hw
  cases hw
  exact .tup bw (.cons (Qh k) (.cons (cR.mono (ng hT)) .nil))
 ·obtain ⟨k, b, ek, rfl, hb⟩ := hE
  obtain ⟨w', ew, cR⟩ := (r.mono s2).get ek
  rw [ew] at hw
  cases hw
  refine .tup bw (.cons (.tup ?_ (vW k)) (.cons (cR.mono (ng hT)) .nil))
  rw [aM (dH hb hT)]
  exact hb
def QT (X : Cx) (Q : VK) : VK := fun v H' => ∃ d o u, H' d = some (.bu o u) /\ fj u /\ NF X d /\ Q v (upd H' d u)
section
variable {X : Cx} {tg iter elt : Expr} {ifs : List Expr} {scope : Scope} {pos : Pos} {N : List Str} {cap : List (Option Nat)} {m : EM} {g : GM} {c : TM} {e : EM}
theorem Pa {σ : L2.St} {H : Hp} {Q : VK} (h : tM X (nC m cap g c e) σ H Q) : pC (Do X (tM X m)) cap (uS X.K g) (jm X.K c) (uR X.K e) σ H (QT X Q) := by
 obtain ⟨φ, ph, ws, hH, hS, h⟩ := h
 refine tM.bind hH hS h fun w ph1 au H1 v aD s1 r1 h => ?_
 cases hp : dB w ph1 with
 | none => rw [hp] at h; exact h.elim
 | some p =>
  obtain ⟨i, kws⟩ := p
  rw [hp] at h
  simp only [] at h
  rw [cq] at h
  obtain ⟨rfl, hi, hd, rfl⟩ := fN aD r1 hp
  have key : ∃ u, H1 (au i) = some u /\ fj u /\ ((∃ kvs, u = .dK kvs /\ bc X.K au ph1.length H1 kws kvs) \/ ∃ kvs, u = .dT kvs /\ bh X.K au ph1.length H1 kws kvs) := by
   rcases aD.hp i _ hd with ⟨kvs, q, r⟩ | ⟨kvs, q, r⟩
   ·exact ⟨_, q, trivial, .inl ⟨kvs, rfl, r⟩⟩
   ·exact ⟨_, q, trivial, .inr ⟨kvs, rfl, r⟩⟩
  obtain ⟨u, ou, ki, hr⟩ := key
  refine ⟨au i, u, rfl, ou, ki, fun o ho nf D hD => ?_⟩
  have sf := iM (K := X.K) (φ := au) (n := ph1.length) (y := HO.bu o u) ou (Cr ki)
  have oj : (∃ kvs, u = .dK kvs /\ bc X.K au ph1.length (upd H1 (au i) (.bu o u)) kws kvs) \/ ∃ kvs, u = .dT kvs /\ bh X.K au ph1.length (upd H1 (au i) (.bu o u)) kws kvs := by
   rcases hr with ⟨kvs, q, r⟩ | ⟨kvs, q, r⟩
   ·exact .inl ⟨kvs, q, r.mono sf⟩
   ·exact .inr ⟨kvs, q, r.mono sf⟩
  have aY : ax X.K au (ph1.set i (.eK kws)) (upd H1 (au i) (.bu o u)) := aD.put hd rfl ⟨o, ho, by
   rcases oj with ⟨kvs, rfl, r⟩ | ⟨kvs, rfl, r⟩
   ·exact .inl ⟨kvs, bw, r⟩
   ·exact .inr ⟨kvs, bw, r⟩⟩
  have hl : (ph1.set i (.eK kws)).length = ph1.length := List.length_set ..
  have hJ := Qi (K := X.K) (φ := au) (n := (ph1.set i (.eK kws)).length) (H := upd H1 (au i) (.bu o u)) (o := o) (d := au i) (kws := kws) bw (by rw [hl]; exact oj)
  refine Bh (ws := ws) aY (by rw [hl]; exact (hS.mono s1).mono sf) hJ hD ?_
  rw [hl]
  refine Out.Run.mono h (fun _ ph2 h2 ak H' v r' cJ rv => ?_) fun _ _ _ => trivial
  have ut : ak i = au i := cJ.eq i hi
  have zi : H' (au i) = some (.bu o u) := cJ.bu _ _ _ bw
  have qG : ph1.length <= ph2.length := cJ.le
  refine ⟨au i, o, u, zi, ki, nf, ?_⟩
  unfold xO at h2
  split at h2
  ·rename_i hw
   have zj : i < ph2.length := Nat.lt_of_lt_of_le hi qG
   have t1 := r'.bW zj (by rw [ut]; exact zi) ki hw
   rw [ut] at t1
   have fY : (ph2.set i (PO.aQ kws)).length = ph2.length := List.length_set ..
   exact h2 ak _ v t1 (by rw [fY]; exact s1.trans (O9 ou ki cJ)) (by rw [fY]; exact rv.bW zi ki ho)
  ·exact h2.elim
variable {o : Expr} {hW : List Expr} {j : Nat} {tp apos b5 : Pos}
theorem Qj {i : Nat} {x : Str} {pos' jT : Pos} (hN : X.N.Nodup) (ed : X.N[i]? = some x) (hx : X.env.scope.names.lookup x = some .local)
  (hc : X.calm = true) (cp : il X N cap scope) (ho : IE X o m) (hg : ∀ cl C aA aG ex, IG (bv X N scope cl C aA aG ex) (.Tuple hW j tp) g) (ht : ∀ cl C aA aG ex, PF (bv X N scope cl C aA aG ex) ifs (jm X.K c))
  (he : ∀ cl C aA aG ex, IE (bv X N scope cl C aA aG ex) elt e) (fq : swapsWith (.ListComp elt [⟨.Tuple hW j tp, .Call (.Attribute o "items" apos) [] [] b5, ifs, 0⟩] scope pos) (some (.Name x pos')) jT.line X.env = pure true := by rfl)
  (fT : attributeBase o "items" X.env (eval o X.env) = eval o X.env := by rfl) (fU : (apos.endLine == b5.line) = true := by rfl)
  (hs : ∀ x, foldedSetIterable (.Call (.Attribute o "items" apos) [] [] b5) X.env x = pure x := by intro _; rfl) :
  IS X (.Assign [.Name x pos'] (.ListComp elt [⟨.Tuple hW j tp, .Call (.Attribute o "items" apos) [] [] b5, ifs, 0⟩] scope pos) jT) (aC (nC m cap g c e) (gN i)) := by
 intro pins s σ H D I h
 obtain ⟨φ, ph, ws, hH, hS, h⟩ := h
 unfold aC at h
 rw [cq] at h
 have hd := Pa (X := X) (σ := σ) (H := H) (Q := fun v H1 => D.nx (σ.set i (some v)) H1) ⟨φ, ph, ws, hH, hS, h.mono (fun w ph1 h au H1 v aD s1 r1 => h au H1 aD s1 _ ((hS.mono s1).set r1 i)) fun _ _ z => z⟩
 refine aT (Cf hN ed hx fq hc cp (Qg ho fT fU) (fun cl C aA aG ex => g0 (hg cl C aA aG ex)) ht (fun cl C aA aG ex => e0 (he cl C aA aG ex)) hs pins s σ H { D with nx := fun ao H' => ∃ d o u, H' d = some (.bu o u) /\ fj u /\ NF X d /\ D.nx ao (upd H' d u) } I hd) fun f s' q => ?_
 cases f with
 | next =>
  obtain ⟨ao, H', I', d, o, u, e, hu, nf, q⟩ := q
  exact ⟨ao, _, Qf I' e hu nf, q⟩
 | brk => exact q
 | cont => exact q
 | ret u => exact q
end
section
variable {X : Cx} {e o : Expr} {m mo : EM} {g : GM} {t : TM} {pos pos' p tp apos b5 : Pos} {hW : List Expr} {j : Nat}
theorem Qk {scope : Scope} {ifs : List Expr} {N' : List Str} {cap : List (Option Nat)} {i : Nat} {x : Str} (hN : X.N.Nodup) (ed : X.N[i]? = some x) (hx : X.env.scope.names.lookup x = some .local)
  (hc : X.calm = true) (cp : il X N' cap scope) (ho : JE X o mo) (hg : ∀ cl C aA aG ex, JG (bv X N' scope cl C aA aG ex) (.Tuple hW j tp) g) (ht : ∀ cl C aA aG ex, JF (bv X N' scope cl C aA aG ex) ifs t)
  (he : ∀ cl C aA aG ex, JE (bv X N' scope cl C aA aG ex) e m) (fq : swapsWith (.ListComp e [⟨.Tuple hW j tp, .Call (.Attribute o "items" apos) [] [] b5, ifs, 0⟩] scope p) (some (.Name x pos')) pos.line X.env = pure true)
  (fT : attributeBase o "items" X.env (eval o X.env) = eval o X.env := by rfl) (fU : (apos.endLine == b5.line) = true := by rfl)
  (hs : ∀ x, foldedSetIterable (.Call (.Attribute o "items" apos) [] [] b5) X.env x = pure x := by intro _; rfl) :
  JS X (.Assign [.Name x pos'] (.ListComp e [⟨.Tuple hW j tp, .Call (.Attribute o "items" apos) [] [] b5, ifs, 0⟩] scope p) pos) (aC (nC mo cap g t m) (gN i)) :=
 ⟨Qj hN ed hx hc cp ho.h (fun cl C aA aG ex => (hg cl C aA aG ex).h) (fun cl C aA aG ex => (ht cl C aA aG ex).h) (fun cl C aA aG ex => (he cl C aA aG ex).h) fq fT fU hs⟩
end
def k4 (w : W) (ph : PH) : Bool := (dB w ph).isSome
theorem UX {K : PySem.W.Frag} : mN K "dict" k4 := by
 intro φ ph H x vx hH rx e
 unfold k4 at e
 obtain ⟨⟨i, kws⟩, hp⟩ := Option.isSome_iff_exists.mp e
 obtain ⟨rfl, hi, hd, rfl⟩ := fN hH rx hp
 rcases hH.hp i _ hd with ⟨kvs, q, _⟩ | ⟨kvs, q, _⟩
 ·exact .inr (.inr (.inl ⟨rfl, .inl ⟨kvs, q⟩⟩))
 ·exact .inr (.inr (.inl ⟨rfl, .inr ⟨kvs, q⟩⟩))
def EH : V -> List V -> Hp -> VK -> Prop := fun x ys H Q => ∃ a y o, x = .ref a /\ nI H a y o /\ ((ys = [y] /\ Q (o.getD .az) H) \/ ∃ d, ys = [y, d] /\ Q (o.getD d) H)
def k5 : W -> List W -> Po W := fun x xs ph => match dB x ph with
 | some p => match xs with
  | [y] => if fi p.2 y = true then some ((bP p.2 y).getD .az, ph) else none
  | [y, z] => if fi p.2 y = true then some ((bP p.2 y).getD z, ph) else none
  | _ => none
 | none => none
theorem i9.getD {K : PySem.W.Frag} {φ : Nat -> Addr} {n : Nat} {H : Hp} {a : Option W} {b : Option V} {z : W} {y : V} (h : i9 K φ n H a b) (r : ay K φ n H z y) : ay K φ n H (a.getD z) (b.getD y) := by
 cases a <;> cases b <;> first | exact r | exact h | exact h.elim
theorem UY {X : Cx} (hu : X.A.units + 1 < cLine) : ig X "dict.get" EH := by
 intro pins s σ H x xs v us Q I rx rv h
 obtain ⟨a, y, o, rfl, g, h⟩ := h
 obtain rfl : v = Value.ref a := rx
 rcases h with ⟨rfl, q⟩ | ⟨d, rfl, q⟩
 ·obtain ⟨u, rfl, ru⟩ := rv.one
  rcases g with g | ⟨rfl, ⟨e, k, b, ey, eb⟩ | ⟨e, k, ey⟩⟩
  ·exact xl hu I g ru fun w' s' I' r' => ⟨_, H, I', r', q⟩
  ·subst ey
   have g : dh (upd H a (.dT [])) a (.ref b) none := .inr ⟨[], k, b, .inl bw, rfl, by rw [aM (cY eb e (fun z => nomatch z))]; exact eb, rfl⟩
   exact xl hu (gX I e) g ru fun w' s3 I3 r' => ⟨_, H, by have := gY I3 bw; rwa [kM e] at this, r', q⟩
  ·subst ey
   have g : dh (upd H a (.dK [])) a (kV k) none := .inl ⟨[], k, .inl bw, rfl, rfl⟩
   exact xl hu (gY I e) g ru fun w' s3 I3 r' => ⟨_, H, by have := gX I3 bw; rwa [kM e] at this, r', q⟩
 ·obtain ⟨u, u2, rfl, ru, rd⟩ := Vals.two rv
  rcases g with g | ⟨rfl, ⟨e, k, b, ey, eb⟩ | ⟨e, k, ey⟩⟩
  ·exact xm hu I g ru rd fun w' s' I' r' => ⟨_, H, I', r', q⟩
  ·subst ey
   have g : dh (upd H a (.dT [])) a (.ref b) none := .inr ⟨[], k, b, .inl bw, rfl, by rw [aM (cY eb e (fun z => nomatch z))]; exact eb, rfl⟩
   exact xm hu (gX I e) g ru rd fun w' s3 I3 r' => ⟨_, H, by have := gY I3 bw; rwa [kM e] at this, r', q⟩
  ·subst ey
   have g : dh (upd H a (.dK [])) a (kV k) none := .inl ⟨[], k, .inl bw, rfl, rfl⟩
   exact xm hu (gY I e) g ru rd fun w' s3 I3 r' => ⟨_, H, by have := gX I3 bw; rwa [kM e] at this, r', q⟩
theorem UZ {K : PySem.W.Frag} : kg K "dict" EH k5 := by
 intro φ ph H x xs vx vs w ph' Q hH rx rs e k
 unfold k5 at e
 split at e
 ·rename_i p hp
  obtain ⟨i, kws⟩ := p
  obtain ⟨rfl, hi, hd, rfl⟩ := fN hH rx hp
  split at e
  ·split at e
   ·rename_i hk
    cases e
    cases rs with
    | cons r0 rr =>
     cases rr
     obtain ⟨o, g, ro⟩ := oV hH hd r0 hk
     exact ⟨_, _, o, rfl, g, .inl ⟨rfl, k φ H _ hH Step.refl (ro.getD .az)⟩⟩
   ·cases e
  ·split at e
   ·rename_i hk
    cases e
    cases rs with
    | cons r0 rr =>
     cases rr with
     | cons r1 rr =>
      cases rr
      obtain ⟨o, g, ro⟩ := oV hH hd r0 hk
      exact ⟨_, _, o, rfl, g, .inr ⟨_, rfl, k φ H _ hH Step.refl (ro.getD r1)⟩⟩
   ·cases e
  ·cases e
 ·cases e
def dI (f : Str) (w : W) : List (Str × W) -> List (Str × W)
 | [] => [(f, w)]
 | (g, x) :: r => if g = f then (g, w) :: r else (g, x) :: dI f w r
section
variable {K : PySem.W.Frag} {φ : Nat -> Addr} {n : Nat} {H : Hp}
theorem c0.lookup (f : Str) : ∀ {ws : List (Str × W)} {vs : List (Str × V)}, c0 K φ n H ws vs -> i9 K φ n H (ws.lookup f) (vs.lookup f)
 | _, _, .nil => trivial
 | _, _, .cons (f := g) h r => by
  rw [List.lookup_cons, List.lookup_cons]
  cases f == g with
  | true => exact h
  | false => exact c0.lookup f r
theorem c0.len : ∀ {ws : List (Str × W)} {vs : List (Str × V)}, c0 K φ n H ws vs -> ws.length = vs.length
 | _, _, .nil => rfl
 | _, _, .cons _ r => by rw [List.length_cons, List.length_cons, c0.len r]
theorem c0.put (f : Str) {w : W} {v : V} (q : ay K φ n H w v) : ∀ {ws : List (Str × W)} {vs : List (Str × V)}, c0 K φ n H ws vs -> c0 K φ n H (dI f w ws) (dD f v vs)
 | _, _, .nil => .cons q .nil
 | _, _, .cons (f := g) h r => by
  unfold dI dD
  by_cases e : g = f
  ·rw [if_pos e, if_pos e]; exact .cons q r
  ·rw [if_neg e, if_neg e]; exact .cons h (c0.put f q r)
end
def pY (c f : Str) (w : W) : Po W := fun ph => match w with
 | .ref i => match ph[i]? with
  | some (.obj c' fs) => if c' = c then (fs.lookup f).map fun x => (x, ph) else none
  | _ => none
 | _ => none
def cC (c f : Str) (m : EM) : EM := fun σ => ap (m σ) fun w => lift (pY c f w)
def pZ (c f : Str) (x y : W) : Po Unit := fun ph => match x with
 | .ref i => match ph[i]? with
  | some (.obj c' fs) => if c' = c /\ fs.length < 1000 then some ((), ph.set i (.obj c' (dI f y fs))) else none
  | _ => none
 | _ => none
def fA (c f : Str) (o v : EM) : SM := fun σ => ap (v σ) fun y => ap (o σ) fun x => ap (lift (pZ c f x y)) fun _ => aw (.nx σ)
def D5 : W -> Mo W -> Mo W
 | .az, m => m
 | _, _ => d6
def jc (c : Str) (fm : List W -> Mo W) : EM := fun _ ph => ap (eG (fm [.ref ph.length])) (fun w => D5 w (aw (.ref ph.length))) (ph ++ [.obj c []])
section
variable {X : Cx} {e o value : Expr} {m mo mv : EM} {c f : Str} {C : Addr} {pos pos' p : Pos}
theorem U0 (bD : PySem.W.nsIn X.K mainGlobals c = some (some (.ref C))) (hc : h9 X.K C) (hn : fP X.K C f) (he : IE X e m) (hb : attributeBase e f X.env (eval e X.env) = eval e X.env := by rfl) : IE X (.Attribute e f pos) (cC c f m) := by
 refine PE.imp (TN he hb) fun σ H Q h => ?_
 obtain ⟨φ, ph, ws, hH, hS, h⟩ := h
 refine tM.bind hH hS h fun x ph1 au H1 vx aD s1 rx h => ?_
 obtain ⟨w, ph', e, k⟩ := run_lift h
 unfold pY at e
 cases rx with
 | ref hi =>
  simp only at e
  split at e
  ·rename_i c' fs hw
   split at e
   ·rename_i oe
    subst oe
    obtain ⟨C', dx, vs, q1, q2, r⟩ := aD.hp _ _ hw
    rw [bD] at q1
    cases q1
    have ro := r.lookup f
    cases q : fs.lookup f with
    | none => rw [q] at e; cases e
    | some y =>
     rw [q] at e ro
     cases e
     cases q' : vs.lookup f with
     | none => rw [q'] at ro; exact ro.elim
     | some v => rw [q'] at ro; exact ⟨_, C, dx, vs, v, rfl, q2, hc, hn, q', k au H1 v aD s1 ro⟩
   ·cases e
  ·cases e
 | _ => cases e
theorem U1 (bD : PySem.W.nsIn X.K mainGlobals c = some (some (.ref C))) (hc : h9 X.K C) (hn : fP X.K C f) (ho : IE X o mo) (hv : IE X value mv) (hs : swapsWith value (some (.Attribute o f pos')) pos.line X.env = pure false) : IS X (.Assign [.Attribute o f pos'] value pos) (fA c f mo mv) := by
 refine PS.imp (TQ ho hv hs) fun D σ H h => ?_
 obtain ⟨φ, ph, ws, hH, hS, h⟩ := h
 refine tM.bind hH hS h fun y ph1 au H1 vy aD s1 ry h => tM.bind aD (hS.mono s1) h fun x ph2 aS H2 vx aY s2 rx h => ?_
 rw [cq] at h
 obtain ⟨_, dm, e, k⟩ := run_lift h
 have ry' := ry.mono s2
 unfold pZ at e
 cases rx with
 | ref hi =>
  simp only at e
  split at e
  ·rename_i c' fs hw
   split at e
   ·rename_i oe
    obtain ⟨rfl, hz⟩ := oe
    cases e
    obtain ⟨C', dx, vs, q1, q2, r⟩ := aY.hp _ _ hw
    rw [bD] at q1
    cases q1
    have s3 := iM (K := X.K) (φ := aS) (n := ph2.length) (y := HO.ins C dx (dD f vy vs)) q2 trivial
    refine ⟨_, C, dx, vs, rfl, q2, hc, hn, by rw [<- r.len]; exact hz, ?_⟩
    have d8 := aY.put hw rfl (x := HO.ins C dx (dD f vy vs)) (o := .obj c' (dI f y fs)) ⟨C, dx, _, bD, bw, (r.put f ry').mono s3⟩
    exact k aS _ d8 (by rw [List.length_set]; exact (s1.trans s2).trans s3) σ (by rw [List.length_set]; exact ((hS.mono s1).mono s2).mono s3)
   ·cases e
  ·cases e
 | _ => cases e
theorem U2 {k : Nat} {g : Addr} {fd : FuncData} {s0 : Str} {fm : List W -> Mo W} (bD : PySem.W.nsIn X.K mainGlobals c = some (some (.ref C))) (M : Mk X.K C g) (F : bp X.prog X.w X.K X.mg X.base (bE X.prog X.w) k g fd [s0] (bN X.K X.mg 1 fm)) (hr : bV (k + 1) X.A)
  (hg : Gl X c) (hm : X.mg c = some (.ref C)) (hb : Binds X.K fd [s0] []) (cy : (c == ("__debug__" : Str)) = false) : IE X (.Call (.Name c p) [] [] pos) (jc c fm) := by
 refine PE.imp (PV (E := fun _ _ _ => False) (dvs := []) M F hr hg hm hb .nil (fun pins σ H s e s' I z => by obtain ⟨_, _, _, z⟩ := z; exact z.elim) cy) fun σ H Q h => ?_
 obtain ⟨φ, ph, ws, hH, hS, h⟩ := h
 unfold jc at h
 rw [cq] at h
 intro x dx hx Fz dP
 have FA : upd H dx (.own x) x = none := by rw [aM (Ne.symm dP)]; exact hx
 have hl : (ph ++ [PO.obj c []]).length = ph.length + 1 := by simp
 have s1 := BC (K := X.K) (φ := φ) (n := ph.length) (o := HO.own x) Fz
 have s2 := oU (K := X.K) (φ := φ) (n := ph.length) (o := HO.ins C dx []) FA
 have aD := (P9 (o := HO.own x) hH Fz).new FA (o := PO.obj c []) (x := HO.ins C dx []) ⟨C, dx, [], bD, bw, .nil⟩
 have q : ay X.K (ext φ ph.length x) (ph.length + 1) (upd (upd H dx (.own x)) x (.ins C dx [])) (.ref ph.length) (.ref (ext φ ph.length x ph.length)) := .ref (Nat.lt_succ_self _)
 rw [iQ] at q
 refine ⟨rfl, ext φ ph.length x, ph ++ [.obj c []], [.ref ph.length], aD, .cons (by rw [hl]; exact q) .nil, (tf (E' := fun _ _ => False) h).mono (fun w ph' h ak H' v uY s' rv => ?_) fun _ _ z => False.elim z⟩
 rw [hl] at s'
 cases rv with
 | az => exact ⟨rfl, h ak H' _ uY ((s1.trans s2).trans s') (q.mono s')⟩
 | _ => exact h.elim
theorem fS (bD : PySem.W.nsIn X.K mainGlobals c = some (some (.ref C))) (hc : h9 X.K C) (hn : fP X.K C f) (he : JE X e m) (hb : attributeBase e f X.env (eval e X.env) = eval e X.env := by rfl) : JE X (.Attribute e f pos) (cC c f m) := ⟨U0 bD hc hn he.h hb⟩
theorem nD (bD : PySem.W.nsIn X.K mainGlobals c = some (some (.ref C))) (hc : h9 X.K C) (hn : fP X.K C f) (hnc : tP value = true) (ho : JE X o mo) (hv : JE X value mv) : JS X (.Assign [.Attribute o f pos'] value pos) (fA c f mo mv) := ⟨U1 bD hc hn ho.h hv.h (we hnc)⟩
theorem xu {k : Nat} {g : Addr} {fd : FuncData} {s0 : Str} {fm : List W -> Mo W} (bD : PySem.W.nsIn X.K mainGlobals c = some (some (.ref C))) (M : Mk X.K C g) (F : bp X.prog X.w X.K X.mg X.base (bE X.prog X.w) k g fd [s0] (bN X.K X.mg 1 fm)) (hr : bV (k + 1) X.A)
  (hg : Gl X c) (hm : X.mg c = some (.ref C)) (hb : Binds X.K fd [s0] []) (cy : (c == ("__debug__" : Str)) = false) : JE X (.Call (.Name c p) [] [] pos) (jc c fm) := ⟨U2 bD M F hr hg hm hb cy⟩
end
def uB : W -> W -> Po W := oi fun i j => i + j
section
variable {X : Cx} {N : List Str} {sc : Scope} {e : Expr} {m : EM} {pos pos' : Pos}
theorem Sa {i : Nat} {g : Int -> Int -> Int} {D : Ends} {σ : L2.St} {H : Hp} (h : tS X (aC (ae (oi g) (aa i) m) (gN i)) D σ H) : En i (tM X m) (E0 g) D σ H := by
 obtain ⟨φ, ph, ws, hH, hS, h⟩ := h
 unfold aC ae at h
 rw [cq, cq] at h
 obtain ⟨w, ph', e, k⟩ := run_lift h
 split at e
 ·rename_i w' ew
  cases e
  obtain ⟨v, ev, rv⟩ := hS.get ew
  refine ⟨v, ev, ?_⟩
  rw [cq] at k
  refine ⟨φ, ph, ws, hH, hS, k.mono (fun y ph1 k au H1 vy aD s1 ry => ?_) fun _ _ z => z⟩
  obtain ⟨z, ph2, e, k⟩ := run_lift k
  have oo := rv.mono s1
  unfold oi at e
  split at e
  ·cases e
   cases oo
   cases ry
   refine ⟨_, _, rfl, rfl, ?_⟩
   exact k au H1 aD s1 _ ((hS.mono s1).set (.int _) i)
  ·cases e
 ·cases e
theorem eL.W5 (B : eL X N sc) (i : Nat) {x : Str} (hN : N[i]? = some x) (hl : Loc sc x) (he : JE X e m) : JS X (.AugAssign (.Name x pos') .Add e pos) (aC (ae uB (aa i) m) (gN i)) :=
 ⟨PS.imp (Tv (by rw [B.hN]; exact B.nd) (by rw [B.hN]; exact hN) (B.loc x hl) he.h Tw (B.fn x hl)) fun _ _ _ h => Sa h⟩
end
def uZ (lo : Int) (n : Nat) : It := ⟨fun i _ => i < n, fun i H x H' => H' = H /\ x = .int (lo - i), fun i _ => n <= i⟩
theorem Pb {P : Program} {w : World} {K : PySem.W.Frag} {tg : Expr} (it : Addr) (lo : Int) (n : Nat) : Turn P w K tg (uZ lo n) [it] it (fun i h => IsRangeIter h it (lo + (i : Nat) * (-1)) ((n : Int) - (i : Nat)) (-1)) where
 mem := by simp
 obj := fun i h st b hb => by
  have e : b = it := by simpa using hb
  subst e
  exact ⟨_, st, fun v z => by
   have z' : Data.fields _ = Data.cell v := z
   cases z'⟩
 keep := fun i h h' st k => k it (by simp) _ st
 item := by
  intro X hP hw hK hc i pins s σ H E I hf st hg
  subst hP hw hK
  obtain ⟨f0, f1, f2, f3, f4, f5⟩ := hf it (by simp)
  have W := Walks.range (prog := X.prog) (w := X.w) (I.ok.hd hc) it lo (-1) n
  refine W.item i s _ _ hg st fun v h' tk hv cJ kk => ?_
  obtain ⟨t, rfl⟩ := hv
  have I1 : Inv X pins σ H { s with heap := h', toks := tk } := I.turned (fun b o hb e => kk b o (by simpa using hb) e) f0 f1 f3 f4 f5
  refine ⟨_, rfl, xI (s := { s with heap := h', toks := tk }) (n := "range_iterator") cJ rfl rfl (by decide) ⟨.int (lo - i), H, I1, ⟨t, ?_⟩, ⟨rfl, rfl⟩, cJ, fun b hb => (hf b hb).1⟩⟩
  rw [show lo + (i : Int) * (-1) = lo - (i : Int) by omega]
 done := by
  intro X hP hw hK hc i pins s σ H E I hf st hg
  subst hP hw hK
  obtain ⟨f0, f1, f2, f3, f4, f5⟩ := hf it (by simp)
  exact wpAny_pyNext_range_end (I.ok.hd hc) st (by have : n <= i := hg; omega) fun h' eb => ⟨rfl, I.turned (t' := s.toks) (fun b o hb e => eb b o hb e) f0 f1 f3 f4 f5⟩
 self := fun _ _ _ _ _ st h => wpAny_pyIter_rangeiter st h
theorem rangeSize_down (lo hi : Int) : Builtin.Range.rangeSize lo hi (-1) = (((lo - hi).toNat : Nat) : Int) := by
 unfold Builtin.Range.rangeSize
 simp
 split <;> omega
theorem small_down {lo hi : Int} (h1 : -(2 ^ 62) <= lo) (h2 : lo < 2 ^ 62) (h3 : -(2 ^ 62) <= hi) (h4 : hi < 2 ^ 62) : Builtin.Range.small lo hi (-1) = true := by
 unfold Builtin.Range.small
 rw [rangeSize_down]
 simp only [Builtin.Range.rangeFitsLong, Bool.and_eq_true, Bool.or_eq_true, decide_eq_true_eq, beq_iff_eq, show ¬ ((-1 : Int) > 0) by decide, if_false]
 (try split) <;> omega
section
variable {X : Cx} {tg : Expr}
theorem Sb {pins : List (Addr × Obj)} {σ : L2.St} {H : Hp} {s : Shared} {R : It -> Hp -> Prop} {E : Value -> Shared -> Prop} {lo hi : Int} {t u v : Tok} {tk : Nat} (I : Inv X pins σ H s) (h1 : -(2 ^ 62) <= lo) (h2 : lo < 2 ^ 62) (h3 : -(2 ^ 62) <= hi) (h4 : hi < 2 ^ 62)
  (q : R (uZ lo (lo - hi).toNat) H) : wpAny (model X.prog X.w) X.A (pyIter (.ref s.heap.objs.size)) (yA X pins σ tg R) E { s with heap := s.heap.push { cls := .type "range", data := .fields #[.int lo t, .int hi u, .int (-1) v] }, toks := tk } := by
 refine wpAny_pyIter_range (IsRange.new ..) (small_down h1 h2 h3 h4) ?_
 have I1 : Inv X pins σ H { s with heap := s.heap.push { cls := .type "range", data := .fields #[.int lo t, .int hi u, .int (-1) v] }, toks := tk } := I.kept fun b o e => Heap.get?_push_of_some _ e
 refine ⟨(s.heap.push { cls := .type "range", data := .fields #[.int lo t, .int hi u, .int (-1) v] }).objs.size, [(s.heap.push { cls := .type "range", data := .fields #[.int lo t, .int hi u, .int (-1) v] }).objs.size], _, _, H, rfl,
  I1.kept (t' := tk) fun b o e => Heap.get?_push_of_some _ e, Pb _ lo (lo - hi).toNat, ?_, fun b hb => ?_, q⟩
 ·have e1 : lo + ((0 : Nat) : Int) * (-1) = lo := by simp
  have e2 : (((lo - hi).toNat : Nat) : Int) - ((0 : Nat) : Int) = Builtin.Range.rangeSize lo hi (-1) := by rw [rangeSize_down]; omega
  show IsRangeIter _ _ (lo + ((0 : Nat) : Int) * (-1)) ((((lo - hi).toNat : Nat) : Int) - ((0 : Nat) : Int)) (-1)
  rw [e1, e2]
  exact Heap.get?_push_size _ rfl
 ·have e : b = (s.heap.push { cls := .type "range", data := .fields #[.int lo t, .int hi u, .int (-1) v] }).objs.size := by simpa using hb
  subst e
  exact I1.pN (Nat.le_refl _) (I1.aF.fresh (Nat.le_refl _))
def W6 (ta : TA) : TI := fun σ H R => ta σ H fun vs H1 => ∃ i j : Int, vs = [.int i, .int j, .int (-1)] /\ (-(2 ^ 62) <= i /\ i < 2 ^ 62 /\ -(2 ^ 62) <= j /\ j < 2 ^ 62) /\ R (uZ i (i - j).toNat) H1
theorem Pc {a b c : Expr} {ta : TA} {p pos : Pos} (hg : Gl X "range") (hm : X.mg "range" = none) (ha : PA X [a, b, c] ta) (hs : starEach [a, b, c] X.env = (false, eval a X.env) :: starEach [b, c] X.env) (d5 : (backTo pos (starEach [b, c] X.env)).any (·.1) = false) :
  PI X tg (.Call (.Name "range" p) [a, b, c] [] pos) (W6 ta) := by
 intro pins s σ H R I h
 refine Call_ (nu I hg hm boot_range (PyProof.Rows.callWith_type1 (aT (ha pos pins s σ H _ I h) fun us s1 ⟨vs, H1, I1, r1, q1⟩ => ?_) hs d5))
 obtain ⟨i, j, e, ⟨q1, q2, q3, q4⟩, q⟩ := q1
 subst e
 cases r1 with
 | cons r rr =>
  cases rr with
  | cons r' rr =>
   cases rr with
   | cons r'' rr =>
    cases rr
    obtain ⟨t, rfl⟩ := r
    obtain ⟨t', rfl⟩ := r'
    obtain ⟨t'', rfl⟩ := r''
    exact call_range_3 (by decide) (Sb I1 q1 q2 q3 q4 q) (Or.inl (PyProof.noPylong_small (by omega)))
end
def jd (lo : Int) (n : Nat) : List W := (List.range n).map fun i : Nat => .int (lo - ((i : Nat) : Int))
def yj (xs : List W) : Po (List W × (PH -> Bool)) := fun ph => match xs with
 | [.int i, .int j, .int k] => if (-(2 ^ 62) <= i /\ i < 2 ^ 62 /\ -(2 ^ 62) <= j /\ j < 2 ^ 62) /\ k = -1 then some ((jd i (i - j).toNat, fun _ => true), ph) else none
 | _ => none
def qH (m : AM) : IM := fun σ => ap (m σ) fun xs => lift (yj xs)
theorem U3 {K : PySem.W.Frag} {lo : Int} {n : Nat} {chk : PH -> Bool} {φ : Nat -> Addr} {k : Nat} {H : Hp} : qr K (uZ lo n) (jd lo n) chk φ k H := by
 intro aS ph2 H2 aY s2 hc j
 unfold jd
 refine ⟨fun w fo => ?_, fun hn => ?_⟩
 ·rw [List.getElem?_map] at fo
  have hj : j < n := by
   by_cases hj : j < n
   ·exact hj
   ·rw [List.getElem?_eq_none (by simpa using hj)] at fo; cases fo
  rw [List.getElem?_range hj] at fo
  cases fo
  refine ⟨hj, fun x d7 hy => ?_⟩
  obtain ⟨rfl, rfl⟩ := hy
  exact ⟨aY, Step.refl, .int _⟩
 ·have : n <= j := by simpa using hn
  exact this
theorem Pd {X : Cx} {tg a b c : Expr} {am : AM} {p pos : Pos} (hg : Gl X "range") (hm : X.mg "range" = none) (hn : isStar a = false) (kd : isStar b = false) (hn3 : isStar c = false) (ha : JA X [a, b, c] am) : JI X tg (.Call (.Name "range" p) [a, b, c] [] pos) (qH am) := ⟨by
 refine PI.imp (Pc hg hm ha.h (e7 hn) (any_none (by simp [eh, kd, hn3]))) fun σ H R h => ?_
 obtain ⟨φ, ph, ws, hH, hS, h⟩ := h
 refine tA.bind hH hS h fun xs ph1 au H1 vs aD s1 r1 h => ?_
 obtain ⟨r, ph', e, k⟩ := run_lift h
 unfold yj at e
 split at e
 ·split at e
  ·rename_i hc
   obtain ⟨hc, rfl⟩ := hc
   cases e
   cases r1 with
   | cons r r' =>
    cases r
    cases r' with
    | cons r r' =>
     cases r
     cases r' with
     | cons r r' => cases r; cases r'; exact ⟨_, _, rfl, hc, k au H1 _ aD s1 U3⟩
  ·cases e
 ·cases e⟩
section
variable {X : Cx} {pins : List (Addr × Obj)} {σ : L2.St} {H : Hp} {s : Shared} {φ : Nat -> Addr} {ph : PH} {i : Nat} {kws : List (W × W)}
theorem tH (I : Inv X pins σ H s) (hH : ax X.K φ ph H) (hd : ph[i]? = some (.aQ kws)) (hk : kws.all (fun p => !fv p.1) = true) :
  ∃ kvs vs, bc X.K φ ph.length H kws kvs /\ KV kvs vs /\ s.heap.DictOf (bi X.prog X.w) (φ i) vs /\ (φ i == sysModules) = false /\ kvs.length <= sizeLine /\ (H (φ i) = some (.dK kvs) \/ (H (φ i) = some (.dT []) /\ kvs = [])) := by
 rcases hH.hp _ _ hd with ⟨kvs, e, r⟩ | ⟨kvs, e, r⟩
 ·obtain ⟨z, y, vs, rel, dd⟩ := nG I.aF e
  exact ⟨kvs, vs, r, rel, dd, y, z, .inl e⟩
 ·obtain ⟨rfl, rfl⟩ := r.yg hk
  obtain ⟨z, y, vs, rel, dd⟩ := nG (kvs := []) (gY I e).aF bw
  exact ⟨[], vs, .nil, rel, dd, y, Nat.zero_le _, .inr ⟨e, rfl⟩⟩
theorem Ct (I : Inv X pins σ H s) (hH : ax X.K φ ph H) (hd : ph[i]? = some (.aQ kws)) (hk : kws.all (fun p => fv p.1) = true) :
  ∃ kvs xs, bh X.K φ ph.length H kws kvs /\ KT H kvs xs /\ s.heap.DictOfH (tupleKind (bi X.prog X.w)) (φ i) xs /\ (φ i == sysModules) = false := by
 rcases hH.hp _ _ hd with ⟨kvs, e, r⟩ | ⟨kvs, e, r⟩
 ·obtain ⟨rfl, rfl⟩ := r.y0 hk
  obtain ⟨z, y, xs, rel, dd⟩ := nH (kvs := []) (gX I e).aF bw
  cases rel
  exact ⟨[], [], .nil, .nil, dd, y⟩
 ·obtain ⟨z, y, xs, rel, dd⟩ := nH I.aF e
  exact ⟨kvs, xs, r, rel, dd, y⟩
end
section
variable {prog : Program} {w : World} {A : Around} {E : Value -> Shared -> Prop} {s : Shared} {a b : Addr} {oa ob : Obj} {es fs : Array DictEntry} {ea eb : Nat}
def Met (prog : Program) (w : World) (A : Around) (E : Value -> Shared -> Prop) (s : Shared) (b : Addr) (fs : Array DictEntry) (x : DictEntry) (c : Bool) : Prop :=
 (c = false /\ ∀ P : Option Nat -> Shared -> Prop, P none s -> wpAny (model prog w) A (dictFind b x.key x.hash) P E s) \/
 ∃ j y, fs[j]? = some y /\ (∀ P : Option Nat -> Shared -> Prop, P (some j) s -> wpAny (model prog w) A (dictFind b x.key x.hash) P E s) /\ SeqAt.EqAt A s x.val y.val c
theorem BJ {nm : String} {c : Nat -> Bool} {Q : Bool -> Shared -> Prop} (na : (a == sysModules) = false) (nb : (b == sysModules) = false) (g1 : s.heap.get? a = some oa) (g2 : oa.data = .dict es ea) (g3 : s.heap.get? b = some ob) (g4 : ob.data = .dict fs eb)
  (met : es.size = fs.size -> ∀ i x, es[i]? = some x -> Met prog w A E s b fs x (c i)) (h : Q (es.size == fs.size && (List.range es.size).all c) s) : wpAny (model prog w) A (Builtin.Dict.samePairs nm a b) Q E s := by
 unfold Builtin.Dict.samePairs Builtin.Dict.showsAll
 rw [if_neg (by rw [na]; exact Bool.false_ne_true), if_neg (by rw [nb]; exact Bool.false_ne_true)]
 refine wpAny_bind (wpAny_pure (wpAny_bind (wpAny_pure (wpAny_bind (wpAny_dictEntries g1 g2 ?_)))))
 dsimp only
 refine wpAny_bind (wpAny_dictEntries g3 g4 ?_)
 by_cases sz : es.size = fs.size
 ·have met := met sz
  have h1 : Q ((List.range es.size).all c) s := by rw [sz, beq_self_eq_true, Bool.true_and] at h; rw [sz]; exact h
  rw [if_neg (by rw [sz]; simp)]
  refine wpAny_bind (wpAny_dictEpoch g1 g2 (wpAny_bind ?_))
  rw [Std.Legacy.Range.forIn_eq_forIn_range']
  simp only [Std.Legacy.Range.size, Nat.sub_zero, Nat.add_sub_cancel, Nat.div_one]
  refine wpAny_forIn_list _ (fun rest q s' => s' = s /\ q = (none, ()) /\ ∃ i, rest = List.range' i (es.size - i) /\ i <= es.size /\ ∀ k, k < i -> c k = true) _ ?_ ?_ _ _ ⟨rfl, rfl, 0, by simp, Nat.zero_le _, fun k hk => absurd hk (Nat.not_lt_zero _)⟩
  ·rintro x rest q s' ⟨rfl, rfl, i, er, hi, all⟩
   have lt : i < es.size := by
    by_cases z : i < es.size
    ·exact z
    ·rw [Nat.sub_eq_zero_of_le (Nat.le_of_not_lt z)] at er; simp at er
   have cut : List.range' i (es.size - i) = i :: List.range' (i + 1) (es.size - (i + 1)) := by
    rw [show es.size - i = (es.size - (i + 1)) + 1 by omega, List.range'_succ]
   rw [cut] at er
   injection er with e1 e2
   subst e1
   have bad : c x = false -> Q false s' := fun z => by
    have : (List.range es.size).all c = false := by
     rw [List.all_eq_false]
     exact ⟨x, List.mem_range.mpr lt, by rw [z]; decide⟩
    rw [this] at h1; exact h1
   refine wpAny_bind (wpAny_dictEntries g1 g2 ?_)
   rw [Array.getElem?_eq_getElem lt]
   rcases met x es[x] (Array.getElem?_eq_getElem lt) with ⟨z, find⟩ | ⟨j, y, ey, find, eq⟩
   ·show wpAny _ _ (holding [es[x].key, es[x].val] _ >>= _) _ _ _
    refine wpAny_bind (wpAny_holding (wpAny_bind (find _ (wpAny_pure ?_))))
    show wpAny _ _ (if (!false) = true then _ else _) _ _ _
    rw [if_pos (by decide)]
    exact wpAny_pure (wpAny_pure (bad z))
   ·show wpAny _ _ (holding [es[x].key, es[x].val] _ >>= _) _ _ _
    refine wpAny_bind (wpAny_holding (wpAny_bind (find _ (wpAny_bind (wpAny_dictEntries g3 g4 ?_)))))
    rw [ey]
    refine wpAny_holding (eq prog w _ _ ?_)
    cases z : c x with
    | false =>
     show wpAny _ _ (if (!false) = true then _ else _) _ _ _
     rw [if_pos (by decide)]
     exact wpAny_pure (wpAny_pure (bad z))
    | true =>
     show wpAny _ _ (if (!true) = true then _ else _) _ _ _
     rw [if_neg (by decide)]
     refine wpAny_bind (wpAny_dictEpoch g1 g2 ?_)
     rw [if_neg (by simp)]
     refine wpAny_pure ⟨rfl, rfl, x + 1, e2, lt, fun k hk => ?_⟩
     by_cases e : k = x
     ·rw [e]; exact z
     ·exact all k (by omega)
  ·rintro q s' ⟨rfl, rfl, i, er, hi, all⟩
   have ei : i = es.size := by
    by_cases z : i < es.size
    ·rw [show es.size - i = (es.size - (i + 1)) + 1 by omega, List.range'_succ] at er; exact nomatch er
    ·omega
   have : (List.range es.size).all c = true := by
    rw [List.all_eq_true]
    intro k hk
    exact all k (by rw [ei]; exact List.mem_range.mp hk)
   rw [this] at h1
   exact wpAny_pure h1
 ·rw [if_pos (by simpa using sz)]
  have : (es.size == fs.size) = false := by simpa using sz
  rw [this, Bool.false_and] at h
  exact wpAny_bind (wpAny_rule (wpAny_pure h))
theorem Dp {c : Nat -> Bool} {Q : Value -> Shared -> Prop} (ta : s.TypeIs (.ref a) "dict") (tb : s.TypeIs (.ref b) "dict") (hu : A.units < cLine) (na : (a == sysModules) = false) (nb : (b == sysModules) = false) (g1 : s.heap.get? a = some oa) (g2 : oa.data = .dict es ea) (g3 : s.heap.get? b = some ob) (g4 : ob.data = .dict fs eb)
  (met : es.size = fs.size -> ∀ E i x, es[i]? = some x -> Met prog w A.in1 E s b fs x (c i)) (h : Q (.bool (es.size == fs.size && (List.range es.size).all c)) s) : wpAny (model prog w) A (compareOp .Eq (.ref a) (.ref b)) Q E s := by
 refine wpAny_richCompare_same_room (op := .Eq) ta tb PySem.F.slot_dict_eq (wpAny_call_entry PySem.F.slot_dict_eq ta PySem.F.entry_dict_eq ?_ (PySem.F.args_dict_eq_2 _ _)) hu
 show wpAny _ _ ((Builtin.Dict.dictSlotArgs "__eq__" ⟨[Value.ref a, Value.ref b], []⟩) >>= _) _ _ s
 unfold Builtin.Dict.dictSlotArgs
 refine wpAny_bind (wpAny_bind (wpAny_notOrdered_dict ta ?_))
 show wpAny _ _ (pure (Value.ref a, Value.ref b)) _ _ s
 refine wpAny_pure (wpAny_bind (wpAny_isInstance tb (T := "dict") PySem.F.sub_dict_dict ?_))
 simp only [if_false, Bool.not_true, Bool.false_eq_true]
 refine wpAny_bind (wpAny_pure (wpAny_bind (wpAny_pure (wpAny_bind (BJ na nb g1 g2 g3 g4 (fun z i x e => met z _ i x e) ?_)))))
 refine wpAny_pure ⟨_, rfl, And.intro (fun x => by cases x) ?_⟩
 simpa using h
theorem U4 {c : Nat -> Bool} {Q : Value -> Shared -> Prop} (ta : s.TypeIs (.ref a) "dict") (tb : s.TypeIs (.ref b) "dict") (hu : A.units < cLine) (na : (a == sysModules) = false) (nb : (b == sysModules) = false) (g1 : s.heap.get? a = some oa) (g2 : oa.data = .dict es ea) (g3 : s.heap.get? b = some ob) (g4 : ob.data = .dict fs eb)
  (met : es.size = fs.size -> ∀ E i x, es[i]? = some x -> Met prog w A.in1 E s b fs x (c i)) (h : Q (.bool (!(es.size == fs.size && (List.range es.size).all c))) s) : wpAny (model prog w) A (compareOp .NotEq (.ref a) (.ref b)) Q E s := by
 refine wpAny_richCompare_same_room (op := .NotEq) ta tb PySem.F.slot_dict_ne (wpAny_call_entry PySem.F.slot_dict_ne ta PySem.F.entry_dict_ne ?_ (PySem.F.args_dict_ne_2 _ _)) hu
 show wpAny _ _ ((Builtin.Dict.dictSlotArgs "__ne__" ⟨[Value.ref a, Value.ref b], []⟩) >>= _) _ _ s
 unfold Builtin.Dict.dictSlotArgs
 refine wpAny_bind (wpAny_bind (wpAny_notOrdered_dict ta ?_))
 show wpAny _ _ (pure (Value.ref a, Value.ref b)) _ _ s
 refine wpAny_pure (wpAny_bind (wpAny_isInstance tb (T := "dict") PySem.F.sub_dict_dict ?_))
 simp only [if_false, Bool.not_true, Bool.false_eq_true]
 refine wpAny_bind (wpAny_pure (wpAny_bind (wpAny_pure (wpAny_bind (BJ na nb g1 g2 g3 g4 (fun z i x e => met z _ i x e) ?_)))))
 refine wpAny_pure ⟨_, rfl, And.intro (fun x => by cases x) ?_⟩
 simpa using h
end
section
variable {X : Cx} {pins : List (Addr × Obj)} {σ : L2.St} {H : Hp} {s : Shared} {φ : Nat -> Addr} {ph : PH}
theorem xP (I : Inv X pins σ H s) (hH : ax X.K φ ph H) {A : Around} (hu : A.units + 41 < cLine) {x y : W} {v v' : V} {u u' : Value} {b : Bool} (r1 : ay X.K φ ph.length H x v) (q1 : RelV v u) (r2 : ay X.K φ ph.length H y v') (q2 : RelV v' u') (e : bO ph x y = some b) : SeqAt.EqAt A s u u' b := by
 obtain ⟨dx, dy, e1, e2, rfl⟩ := sY e
 obtain ⟨⟨as, k1⟩, c1, l1⟩ := gi I hH 40 r1 q1 e1
 obtain ⟨⟨bs, k2⟩, c2, l2⟩ := gi I hH 40 r2 q2 e2
 intro prog w E Q hQ
 exact SeqAt.eqBoolOverData prog w _ E s u u' dx dy as bs Q k1 k2 c1 c2 (by omega) hQ
end
def jo (ph : PH) (kb : List (W × W)) (p : W × W) : Option Bool := match bP kb p.1 with
 | none => some false
 | some y => bO ph p.2 y
def iZ (ph : PH) (ka kb : List (W × W)) : Option Bool :=
 if ((ka.all (fun p => !fv p.1) && kb.all (fun p => !fv p.1)) || (ka.all (fun p => fv p.1) && kb.all (fun p => fv p.1))) = true then
  if ka.length = kb.length then (bf (jo ph kb) ka).map (fun bs => bs.all id) else some false
 else none
theorem lO {α β : Type} {f : α -> Option β} : ∀ {as : List α} {bs : List β}, bf f as = some bs -> bs.length = as.length /\ ∀ (i : Nat) a, as[i]? = some a -> ∃ b, bs[i]? = some b /\ f a = some b
 | [], bs, h => by cases h; exact ⟨rfl, fun i a e => by simp at e⟩
 | a :: as, bs, h => by
  unfold bf at h
  split at h
  ·rename_i b yO e1 e2
   cases h
   obtain ⟨l, g⟩ := lO e2
   refine ⟨by simp [l], fun i x e => ?_⟩
   cases i with
   | zero => simp at e; subst e; exact ⟨b, rfl, e1⟩
   | succ i => simpa using g i x (by simpa using e)
  ·cases h
theorem bc.at {K : PySem.W.Frag} {φ : Nat -> Addr} {n : Nat} {H : Hp} : ∀ {kws : List (W × W)} {kvs : List (Key × V)} {i : Nat} {k : Key} {v : V}, bc K φ n H kws kvs -> kvs[i]? = some (k, v) -> ∃ w, kws[i]? = some (bq k, w) /\ ay K φ n H w v
 | _, _, i, _, _, .nil, e => by simp at e
 | _, _, 0, _, _, .cons h r, e => by simp at e; obtain ⟨rfl, rfl⟩ := e; exact ⟨_, rfl, h⟩
 | _, _, i + 1, _, _, .cons h r, e => by
  obtain ⟨w, e1, e2⟩ := bc.at (i := i) r (by simpa using e)
  exact ⟨w, by simpa using e1, e2⟩
theorem bh.at {K : PySem.W.Frag} {φ : Nat -> Addr} {n : Nat} {H : Hp} : ∀ {kws : List (W × W)} {kvs : List (List Key × V)} {i : Nat} {k : List Key} {v : V}, bh K φ n H kws kvs -> kvs[i]? = some (k, v) -> ∃ w, kws[i]? = some (.tup (k.map bq), w) /\ ay K φ n H w v
 | _, _, i, _, _, .nil, e => by simp at e
 | _, _, 0, _, _, .cons h r, e => by simp at e; obtain ⟨rfl, rfl⟩ := e; exact ⟨_, rfl, h⟩
 | _, _, i + 1, _, _, .cons h r, e => by
  obtain ⟨w, e1, e2⟩ := bh.at (i := i) r (by simpa using e)
  exact ⟨w, by simpa using e1, e2⟩
theorem sP {α β : Type} {F : α -> β -> Prop} : ∀ {l : List α} {m : List β} {i : Nat} {b : β}, Paired F l m -> m[i]? = some b -> ∃ a, l[i]? = some a /\ F a b
 | _, _, i, _, .nil, e => by simp at e
 | _, _, 0, _, .cons h r, e => by simp at e; subst e; exact ⟨_, rfl, h⟩
 | _, _, i + 1, _, .cons h r, e => by
  obtain ⟨a, e1, e2⟩ := sP (i := i) r (by simpa using e)
  exact ⟨a, by simpa using e1, e2⟩
section
variable {X : Cx} {pins : List (Addr × Obj)} {σ : L2.St} {H : Hp} {s : Shared} {φ : Nat -> Addr} {ph : PH} {ka kb : List (W × W)} {bs : List Bool} {prog : Program} {w : World} {A : Around} {E : Value -> Shared -> Prop}
theorem W7 (I : Inv X pins σ H s) (hH : ax X.K φ ph H) (hu : A.units + 41 < cLine) {fI eg : List (Key × V)} {va vb : List (Key × Value)} {b : Addr} {ob : Obj} {es fs : Array DictEntry} {eb : Nat} (ra : bc X.K φ ph.length H ka fI) (rb : bc X.K φ ph.length H kb eg) (qa : KV fI va) (qb : KV eg vb)
  (ea : KeysOf (bi prog w) es) (pa : Pairs (bi prog w) es.toList va) (g3 : s.heap.get? b = some ob) (g4 : ob.data = .dict fs eb) (ef : KeysOf (bi prog w) fs) (pf : Pairs (bi prog w) fs.toList vb) (hb : bf (jo ph kb) ka = some bs) {i : Nat} {x : DictEntry} (hx : es[i]? = some x) :
  Met prog w A E s b fs x ((bs[i]?).getD true) := by
 have y8 : i < es.size := (Array.getElem?_eq_some_iff.mp hx).1
 have bz : es.size = va.length := by rw [<- pa.length]; simp
 obtain ⟨⟨k, v⟩, hv⟩ : ∃ p, va[i]? = some p := ⟨va[i]'(by omega), List.getElem?_eq_getElem _⟩
 obtain ⟨hk, Yy⟩ := pa.get? (i := i) (e := x) (by rw [Array.getElem?_toList]; exact hx) hv
 obtain ⟨⟨k1, vv⟩, e1, e2, rv⟩ := sP qa hv
 simp only at e2 rv
 subst e2
 obtain ⟨wv, e3, zk⟩ := ra.at e1
 obtain ⟨c, e4, e5⟩ := (lO hb).2 i _ e3
 rw [e4, Option.getD_some]
 obtain ⟨k', qv, hh⟩ := ea x (by obtain ⟨_, e⟩ := Array.getElem?_eq_some_iff.mp hx; rw [<- e]; exact Array.getElem_mem _)
 have ek : k' = k1 := (bi prog w).inj _ _ _ qv hk
 subst ek
 have find : ∀ P : Option Nat -> Shared -> Prop, P (fs.findIdx? fun e => (bi prog w).is k' e.key) s -> wpAny (model prog w) A (dictFind b x.key x.hash) P E s := fun P hP => by
  rw [hh]
  exact wpAny_dictFind_of qv g3 g4 ef hP
 have jp : findBy (bi prog w).is fs k' = valueAt vb k' := by
  rw [<- pf.find k']
  obtain ⟨l⟩ := fs
  simp [findBy]
 rw [findBy_of_findIdx?] at jp
 have ro := rb.val k'
 have rq := qb.val k'
 unfold jo at e5
 simp only at e5
 cases q : bP kb (bq k') with
 | none =>
  rw [q] at e5 ro
  cases q2 : d4 eg k' with
  | some z => rw [q2] at ro; exact ro.elim
  | none =>
   rw [q2] at rq
   cases q3 : valueAt vb k' with
   | some z => rw [q3] at rq; exact rq.elim
   | none =>
    rw [q3] at jp
    cases e5
    refine .inl ⟨rfl, fun P hP => find P ?_⟩
    cases q4 : fs.findIdx? fun e => (bi prog w).is k' e.key with
    | none => exact hP
    | some j =>
     rw [q4] at jp
     obtain ⟨hj, _⟩ := Array.findIdx?_eq_some_iff_getElem.mp q4
     simp [hj] at jp
 | some y =>
  rw [q] at e5 ro
  cases q2 : d4 eg k' with
  | none => rw [q2] at ro; exact ro.elim
  | some z =>
   rw [q2] at rq ro
   cases q3 : valueAt vb k' with
   | none => rw [q3] at rq; exact rq.elim
   | some u =>
    rw [q3] at jp rq
    cases q4 : fs.findIdx? fun e => (bi prog w).is k' e.key with
    | none => rw [q4] at jp; cases jp
    | some j =>
     rw [q4] at jp
     simp only [Option.map_eq_some_iff] at jp
     obtain ⟨f, hf1, zl⟩ := jp
     refine .inr ⟨j, f, hf1, fun P hP => find P (by rw [q4]; exact hP), ?_⟩
     rw [Yy, zl]
     exact xP I hH hu zk rv ro rq e5
theorem W8 (I : Inv X pins σ H s) (hH : ax X.K φ ph H) (hu : A.units + 41 < cLine) {fI eg : List (List Key × V)} {va vb : List (List Key × Addr × Value)} {b : Addr} {ob : Obj} {es fs : Array DictEntry} {eb : Nat} (ra : bh X.K φ ph.length H ka fI) (rb : bh X.K φ ph.length H kb eg) (qa : KT H fI va) (qb : KT H eg vb)
  (ea : es.toList = va.map (entryOfKey (tupleKind (bi X.prog X.w)))) (ia : ∀ x ∈ va, (tupleKind (bi X.prog X.w)).is s.heap x.1 x.2.1) (g3 : s.heap.get? b = some ob) (g4 : ob.data = .dict fs eb)
  (ef : fs.toList = vb.map (entryOfKey (tupleKind (bi X.prog X.w)))) (if_ : ∀ x ∈ vb, (tupleKind (bi X.prog X.w)).is s.heap x.1 x.2.1) (nf : (vb.map (·.1)).Nodup) (hb : bf (jo ph kb) ka = some bs) {i : Nat} {x : DictEntry} (hx : es[i]? = some x) :
  Met X.prog X.w A E s b fs x ((bs[i]?).getD true) := by
 rw [entry_at ea] at hx
 obtain ⟨⟨k, a, v⟩, hv, rfl⟩ := Option.map_eq_some_iff.mp hx
 obtain ⟨⟨k1, vv⟩, e1, e2, hT, rv⟩ := sP qa hv
 simp only at e2 rv hT
 subst e2
 obtain ⟨wv, e3, zk⟩ := ra.at e1
 obtain ⟨c, e4, e5⟩ := (lO hb).2 i _ e3
 rw [e4, Option.getD_some]
 have mr := ia _ (List.mem_of_getElem? hv)
 have find : ∀ P : Option Nat -> Shared -> Prop, ((∀ (j : Nat) (p : Addr × Value), vb[j]? ≠ some (k1, p)) -> P none s) -> (∀ (j : Nat) (p : Addr × Value), vb[j]? = some (k1, p) -> P (some j) s) -> wpAny (model X.prog X.w) A (dictFind b (.ref a) ((tupleKind (bi X.prog X.w)).hash k1)) P E s := fun P h1 h2 =>
  wpAny_dictFind_heap (knd := tupleKind (bi X.prog X.w)) (by show A.units < cLine; omega) mr g3 g4 ef if_ nf h1 h2
 have ro := rb.val k1
 have rq := qb.val k1
 unfold jo at e5
 simp only at e5
 cases q : bP kb (.tup (k1.map bq)) with
 | none =>
  rw [q] at e5 ro
  cases q2 : d4 eg k1 with
  | some z => rw [q2] at ro; exact ro.elim
  | none =>
   rw [q2] at rq
   cases q3 : atKey vb k1 with
   | some z => rw [q3] at rq; exact rq.elim
   | none =>
    cases e5
    refine .inl ⟨rfl, fun P hP => find P (fun _ => hP) fun j p hj => ?_⟩
    rw [atKey_of_get nf hj] at q3
    cases q3
 | some y =>
  rw [q] at e5 ro
  cases q2 : d4 eg k1 with
  | none => rw [q2] at ro; exact ro.elim
  | some z =>
   rw [q2] at rq ro
   cases q3 : atKey vb k1 with
   | none => rw [q3] at rq; exact rq.elim
   | some u =>
    rw [q3] at rq
    obtain ⟨j, hj⟩ : ∃ j, vb[j]? = some (k1, u) := by
     unfold atKey at q3
     obtain ⟨⟨k2, u2⟩, f1, f2⟩ := Option.map_eq_some_iff.mp q3
     have f3 := List.find?_some f1
     simp only [decide_eq_true_eq] at f3
     obtain ⟨j, hj⟩ := List.mem_iff_getElem?.mp (List.mem_of_find?_eq_some f1)
     exact ⟨j, by rw [hj, <- f3, <- f2]⟩
    refine .inr ⟨j, entryOfKey (tupleKind (bi X.prog X.w)) (k1, u), by rw [entry_at ef, hj]; rfl, fun P hP => find P (fun n => absurd hj (n j u)) fun j' p hj' => by rw [idxH_unique nf hj' hj]; exact hP, ?_⟩
    exact xP I hH hu zk rv ro rq e5
end
section
variable {X : Cx} {pins : List (Addr × Obj)} {σ : L2.St} {H : Hp} {s : Shared} {φ : Nat -> Addr} {ph : PH} {ka kb : List (W × W)} {prog : Program} {w : World} {A : Around} {E : Value -> Shared -> Prop} {i j : Nat} {r : Bool}
def DV (prog : Program) (w : World) (A : Around) (s : Shared) (a b : Addr) (r : Bool) : Prop := ∃ (oa ob : Obj) (es fs : Array DictEntry) (ea eb : Nat) (c : Nat -> Bool), s.TypeIs (.ref a) "dict" /\ s.TypeIs (.ref b) "dict" /\ (a == sysModules) = false /\ (b == sysModules) = false /\
 s.heap.get? a = some oa /\ oa.data = .dict es ea /\ s.heap.get? b = some ob /\ ob.data = .dict fs eb /\ (es.size = fs.size -> ∀ E i x, es[i]? = some x -> Met prog w A E s b fs x (c i)) /\ r = (es.size == fs.size && (List.range es.size).all c)
theorem wQ {bs : List Bool} {n : Nat} (h : bs.length = n) : ((List.range n).all fun i => (bs[i]?).getD true) = bs.all id := by subst h; exact Cm bs
theorem EI (I : Inv X pins σ H s) (hH : ax X.K φ ph H) (hu : A.units + 41 < cLine) {fI eg : List (Key × V)} {va vb : List (Key × Value)} {a b : Addr} (ra : bc X.K φ ph.length H ka fI) (rb : bc X.K φ ph.length H kb eg) (qa : KV fI va) (qb : KV eg vb)
  (da : s.heap.DictOf (bi prog w) a va) (db : s.heap.DictOf (bi prog w) b vb) (na : (a == sysModules) = false) (nb : (b == sysModules) = false) (e : (if ka.length = kb.length then (bf (jo ph kb) ka).map (fun bs => bs.all id) else some false) = some r) : DV prog w A s a b r := by
 have ta := da.typeIs
 have tb := db.typeIs
 obtain ⟨oa, es, ea, g1, c1, g2, ky1, p1, n1⟩ := da
 obtain ⟨ob, fs, eb, g3, c3, g4, ky3, p3, n3⟩ := db
 have l1 : es.size = ka.length := by rw [ra.len, qa.length, <- p1.length]; simp
 have l3 : fs.size = kb.length := by rw [rb.len, qb.length, <- p3.length]; simp
 split at e
 ·rename_i hl
  obtain ⟨bs, hb, rfl⟩ := Option.map_eq_some_iff.mp e
  refine ⟨oa, ob, es, fs, ea, eb, fun i => (bs[i]?).getD true, ta, tb, na, nb, g1, g2, g3, g4, fun _ E i x hx => W7 I hH hu ra rb qa qb ky1 p1 g3 g4 ky3 p3 hb hx, ?_⟩
  rw [wQ ((lO hb).1.trans l1.symm), l1, l3, hl, beq_self_eq_true, Bool.true_and]
 ·rename_i hl
  cases e
  refine ⟨oa, ob, es, fs, ea, eb, fun _ => true, ta, tb, na, nb, g1, g2, g3, g4, fun z => absurd (by omega) hl, ?_⟩
  rw [show (es.size == fs.size) = false by rw [l1, l3]; exact beq_eq_false_iff_ne.mpr hl, Bool.false_and]
theorem Yz (I : Inv X pins σ H s) (hH : ax X.K φ ph H) (hu : A.units + 41 < cLine) {fI eg : List (List Key × V)} {va vb : List (List Key × Addr × Value)} {a b : Addr} (ra : bh X.K φ ph.length H ka fI) (rb : bh X.K φ ph.length H kb eg) (qa : KT H fI va) (qb : KT H eg vb)
  (da : s.heap.DictOfH (tupleKind (bi X.prog X.w)) a va) (db : s.heap.DictOfH (tupleKind (bi X.prog X.w)) b vb) (na : (a == sysModules) = false) (nb : (b == sysModules) = false) (e : (if ka.length = kb.length then (bf (jo ph kb) ka).map (fun bs => bs.all id) else some false) = some r) : DV X.prog X.w A s a b r := by
 have ta := da.typeIs
 have tb := db.typeIs
 obtain ⟨oa, es, ea, g1, c1, g2, p1, i1, n1⟩ := da
 obtain ⟨ob, fs, eb, g3, c3, g4, p3, i3, n3⟩ := db
 have l1 : es.size = ka.length := by rw [ra.len, Paired.length qa, size_of_entries p1]
 have l3 : fs.size = kb.length := by rw [rb.len, Paired.length qb, size_of_entries p3]
 split at e
 ·rename_i hl
  obtain ⟨bs, hb, rfl⟩ := Option.map_eq_some_iff.mp e
  refine ⟨oa, ob, es, fs, ea, eb, fun i => (bs[i]?).getD true, ta, tb, na, nb, g1, g2, g3, g4, fun _ E i x hx => W8 I hH hu ra rb qa qb p1 i1 g3 g4 p3 i3 n3 hb hx, ?_⟩
  rw [wQ ((lO hb).1.trans l1.symm), l1, l3, hl, beq_self_eq_true, Bool.true_and]
 ·rename_i hl
  cases e
  refine ⟨oa, ob, es, fs, ea, eb, fun _ => true, ta, tb, na, nb, g1, g2, g3, g4, fun z => absurd (by omega) hl, ?_⟩
  rw [show (es.size == fs.size) = false by rw [l1, l3]; exact beq_eq_false_iff_ne.mpr hl, Bool.false_and]
theorem D6 (I : Inv X pins σ H s) (hH : ax X.K φ ph H) (hu : A.units + 41 < cLine) (hi : ph[i]? = some (.aQ ka)) (hj : ph[j]? = some (.aQ kb)) (e : iZ ph ka kb = some r) : DV X.prog X.w A s (φ i) (φ j) r := by
 unfold iZ at e
 split at e
 ·rename_i hk
  rw [Bool.or_eq_true, Bool.and_eq_true, Bool.and_eq_true] at hk
  rcases hk with ⟨h1, h2⟩ | ⟨h1, h2⟩
  ·obtain ⟨fI, va, ra, qa, da, na, _⟩ := tH I hH hi h1
   obtain ⟨eg, vb, rb, qb, db, nb, _⟩ := tH I hH hj h2
   exact EI I hH hu ra rb qa qb da db na nb e
  ·obtain ⟨fI, va, ra, qa, da, na⟩ := Ct I hH hi h1
   obtain ⟨eg, vb, rb, qb, db, nb⟩ := Ct I hH hj h2
   exact Yz I hH hu ra rb qa qb da db na nb e
 ·cases e
def li : W -> Bool
 | .int _ => true
 | _ => false
theorem bc.ints {K : PySem.W.Frag} {n : Nat} : ∀ {kws : List (W × W)} {kvs : List (Key × V)}, bc K φ n H kws kvs -> kws.all (fun p => li p.1) = true -> ∀ p ∈ kvs, ∃ i, p.1 = Sum.inl i
 | _, _, .nil, _, p, hp => nomatch hp
 | _, _, .cons (k := k) h r, e, p, hp => by
  rw [List.all_cons, Bool.and_eq_true] at e
  rcases List.mem_cons.mp hp with rfl | hp
  ·cases k with
   | inl i => exact ⟨i, rfl⟩
   | inr x => exact absurd e.1 (by simp [li, bq])
  ·exact bc.ints r e.2 p hp
theorem Bk {P P' : Program} {w w' : World} {h : Heap} {a : Addr} {vs : List (Key × Value)} (d : h.DictOf (bi P w) a vs) (hi : ∀ p ∈ vs, ∃ i, p.1 = Sum.inl i) : h.DictOf (bi P' w') a vs := by
 obtain ⟨o, es, ep, g1, g2, g3, ky, ps, nd⟩ := d
 refine ⟨o, es, ep, g1, g2, g3, fun x hx => ?_, ?_, nd⟩
 ·obtain ⟨k, hk, hh⟩ := ky x hx
  obtain ⟨i, ed⟩ := Array.mem_iff_getElem?.mp hx
  have y8 : i < es.size := (Array.getElem?_eq_some_iff.mp ed).1
  have bz : es.size = vs.length := by rw [<- ps.length]; simp
  obtain ⟨⟨k1, v1⟩, hv⟩ : ∃ p, vs[i]? = some p := ⟨vs[i]'(by omega), List.getElem?_eq_getElem _⟩
  obtain ⟨lj, _⟩ := ps.get? (i := i) (e := x) (by rw [Array.getElem?_toList]; exact ed) hv
  have : k = k1 := (bi P w).inj _ _ _ hk lj
  subst this
  obtain ⟨n, hn⟩ := hi _ (List.mem_of_getElem? hv)
  simp only at hn
  subst hn
  exact ⟨.inl n, hk, hh⟩
 ·clear ky nd hi
  revert ps
  generalize es.toList = l
  intro ps
  induction ps with
  | nil => exact .nil
  | cons h1 h2 _ ih => exact .cons h1 h2 ih
theorem U5 (I : Inv X pins σ H s) (hH : ax X.K φ ph H) (hu : A.units + 41 < cLine) (hi : ph[i]? = some (.aQ ka)) (hj : ph[j]? = some (.aQ kb)) (ia : ka.all (fun p => li p.1) = true) (ib : kb.all (fun p => li p.1) = true) (e : iZ ph ka kb = some r) : DV prog w A s (φ i) (φ j) r := by
 have nt : ∀ {l : List (W × W)}, l.all (fun p => li p.1) = true -> l.all (fun p => !fv p.1) = true := fun {l} h => by
  rw [List.all_eq_true] at h ⊢
  intro p hp
  have := h p hp
  revert this
  cases p.1 <;> simp [li, fv]
 unfold iZ at e
 rw [nt ia, nt ib] at e
 rw [if_pos (by simp)] at e
 obtain ⟨fI, va, ra, qa, da, na, _⟩ := tH I hH hi (nt ia)
 obtain ⟨eg, vb, rb, qb, db, nb, _⟩ := tH I hH hj (nt ib)
 have up : ∀ {kvs : List (Key × V)} {vs : List (Key × Value)}, KV kvs vs -> (∀ p ∈ kvs, ∃ i, p.1 = Sum.inl i) -> ∀ p ∈ vs, ∃ i, p.1 = Sum.inl i := fun q h p hp => by
  obtain ⟨n, hn⟩ := List.mem_iff_getElem?.mp hp
  obtain ⟨a, e1, e2, _⟩ := sP q hn
  obtain ⟨i, hi⟩ := h a (List.mem_of_getElem? e1)
  exact ⟨i, by rw [<- e2, hi]⟩
 exact EI I hH hu ra rb qa qb (Bk da (up qa (ra.ints ia))) (Bk db (up qb (rb.ints ib))) na nb e
theorem DV.rc {a b : Addr} (hu : A.units < cLine) (h : ∀ prog w, DV prog w A.in1 s a b r) : SeqAt.RcAt A s (.ref a) (.ref b) r := fun prog w E Q hq => by
 obtain ⟨oa, ob, es, fs, ea, eb, c, ta, tb, na, nb, g1, g2, g3, g4, met, rfl⟩ := h prog w
 exact Dp ta tb hu na nb g1 g2 g3 g4 met hq
end
def zm (ph : PH) (x y : W) : Option Bool := match bO ph x y with
 | some b => some b
 | none => match dB x ph, dB y ph with
  | some p, some q => if p.1 = q.1 then some true else if (p.2.all (fun z => li z.1) && q.2.all (fun z => li z.1)) = true then iZ ph p.2 q.2 else none
  | _, _ => none
def eqT (ph : PH) (x y : W) : Option Bool := match x, y with
 | .tup xs, .tup ys => if xs.length = ys.length then (bf (fun p : W × W => zm ph p.1 p.2) (xs.zip ys)).map (fun bs => bs.all id) else none
 | _, _ => none
def zo (ph : PH) (x y : W) : Option Bool := match bO ph x y with
 | some b => some b
 | none => match dB x ph, dB y ph with
  | some p, some q => iZ ph p.2 q.2
  | _, _ => eqT ph x y
def uC (ph : PH) (x y : W) : Option Bool := match bO ph x y with
 | some b => some b
 | none => match dB x ph, dB y ph with
  | some p, some q => iZ ph p.2 q.2
  | _, _ => none
def E7 : W -> W -> Po W := fun x y ph => (zo ph x y).map fun b => (.bl b, ph)
def mQ : W -> W -> Po W := fun x y ph => (uC ph x y).map fun b => (.bl (!b), ph)
def rG (K : PySem.W.Frag) (f : Bool -> Bool) : R2 := fun x y H Q => ∃ φ ph wx wy b, ax K φ ph H /\ ay K φ ph.length H wx x /\ ay K φ ph.length H wy y /\ zo ph wx wy = some b /\ Q (.bl (f b)) H
def FC (K : PySem.W.Frag) (f : Bool -> Bool) : R2 := fun x y H Q => ∃ φ ph wx wy b, ax K φ ph H /\ ay K φ ph.length H wx x /\ ay K φ ph.length H wy y /\ uC ph wx wy = some b /\ Q (.bl (f b)) H
theorem W9 {K : PySem.W.Frag} : cf K (FC K fun b => !b) mQ := by
 intro φ ph H x y vx vy w ph' Q hH rx ry e k
 obtain ⟨b, e1, e2⟩ := Option.map_eq_some_iff.mp e
 cases e2
 exact ⟨φ, ph, x, y, b, hH, rx, ry, e1, k φ H _ hH Step.refl (.bl _)⟩
section
variable {X : Cx} {pins : List (Addr × Obj)} {σ : L2.St} {H : Hp} {s : Shared} {φ : Nat -> Addr} {ph : PH} {A : Around} {b : Bool}
theorem U6 (I : Inv X pins σ H s) (hH : ax X.K φ ph H) (hu : A.units + 44 < cLine) {x y : W} {v v' : V} {u u' : Value} (r1 : ay X.K φ ph.length H x v) (q1 : RelV v u) (r2 : ay X.K φ ph.length H y v') (q2 : RelV v' u') (e : zm ph x y = some b) : SeqAt.EqAt A s u u' b := by
 unfold zm at e
 split at e
 ·rename_i b' e'
  cases e
  exact xP I hH (by omega) r1 q1 r2 q2 e'
 ·split at e
  ·rename_i p q hp hq
   obtain ⟨i, ka⟩ := p
   obtain ⟨j, kb⟩ := q
   obtain ⟨rfl, hi, qI, rfl⟩ := fN hH r1 hp
   obtain ⟨rfl, hj, qJ, rfl⟩ := fN hH r2 hq
   cases q1
   cases q2
   split at e
   ·rename_i kj
    simp only at kj
    subst kj
    cases e
    exact SeqAt.EqAt.same _
   ·rename_i kj
    split at e
    ·rename_i hk
     rw [Bool.and_eq_true] at hk
     exact SeqAt.EqAt.of_refs (fun z => kj (hH.inj _ _ hi hj z)) (DV.rc (by omega) fun prog w => U5 I hH (by show A.units + 1 + 41 < cLine; omega) qI qJ hk.1 hk.2 e)
    ·cases e
  ·cases e
theorem U7 (I : Inv X pins σ H s) (hH : ax X.K φ ph H) (hu : A.units + 50 < cLine) {x y : W} {v v' : V} {u u' : Value} (r1 : ay X.K φ ph.length H x v) (q1 : RelV v u) (r2 : ay X.K φ ph.length H y v') (q2 : RelV v' u') (e : eqT ph x y = some b) :
  ∃ p q, u = .ref p /\ u' = .ref q /\ ∃ its dg : List Value, s.heap.IsTuple p its.toArray /\ s.heap.IsTuple q dg.toArray /\ its.length = dg.length /\ ∃ c : Nat -> Bool, (∀ j (h1 : j < its.length) (h2 : j < dg.length), SeqAt.EqAt A.in1 s its[j] dg[j] (c j)) /\ b = (List.range its.length).all c := by
 unfold eqT at e
 split at e
 ·rename_i xs ys
  split at e
  ·rename_i hl
   obtain ⟨bs, hb, rfl⟩ := Option.map_eq_some_iff.mp e
   cases r1 with
   | tup h1 FD =>
    cases r2 with
    | tup h2 FE =>
     cases q1
     cases q2
     obtain ⟨its, FF, pl1, _⟩ := I.tuple (ce.of h1)
     obtain ⟨dg, qA, y3, _⟩ := I.tuple (ce.of h2)
     have l1 := FD.length.trans FF.length
     have l2 := FE.length.trans qA.length
     have hz : (xs.zip ys).length = its.length := by rw [List.length_zip]; omega
     refine ⟨_, _, rfl, rfl, its, dg, pl1, y3, by omega, fun i => (bs[i]?).getD true, fun j j1 j2 => ?_, (wQ ((lO hb).1.trans hz)).symm⟩
     have jx : j < xs.length := by omega
     have jy : j < ys.length := by omega
     obtain ⟨c, e4, e5⟩ := (lO hb).2 j (xs[j], ys[j]) (by rw [List.getElem?_eq_getElem (by omega), List.getElem_zip])
     show SeqAt.EqAt A.in1 s its[j] dg[j] ((bs[j]?).getD true)
     rw [e4, Option.getD_some]
     obtain ⟨v1, ev1, YA⟩ := FD.get (List.getElem?_eq_getElem jx)
     obtain ⟨v2, ev2, YB⟩ := FE.get (List.getElem?_eq_getElem jy)
     obtain ⟨u1, FG, ru1⟩ := FF.get ev1
     obtain ⟨u2, FH, ru2⟩ := qA.get ev2
     have w1 : its[j] = u1 := by rw [List.getElem?_eq_getElem j1] at FG; exact Option.some.inj FG
     have w2 : dg[j] = u2 := by rw [List.getElem?_eq_getElem j2] at FH; exact Option.some.inj FH
     rw [w1, w2]
     exact U6 I hH (by show A.units + 1 + 44 < cLine; omega) YA ru1 YB ru2 e5
  ·cases e
 ·cases e
end
theorem aag {X : Cx} (hu : X.A.units + 64 < cLine) : bG X (compareOp .Eq) (rG X.K fun b => b) := by
 intro pins s σ H x y v u Q I rx ry h
 obtain ⟨φ, ph, wx, wy, b, hH, r1, r2, e, q⟩ := h
 unfold zo at e
 split at e
 ·rename_i b' e'
  cases e
  exact De hu pins s σ H x y v u Q I rx ry ⟨φ, ph, wx, wy, b, hH, r1, r2, e', q⟩
 ·split at e
  ·rename_i p1 p2 hp hq
   obtain ⟨i, ka⟩ := p1
   obtain ⟨j, kb⟩ := p2
   obtain ⟨rfl, hi, qI, rfl⟩ := fN hH r1 hp
   obtain ⟨rfl, hj, qJ, rfl⟩ := fN hH r2 hq
   cases rx
   cases ry
   obtain ⟨oa, ob, es, fs, ea, eb, c, ta, tb, na, nb, g1, g2, g3, g4, met, rfl⟩ := D6 (A := X.A.in1) I hH (by show X.A.units + 1 + 41 < cLine; omega) qI qJ e
   exact Dp ta tb (by omega) na nb g1 g2 g3 g4 met ⟨.bl _, H, I, rfl, q⟩
  ·obtain ⟨p, q', rfl, rfl, its, dg, t1, t2, hl, c, hc, rfl⟩ := U7 (A := X.A) I hH (by omega) r1 rx r2 ry e
   refine SeqAt.eq_tupleAt (e := c) t1 t2 (by omega) (fun j h1 h2 => by simpa using hc j (by simpa using h1) (by simpa using h2)) ?_
   have : ((List.range (min its.toArray.size dg.toArray.size)).all c && its.toArray.size == dg.toArray.size) = (List.range its.length).all c := by
    simp [hl]
   rw [this]
   exact ⟨.bl _, H, I, rfl, q⟩
theorem U8 {X : Cx} (hu : X.A.units + 64 < cLine) : bG X (compareOp .NotEq) (FC X.K fun b => !b) := by
 intro pins s σ H x y v u Q I rx ry h
 obtain ⟨φ, ph, wx, wy, b, hH, r1, r2, e, q⟩ := h
 unfold uC at e
 split at e
 ·rename_i b' e'
  cases e
  exact Df hu pins s σ H x y v u Q I rx ry ⟨φ, ph, wx, wy, b, hH, r1, r2, e', q⟩
 ·split at e
  ·rename_i p1 p2 hp hq
   obtain ⟨i, ka⟩ := p1
   obtain ⟨j, kb⟩ := p2
   obtain ⟨rfl, hi, qI, rfl⟩ := fN hH r1 hp
   obtain ⟨rfl, hj, qJ, rfl⟩ := fN hH r2 hq
   cases rx
   cases ry
   obtain ⟨oa, ob, es, fs, ea, eb, c, ta, tb, na, nb, g1, g2, g3, g4, met, rfl⟩ := D6 (A := X.A.in1) I hH (by show X.A.units + 1 + 41 < cLine; omega) qI qJ e
   exact U4 ta tb (by omega) na nb g1 g2 g3 g4 met ⟨.bl _, H, I, rfl, q⟩
  ·cases e
def bo (x : Str) : Bool := !(x == ("__debug__" : Str)) && !(x == ("__classdict__" : Str))
section
variable {X : Cx} {N : List Str} {sc : Scope} {k : Nat} {b : Expr}
theorem eL.jv {pos : Pos} (B : eL X N sc) (i : Nat) {x : Str} (hN : N[i]? = some x) (hv : aJ sc x) (hk : bo x = true) : JE X (.Name x pos) (aa i) := by
 unfold bo at hk
 rw [Bool.and_eq_true] at hk
 exact B.Ys i hN hv (by simpa using hk.1) (by simpa using hk.2)
theorem dQ.aj {pos : Pos} {a : Expr} {ma mb : EM} (B : dQ X N sc k) (ha : JE X a ma) (hb : JE X b mb) (hp : wH b := by intro _ _; rfl) : JE X (.Subscript a b pos) (ae aj ma mb) := B.UU hp ha hb
theorem dQ.YC (B : dQ X N sc k) : Cp X .NotEq b mQ := ⟨⟨_, U8 B.room.units, W9⟩, lV _⟩
end
section
variable {prog : Program} {w : World} {A : Around} {E : Value -> Shared -> Prop} {s : Shared}
theorem Pe {b : Bool} {Q : Int -> Shared -> Prop} (h : Q (hashInt (if b then 1 else 0)) { s with toks := s.toks + 1 }) : wpAny (model prog w) A (pyHash (.bool b)) Q E s := by
 have hr := rawHash_range (if b then 1 else 0)
 have tb : s.TypeIs (.bool b) "bool" := rfl
 have hv : [Value.bool b].any Value.onHeap = false := rfl
 show wpAny _ _ (pyHashByItsType (.bool b)) Q E s
 unfold pyHashByItsType
 refine wpAny_bind ?_
 rw [cRoomFor, if_neg (by rw [hv]; exact Bool.false_ne_true)]
 refine wpAny_pure (wpAny_bind (wpAny_specialOf tb PySem.F.slot_bool_hash.lookup ?_))
 rw [if_neg (by rw [beq_builtin_none]; exact Bool.false_ne_true)]
 refine wpAny_bind (wpAny_specialOf tb PySem.F.slot_bool_hash.lookup ?_)
 show wpAny _ _ (callSpecialIfBoundUnlessNone? (.bool b) "__hash__" _ >>= _) Q E s
 refine wpAny_bind (wpAny_callSpecialIfBoundUnlessNone?_slot tb PySem.F.slot_bool_hash (wpAny_call_entry PySem.F.slot_bool_hash tb PySem.F.entry_int_hash (show wpAny _ _ (do PySem.ret (<- mkInt (rawHash (if b then 1 else 0)))) _ _ s from wpAny_ret_mkInt ?_) (PySem.F.args_int_hash_1 _)))
 show wpAny _ _ (if (decide (-(2 : Int) ^ 63 <= rawHash (if b then 1 else 0)) && decide (rawHash (if b then 1 else 0) < 2 ^ 63)) = true then _ else _) Q E _
 rw [if_pos (by rw [decide_eq_true hr.1, decide_eq_true hr.2]; rfl)]
 exact wpAny_pure h
theorem Pf {Q : Int -> Shared -> Prop} (h : Q 0xFCA86420 { s with toks := s.toks + 1 }) : wpAny (model prog w) A (pyHash .none) Q E s := by
 have tb : s.TypeIs .none "NoneType" := rfl
 have hv : [Value.none].any Value.onHeap = false := rfl
 show wpAny _ _ (pyHashByItsType .none) Q E s
 unfold pyHashByItsType
 refine wpAny_bind ?_
 rw [cRoomFor, if_neg (by rw [hv]; exact Bool.false_ne_true)]
 refine wpAny_pure (wpAny_bind (wpAny_specialOf tb PySem.F.slot_NoneType_hash.lookup ?_))
 rw [if_neg (by rw [beq_builtin_none]; exact Bool.false_ne_true)]
 refine wpAny_bind (wpAny_specialOf tb PySem.F.slot_NoneType_hash.lookup ?_)
 show wpAny _ _ (callSpecialIfBoundUnlessNone? .none "__hash__" _ >>= _) Q E s
 refine wpAny_bind (wpAny_callSpecialIfBoundUnlessNone?_slot tb PySem.F.slot_NoneType_hash (wpAny_call_entry PySem.F.slot_NoneType_hash tb PySem.F.entry_NoneType_hash (show wpAny _ _ (do PySem.ret (<- mkInt 0xFCA86420)) _ _ s from wpAny_ret_mkInt ?_) (PySem.F.args_NoneType_hash_1 _)))
 show wpAny _ _ (if (decide (-(2 : Int) ^ 63 <= (0xFCA86420 : Int)) && decide ((0xFCA86420 : Int) < 2 ^ 63)) = true then _ else _) Q E _
 rw [if_pos (by decide)]
 exact wpAny_pure h
def Quiet (prog : Program) (w : World) (A : Around) (E : Value -> Shared -> Prop) (s : Shared) (v : Value) : Prop := ∀ Q : Bool -> Shared -> Prop, Q true s -> wpAny (model prog w) A (eqIsQuiet 8 v) Q E s
theorem Bl {v : Value} (h : carriedByValue v = true) : Quiet prog w A E s v := by
 intro Q hq
 cases v <;> first | exact wpAny_pure hq | exact absurd h (by simp [carriedByValue])
theorem AX {es : Array DictEntry} {h : Int} {i : Nat} (hi : i ∈ placesWithHash es.size (fun i => es[i]?.map (·.hash)) h) : ∃ e, es[i]? = some e /\ e.hash = h := by
 rw [placesWithHash, List.mem_filter] at hi
 obtain ⟨_, q⟩ := hi
 cases z : es[i]? with
 | none => rw [z] at q; cases q
 | some e => rw [z] at q; exact ⟨e, rfl, by simpa using q⟩
theorem Of {es : Array DictEntry} {h : Int} {i : Nat} {e : DictEntry} (h1 : es[i]? = some e) (h2 : e.hash = h) : i ∈ placesWithHash es.size (fun i => es[i]?.map (·.hash)) h := by
 rw [placesWithHash, List.mem_filter, List.mem_range]
 exact ⟨(Array.getElem?_eq_some_iff.mp h1).1, by rw [h1]; simp [h2]⟩
def FI (es : Array DictEntry) (h : Int) (c : Nat -> Bool) : Option Nat -> Prop
 | none => ∀ i e, es[i]? = some e -> e.hash = h -> c i = false
 | some j => (∃ e, es[j]? = some e /\ e.hash = h) /\ c j = true /\ ∀ i e, es[i]? = some e -> e.hash = h -> c i = true -> i = j
theorem U9 {d : Addr} {o : Obj} {es : Array DictEntry} {ep : Nat} {key : Value} {h : Int} {c : Nat -> Bool} {r : Option Nat} {ps : List Nat} {Q : Option Nat -> Shared -> Prop} (ho : s.heap.get? d = some o) (hd : o.data = .dict es ep)
  (he : ∀ (i : Nat) (e : DictEntry), es[i]? = some e -> e.hash = h -> SeqAt.EqAt A s e.key key (c i)) (mem : ∀ i ∈ ps, ∃ e, es[i]? = some e /\ e.hash = h) (fin : (∀ i ∈ ps, c i = false) -> r = none) (hit : ∀ i ∈ ps, c i = true -> r = some i) (hQ : Q r s) :
  wpAny (model prog w) A (dictWalkPlain d key h es ps) Q E s := by
 unfold dictWalkPlain
 refine wpAny_bind ?_
 refine wpAny_forIn_list _ (fun rest b s' => s' = s /\ b = (none, ()) /\ ∃ done, ps = done ++ rest /\ ∀ i ∈ done, c i = false) _ ?_ ?_ _ _ ⟨rfl, rfl, [], rfl, fun i hi => nomatch hi⟩
 ·rintro x rest b s' ⟨rfl, rfl, done, hp, hc⟩
  have hx : x ∈ ps := by rw [hp]; simp
  obtain ⟨e, e1, e2⟩ := mem x hx
  rw [e1]
  show wpAny _ _ (if (e.hash == h) = true then _ else _) _ _ _
  rw [if_pos (by rw [e2]; simp)]
  refine wpAny_bind (wpAny_dictEpoch ho hd (wpAny_bind (he x e e1 e2 prog w _ _ (wpAny_bind (wpAny_dictEpoch ho hd ?_)))))
  show wpAny _ _ (if (ep != ep) = true then _ else _) _ _ _
  rw [if_neg (by simp)]
  cases q : c x with
  | true =>
   show wpAny _ _ (if true = true then _ else _) _ _ _
   rw [if_pos rfl]
   refine wpAny_bind (wpAny_rule (wpAny_pure ?_))
   rw [hit x hx q] at hQ
   exact wpAny_pure hQ
  | false =>
   show wpAny _ _ (if false = true then _ else _) _ _ _
   rw [if_neg Bool.false_ne_true]
   refine wpAny_bind (wpAny_rule (wpAny_pure ⟨rfl, rfl, done ++ [x], by rw [hp]; simp, fun i hi => ?_⟩))
   rcases List.mem_append.mp hi with hi | hi
   ·exact hc i hi
   ·rw [List.mem_singleton.mp hi]; exact q
 ·rintro b s' ⟨rfl, rfl, done, hp, hc⟩
  rw [fin fun i hi => hc i (by rw [hp] at hi; simpa using hi)] at hQ
  exact wpAny_pure hQ
def EJ (key : Value) : Prop := (∃ b, key = .ref b) \/ key = .none
theorem Va {d : Addr} {o : Obj} {es : Array DictEntry} {ep : Nat} {key : Value} {h : Int} {c : Nat -> Bool} {r : Option Nat} {Q : Option Nat -> Shared -> Prop} (ho : s.heap.get? d = some o) (hd : o.data = .dict es ep) (mr : EJ key)
    (he : ∀ (i : Nat) (e : DictEntry), es[i]? = some e -> e.hash = h -> SeqAt.EqAt A s e.key key (c i)) (Xa : ∀ (i : Nat) (e : DictEntry), es[i]? = some e -> e.key = key -> e.hash = h) (hq : Quiet prog w A E s key) (hqs : ∀ (i : Nat) (e : DictEntry), es[i]? = some e -> Quiet prog w A E s e.key) (hr : FI es h c r) (hQ : Q r s) :
    wpAny (model prog w) A (dictFind d key h) Q E s := by
  have fin : (∀ i ∈ placesWithHash es.size (fun i => es[i]?.map (·.hash)) h, c i = false) -> r = none := fun hc => by
    cases r with
    | none => rfl
    | some j =>
      obtain ⟨⟨e, h1, h2⟩, h3, _⟩ := hr
      have := hc j (Of h1 h2)
      rw [h3] at this; cases this
  have hit : ∀ i ∈ placesWithHash es.size (fun i => es[i]?.map (·.hash)) h, c i = true -> r = some i := fun i hi hc => by
    obtain ⟨e, h1, h2⟩ := AX hi
    cases r with
    | none => rw [hr i e h1 h2] at hc; cases hc
    | some j => rw [hr.2.2 i e h1 h2 hc]
  have FJ : ∀ v ∈ (placesWithHash es.size (fun i => es[i]?.map (·.hash)) h).filterMap (fun i => es[i]?.map (·.key)), Quiet prog w A E s v := fun v hv => by
    obtain ⟨i, _, q⟩ := List.mem_filterMap.mp hv
    cases z : es[i]? with
    | none => rw [z] at q; cases q
    | some e => rw [z] at q; cases q; exact hqs i e z
  have YD : ¬ (es.any fun e => e.key == key && e.hash != h) = true := by
    rw [Array.any_eq_true]
    rintro ⟨i, hi, q⟩
    rw [Bool.and_eq_true, beq_iff_eq, bne_iff_ne] at q
    exact q.2 (Xa i es[i] (Array.getElem?_eq_getElem hi) q.1)
  unfold dictFind
  refine wpAny_holding (wpAny_bind (wpAny_dictEntries ho hd ?_))
  generalize uX : placesWithHash es.size (fun i => es[i]?.map (·.hash)) h = ps at fin hit FJ
  have mem : ∀ i ∈ ps, ∃ e, es[i]? = some e /\ e.hash = h := fun i hi => AX (uX ▸ hi)
  have tell : ∀ {P : Bool -> Shared -> Prop}, P false s -> wpAny (model prog w) A (tableMayTell key (ps.filterMap fun i => es[i]?.map (·.key))) P E s := fun {P} hP => by
    unfold tableMayTell
    split
    · exact wpAny_pure hP
    · refine wpAny_bind (hq _ ?_)
      simp only [if_false, Bool.not_true, Bool.false_eq_true]
      refine wpAny_bind ?_
      refine wpAny_forIn_list _ (fun rest b s' => s' = s /\ b = (none, ()) /\ ∀ v ∈ rest, Quiet prog w A E s v) _ ?_ ?_ _ _ ⟨rfl, rfl, FJ⟩
      · rintro x rest b s' ⟨rfl, rfl, hv⟩
        refine wpAny_bind (hv x List.mem_cons_self _ ?_)
        simp only [if_false, Bool.not_true, Bool.false_eq_true]
        exact wpAny_pure ⟨rfl, rfl, fun v q => hv v (List.mem_cons_of_mem _ q)⟩
      · rintro b s' ⟨rfl, rfl, _⟩
        exact wpAny_pure hP
  rcases mr with ⟨b, rfl⟩ | rfl <;>
  ( dsimp only
    refine wpAny_ite_split (fun _ => U9 ho hd he mem fin hit hQ) (fun _ => ?_)
    try refine wpAny_ite_split (fun z => absurd z YD) (fun _ => ?_)
    refine wpAny_ite_split (fun _ => wpAny_bind (wpAny_pure ?_)) (fun _ => wpAny_bind (tell ?_)) <;>
    ( rw [if_neg (by simp)]
      refine wpAny_bind ?_
      refine wpAny_forIn_list _ (fun rest b s' => s' = s /\ ∃ done n5, b = (none, n5) /\ ps = done ++ rest /\ ((n5 = none /\ ∀ i ∈ done, c i = false) \/ ∃ j ∈ done, n5 = some j /\ c j = true)) _ ?_ ?_ _ _ ⟨rfl, [], none, rfl, rfl, .inl ⟨rfl, fun i hi => nomatch hi⟩⟩
      · rintro x rest b s' ⟨rfl, done, n5, rfl, hp, hc⟩
        have hx : x ∈ ps := by rw [hp]; simp
        have nd : ps.Nodup := by rw [<- uX, placesWithHash]; exact List.Nodup.sublist (List.filter_sublist ..) List.nodup_range
        obtain ⟨e, e1, e2⟩ := mem x hx
        rw [e1]
        dsimp only
        rw [if_pos (by rw [e2]; simp)]
        refine wpAny_bind (wpAny_dictEpoch ho hd (wpAny_bind (he x e e1 e2 prog w _ _ (wpAny_bind (wpAny_dictEpoch ho hd ?_)))))
        rw [if_neg (by simp)]
        have xd : x ∉ done := by
          rw [hp, List.nodup_append] at nd
          exact fun z => nd.2.2 x z x (by simp) rfl
        cases q : c x with
        | true =>
          rw [if_pos rfl]
          rcases hc with ⟨rfl, hc⟩ | ⟨j, hj, _, qK⟩
          · simp only [Option.isSome_none, Bool.false_eq_true, if_false]
            refine wpAny_bind (wpAny_rule ?_)
            refine wpAny_ite_split (fun _ => wpAny_pure ?_) (fun _ => wpAny_pure ⟨rfl, done ++ [x], some x, rfl, by rw [hp]; simp, .inr ⟨x, by simp, rfl, q⟩⟩)
            rw [hit x hx q] at hQ
            exact wpAny_pure hQ
          · have z1 := hit x hx q
            rw [hit j (by rw [hp]; simp [hj]) qK] at z1
            cases z1
            exact absurd hj xd
        | false =>
          rw [if_neg Bool.false_ne_true]
          refine wpAny_bind (wpAny_rule ?_)
          rw [if_neg (by simp)]
          refine wpAny_pure ⟨rfl, done ++ [x], n5, rfl, by rw [hp]; simp, ?_⟩
          rcases hc with ⟨z, hc⟩ | ⟨j, hj, z, qK⟩
          · refine .inl ⟨z, fun i hi => ?_⟩
            rcases List.mem_append.mp hi with hi | hi
            · exact hc i hi
            · rw [List.mem_singleton.mp hi]; exact q
          · exact .inr ⟨j, by simp [hj], z, qK⟩
      · rintro b s' ⟨rfl, done, n5, rfl, hp, hc⟩
        rw [List.append_nil] at hp
        subst hp
        rcases hc with ⟨rfl, hc⟩ | ⟨j, hj, rfl, qK⟩
        · rw [fin hc] at hQ
          exact wpAny_pure hQ
        · rw [hit j hj qK] at hQ
          exact wpAny_pure hQ))
end
def qL : Key -> Value -> Bool
 | .inl i, .bool b => i == (if b then 1 else 0)
 | k, v => l5 k v
theorem jD {k : Key} {v : Value} (h : qL k v = true) : (∃ i t, k = Sum.inl i /\ v = Value.int i t) \/ (∃ x t, k = Sum.inr x /\ v = Value.str x t) \/ ∃ b, k = Sum.inl (if b then 1 else 0) /\ v = Value.bool b := by
 unfold qL at h
 split at h
 ·rename_i i b
  exact .inr (.inr ⟨b, by rw [eq_of_beq h], rfl⟩)
 ·rcases gO h with q | q
  ·exact .inl q
  ·exact .inr (.inl q)
def me (prog : Program) (w : World) : PySem.KeyKind prog w Key where
 is := qL
 hash := kX w
 inj := fun v a b ha hb => by
  rcases jD ha with ⟨i, t, rfl, rfl⟩ | ⟨x, t, rfl, rfl⟩ | ⟨c, rfl, rfl⟩ <;> rcases jD hb with ⟨j, u, rfl, e⟩ | ⟨y, u, rfl, e⟩ | ⟨d, rfl, e⟩ <;> first | (cases e; done) | (cases e; rfl)
 byValue := fun k v h => by
  rcases jD h with ⟨i, t, rfl, rfl⟩ | ⟨x, t, rfl, rfl⟩ | ⟨c, rfl, rfl⟩ <;> rfl
 pyHash := fun hv h => by
  rcases jD hv with ⟨i, t, rfl, rfl⟩ | ⟨x, t, rfl, rfl⟩ | ⟨c, rfl, rfl⟩
  ·exact wpAny_pyHash_int h
  ·exact wpAny_pyHash_str h
  ·exact Pe h
 eqBool := fun hu hv h => by
  rcases jD hu with ⟨i, t, rfl, rfl⟩ | ⟨x, t, rfl, rfl⟩ | ⟨c, rfl, rfl⟩
  ·rcases jD hv with ⟨j, u, rfl, rfl⟩ | ⟨y, u, rfl, rfl⟩ | ⟨d, rfl, rfl⟩
   ·rw [tN] at h; exact wpAny_eqBool_int h
   ·rw [xh] at h; exact SeqAt.EqAt.int_str i t y u _ _ _ _ h
   ·rw [tN] at h; exact SeqAt.EqAt.int_bool i t d _ _ _ _ h
  ·rcases jD hv with ⟨j, u, rfl, rfl⟩ | ⟨y, u, rfl, rfl⟩ | ⟨d, rfl, rfl⟩
   ·rw [xi] at h; exact SeqAt.EqAt.str_int x t j u _ _ _ _ h
   ·rw [C2] at h; exact wpAny_eqBool_str h
   ·rw [xi] at h; exact SeqAt.EqAt.str_bool x t d _ _ _ _ h
  ·rcases jD hv with ⟨j, u, rfl, rfl⟩ | ⟨y, u, rfl, rfl⟩ | ⟨d, rfl, rfl⟩
   ·rw [tN] at h; exact SeqAt.EqAt.bool_int c j u _ _ _ _ h
   ·rw [xh] at h; exact SeqAt.EqAt.bool_str c y u _ _ _ _ h
   ·have e : decide ((Sum.inl (if c then 1 else 0) : Key) = Sum.inl (if d then 1 else 0)) = (c == d) := by cases c <;> cases d <;> decide
    rw [e] at h; exact SeqAt.EqAt.bool_bool c d _ _ _ _ h
 «strs» := fun k x t v h => by
  rcases jD h with ⟨i, u, rfl, e⟩ | ⟨y, u, rfl, e⟩ | ⟨c, rfl, e⟩
  ·exact nomatch e
  ·injection e with e1 _
   subst e1
   cases v <;> rfl
  ·exact nomatch e
theorem jM {v : V} {u : Value} {k : Key} (h : uA v = some k) (r : RelV v u) : qL k u = true := by
 cases v with
 | int i => cases h; obtain ⟨t, rfl⟩ := r; exact A6 i t
 | bl b => cases h; obtain rfl : u = Value.bool b := r; simp [qL]
 | str x => cases h; obtain ⟨t, rfl⟩ := r; exact A7 x t
 | _ => cases h
theorem Dq {P : Program} {w : World} : ∀ {ts : List V} {us : List Value} {ks : List Key}, hX ts = some ks -> Vals ts us -> ItemsAre (me P w) ks us
 | [], _, ks, h, .nil => by cases h; exact .nil
 | v :: vs, _, ks, h, .cons r t => by
  unfold hX at h
  split at h
  ·rename_i k FK h1 h2
   cases h
   exact .cons (jM h1 r) (Dq h2 t)
  ·cases h
def UK (P : Program) (w : World) (H : Hp) (v : V) (h : Int) : Prop := (∃ k, uA v = some k /\ h = kX w k) \/ (v = .az /\ h = 0xFCA86420) \/ ∃ b ts ks, v = .ref b /\ H b = some (.tup ts) /\ hX ts = some ks /\ h = tupleKeyHash (bi P w) ks
section
variable {X : Cx} {pins : List (Addr × Obj)} {σ : L2.St} {H : Hp} {s : Shared} {A : Around} {E : Value -> Shared -> Prop} {v : V} {u : Value} {h : Int}
theorem UK.tup {b : Addr} {ts : List V} {ks : List Key} (I : Inv X pins σ H s) (e : H b = some (.tup ts)) (hk : hX ts = some ks) : IsTupleKey (me X.prog X.w) s.heap ks b := by
 obtain ⟨_, its, r, o, h1, h2, n, h3⟩ := (show b8 X.prog X.w H s.heap b (.tup ts) from I.aF b _ e)
 exact ⟨o, its.toArray, n, h1, h2, h3, by simpa using Dq hk r⟩
theorem UK.hash {Q : Int -> Shared -> Prop} (I : Inv X pins σ H s) (k : UK X.prog X.w H v h) (r : RelV v u) (hu : A.units < cLine) (hQ : ∀ t, Q h { s with toks := t }) : wpAny (model X.prog X.w) A (pyHash u) Q E s := by
 rcases k with ⟨k, h1, rfl⟩ | ⟨rfl, rfl⟩ | ⟨b, ts, ks, rfl, h1, h2, rfl⟩
 ·exact (me X.prog X.w).pyHash (jM h1 r) (hQ _)
 ·obtain rfl : u = Value.none := r
  exact Pf (hQ _)
 ·obtain rfl : u = Value.ref b := r
  exact wpAny_pyHash_tuple (knd := me X.prog X.w) hu (UK.tup I h1 h2) (hQ _)
theorem UK.quiet (I : Inv X pins σ H s) (k : UK X.prog X.w H v h) (r : RelV v u) : Quiet X.prog X.w A E s u := by
 rcases k with ⟨k, h1, rfl⟩ | ⟨rfl, rfl⟩ | ⟨b, ts, ks, rfl, h1, h2, rfl⟩
 ·exact Bl ((me X.prog X.w).byValue k u (jM h1 r))
 ·obtain rfl : u = Value.none := r
  exact Bl rfl
 ·obtain rfl : u = Value.ref b := r
  exact fun Q hq => wpAny_eqIsQuiet_tuple (knd := me X.prog X.w) (UK.tup I h1 h2) hq
theorem UK.same {v' : V} {h' : Int} (k : UK X.prog X.w H v h) (k' : UK X.prog X.w H v' h') (r : L2.RelV v u) (r' : L2.RelV v' u) : h = h' := by
 rcases k with ⟨k, h1, rfl⟩ | ⟨rfl, rfl⟩ | ⟨b, ts, ks, rfl, h1, h2, rfl⟩ <;> rcases k' with ⟨k', q1, rfl⟩ | ⟨rfl, rfl⟩ | ⟨b', ts', FK, rfl, q1, q2, rfl⟩
 ·rw [(me X.prog X.w).inj u k k' (jM h1 r) (jM q1 r')]
 ·have := jM h1 r; rw [show u = Value.none from r'] at this; cases k <;> cases this
 ·have := jM h1 r; rw [show u = Value.ref b' from r'] at this; cases k <;> cases this
 ·have := jM q1 r'; rw [show u = Value.none from r] at this; cases k' <;> cases this
 ·rfl
 ·have e : Value.none = Value.ref b' := (show u = Value.none from r).symm.trans r'; cases e
 ·have := jM q1 r'; rw [show u = Value.ref b from r] at this; cases k' <;> cases this
 ·have e : Value.ref b = Value.none := (show u = Value.ref b from r).symm.trans r'; cases e
 ·have e : Value.ref b = Value.ref b' := (show u = Value.ref b from r).symm.trans r'
  cases e
  rw [h1] at q1
  cases q1
  rw [h2] at q2
  cases q2
  rfl
end
def kA : W -> Option Key
 | .int i => some (.inl i)
 | .bl b => some (.inl (if b then 1 else 0))
 | .str x => some (.inr x)
 | _ => none
def u0 : List W -> Option (List Key)
 | [] => some []
 | v :: vs => match kA v, u0 vs with
  | some k, some ks => some (k :: ks)
  | _, _ => none
def kW : W -> Option (Option (Key ⊕ List Key))
 | .az => some none
 | .tup ws => (u0 ws).map fun ks => some (.inr ks)
 | _ => none
def hQ (P : Program) (w : World) : Option (Key ⊕ List Key) -> Int
 | none => 0xFCA86420
 | some (.inl k) => kX w k
 | some (.inr ks) => tupleKeyHash (bi P w) ks
section
variable {K : PySem.W.Frag} {φ : Nat -> Addr} {n : Nat} {H : Hp}
theorem YE {x : W} {v : V} {k : Key} (r : ay K φ n H x v) (h : kA x = some k) : uA v = some k := by
 cases r <;> first | exact h | cases h
theorem D7 : ∀ {xs : List W} {vs : List V} {ks : List Key}, aK K φ n H xs vs -> u0 xs = some ks -> hX vs = some ks
 | [], _, ks, .nil, h => h
 | x :: xs, _, ks, .cons r t, h => by
  unfold u0 at h
  split at h
  ·rename_i k FK h1 h2
   cases h
   unfold hX
   rw [YE r h1, D7 t h2]
  ·cases h
theorem pF {P : Program} {w : World} {x : W} {v : V} {q : Option (Key ⊕ List Key)} (r : ay K φ n H x v) (h : kW x = some q) : UK P w H v (hQ P w q) := by
 cases r with
 | az => cases h; exact .inr (.inl ⟨rfl, rfl⟩)
 | bl b => cases h
 | int i => cases h
 | str x => cases h
 | tup h0 r0 =>
  obtain ⟨ks, e1, e2⟩ := Option.map_eq_some_iff.mp h
  subst e2
  exact .inr (.inr ⟨_, _, ks, rfl, h0, D7 r0 e1, rfl⟩)
 | fl => cases h
 | ref => cases h
 | exc => cases h
theorem cj.len : ∀ {kws : List (W × W)} {kvs : List (V × V)}, cj K φ n H kws kvs -> kws.length = kvs.length
 | _, _, .nil => rfl
 | _, _, .cons _ _ r => congrArg (· + 1) (cj.len r)
theorem cj.get : ∀ {kws : List (W × W)} {kvs : List (V × V)} {i : Nat} {q : V × V}, cj K φ n H kws kvs -> kvs[i]? = some q -> ∃ p, kws[i]? = some p /\ ay K φ n H p.1 q.1 /\ ay K φ n H p.2 q.2
 | _, _, _, _, .nil, e => by simp at e
 | _, _, 0, _, .cons hk h _, e => by simp at e; subst e; exact ⟨_, rfl, hk, h⟩
 | _, _, i + 1, q, .cons _ _ r, e => by
  obtain ⟨p, h1, h2⟩ := cj.get (i := i) (q := q) r (by simpa using e)
  exact ⟨p, by simpa using h1, h2⟩
theorem cj.snoc {k w : W} {u v : V} (hk : ay K φ n H k u) (h : ay K φ n H w v) : ∀ {kws : List (W × W)} {kvs : List (V × V)}, cj K φ n H kws kvs -> cj K φ n H (kws ++ [(k, w)]) (kvs ++ [(u, v)])
 | _, _, .nil => .cons hk h .nil
 | _, _, .cons a b r => .cons a b (cj.snoc hk h r)
theorem cj.modify {w : W} {v : V} (h : ay K φ n H w v) : ∀ {kws : List (W × W)} {kvs : List (V × V)} (j : Nat), cj K φ n H kws kvs -> cj K φ n H (kws.modify j fun p => (p.1, w)) (kvs.modify j fun p => (p.1, v))
 | _, _, j, .nil => by simp; exact .nil
 | _, _, 0, .cons a b r => .cons a h r
 | _, _, j + 1, .cons a b r => .cons a b (cj.modify h j r)
end
theorem Paired.modify {α β : Type} {F : α -> β -> Prop} {f : α -> α} {g : β -> β} (hf : ∀ a b, F a b -> F (f a) (g b)) : ∀ {l : List α} {m : List β} (j : Nat), Paired F l m -> Paired F (l.modify j f) (m.modify j g)
 | _, _, j, .nil => by simp; exact .nil
 | _, _, 0, .cons a r => .cons (hf _ _ a) r
 | _, _, j + 1, .cons a r => .cons a (Paired.modify hf j r)
theorem Paired.D8 {α β : Type} {F : α -> β -> Prop} {a : α} {b : β} (h : F a b) : ∀ {l : List α} {m : List β}, Paired F l m -> Paired F (l ++ [a]) (m ++ [b])
 | _, _, .nil => .cons h .nil
 | _, _, .cons a r => .cons a (Paired.D8 h r)
theorem Paired.right {α β : Type} {F : α -> β -> Prop} : ∀ {l : List α} {m : List β} {i : Nat} {b : β}, Paired F l m -> m[i]? = some b -> ∃ a, l[i]? = some a /\ F a b
 | _, _, _, _, .nil, e => by simp at e
 | _, _, 0, _, .cons h _, e => by simp at e; subst e; exact ⟨_, rfl, h⟩
 | _, _, i + 1, b, .cons _ r, e => by
  obtain ⟨a, h1, h2⟩ := Paired.right (i := i) (b := b) r (by simpa using e)
  exact ⟨a, by simpa using h1, h2⟩
theorem Paired.left {α β : Type} {F : α -> β -> Prop} : ∀ {l : List α} {m : List β} {i : Nat} {a : α}, Paired F l m -> l[i]? = some a -> ∃ b, m[i]? = some b /\ F a b
 | _, _, _, _, .nil, e => by simp at e
 | _, _, 0, _, .cons h _, e => by simp at e; subst e; exact ⟨_, rfl, h⟩
 | _, _, i + 1, a, .cons _ r, e => by
  obtain ⟨b, h1, h2⟩ := Paired.left (i := i) (a := a) r (by simpa using e)
  exact ⟨b, by simpa using h1, h2⟩
theorem AY {k w : W} : ∀ {kws : List (W × W)} {j : Nat} {p : W × W}, (kws.map (·.1)).Nodup -> kws[j]? = some p -> p.1 = k -> kws.map (fun p => if p.1 = k then (p.1, w) else p) = kws.modify j fun p => (p.1, w)
 | [], _, _, _, e, _ => by simp at e
 | q :: kws, 0, p, nd, e, ek => by
  simp at e; subst e
  rw [List.map_cons, List.nodup_cons] at nd
  rw [List.map_cons, if_pos ek]
  have : kws.map (fun p => if p.1 = k then (p.1, w) else p) = kws := by
   have := List.map_congr_left (f := fun p : W × W => if p.1 = k then (p.1, w) else p) (g := id) (l := kws) (fun a ha => by
    rw [if_neg]; rfl
    intro z
    exact nd.1 (by rw [ek, <- z]; exact List.mem_map_of_mem ha))
   rw [this, List.map_id]
  rw [this]; rfl
 | q :: kws, j + 1, p, nd, e, ek => by
  rw [List.map_cons, List.nodup_cons] at nd
  have e' : kws[j]? = some p := by simpa using e
  have ne : ¬ q.1 = k := fun z => nd.1 (by rw [z, <- ek]; exact List.mem_map_of_mem (List.mem_of_getElem? e'))
  rw [List.map_cons, if_neg ne, AY nd.2 e' ek]; rfl
def fJ (ph : PH) (kws : List (W × W)) (y : W) : Bool := (kW y).isSome && kws.all fun p => (kW p.1).isSome && decide (bO ph p.1 y = some (decide (p.1 = y)))
section
variable {X : Cx} {pins : List (Addr × Obj)} {σ : L2.St} {H : Hp} {s : Shared} {A : Around} {E : Value -> Shared -> Prop} {φ : Nat -> Addr} {ph : PH} {i : Nat} {kws : List (W × W)} {y : W} {v : V} {u : Value}
theorem Sd {q : Option (Key ⊕ List Key)} {K : PySem.W.Frag} {n : Nat} (r : ay K φ n H y v) (h : kW y = some q) (ru : L2.RelV v u) : EJ u := by
 cases r with
 | az => exact .inr ru
 | bl b => cases h
 | int i => cases h
 | str x => cases h
 | tup h0 r0 => exact .inl ⟨_, ru⟩
 | fl => cases h
 | ref => cases h
 | exc => cases h
theorem tJ (I : Inv X pins σ H s) (hH : ax X.K φ ph H) (hd : ph[i]? = some (.bM kws)) : ∃ kvs o es ep, H (φ i) = some (.dU kvs) /\ cj X.K φ ph.length H kws kvs /\ (kws.map (·.1)).Nodup /\ kvs.length <= sizeLine /\ (φ i == sysModules) = false /\ s.heap.get? (φ i) = some o /\ o.ExactDict /\ o.data = .dict es ep /\
  Paired (fun (p : V × V) (e : DictEntry) => L2.RelV p.1 e.key /\ L2.RelV p.2 e.val /\ ((∃ k, uA p.1 = some k /\ e.hash = kX X.w k) \/ ∃ b ts ks, p.1 = .ref b /\ H b = some (.tup ts) /\ hX ts = some ks /\ e.hash = tupleKeyHash (bi X.prog X.w) ks)) kvs es.toList := by
 obtain ⟨kvs, e, r, nd⟩ := hH.hp _ _ hd
 obtain ⟨z, y, o, es, ep, h1, h2, h3, h4⟩ := (show b8 X.prog X.w H s.heap (φ i) (.dU kvs) from I.aF _ _ e)
 exact ⟨kvs, o, es, ep, e, r, nd, z, y, h1, h2, h3, h4⟩
theorem Cu {o : Obj} {es : Array DictEntry} {ep : Nat} {kvs : List (V × V)} {q : Option (Key ⊕ List Key)} {Q : Option Nat -> Shared -> Prop} (hu : A.units + 64 < cLine) (I : Inv X pins σ H s) (hH : ax X.K φ ph H) (r : cj X.K φ ph.length H kws kvs) (nd : (kws.map (·.1)).Nodup) (ho : s.heap.get? (φ i) = some o) (hd : o.data = .dict es ep)
  (pr : Paired (fun (p : V × V) (e : DictEntry) => L2.RelV p.1 e.key /\ L2.RelV p.2 e.val /\ ((∃ k, uA p.1 = some k /\ e.hash = kX X.w k) \/ ∃ b ts ks, p.1 = .ref b /\ H b = some (.tup ts) /\ hX ts = some ks /\ e.hash = tupleKeyHash (bi X.prog X.w) ks)) kvs es.toList)
  (ry : ay X.K φ ph.length H y v) (ru : L2.RelV v u) (hy : kW y = some q) (hk : ∀ p ∈ kws, (kW p.1).isSome = true /\ bO ph p.1 y = some (decide (p.1 = y)))
  (hn : (∀ p ∈ kws, p.1 ≠ y) -> Q none s) (hs : ∀ j p kv e, kws[j]? = some p -> p.1 = y -> kvs[j]? = some kv -> es[j]? = some e -> ay X.K φ ph.length H p.2 kv.2 -> L2.RelV kv.2 e.val -> Q (some j) s) :
  wpAny (model X.prog X.w) A (dictFind (φ i) u (hQ X.prog X.w q)) Q E s := by
 have vw : ∀ (j : Nat) (e : DictEntry), es[j]? = some e -> ∃ p kv, kws[j]? = some p /\ kvs[j]? = some kv /\ ay X.K φ ph.length H p.1 kv.1 /\ ay X.K φ ph.length H p.2 kv.2 /\ L2.RelV kv.1 e.key /\ L2.RelV kv.2 e.val /\ UK X.prog X.w H kv.1 e.hash := fun j e he => by
  obtain ⟨kv, h1, h2, h3, h4⟩ := Paired.right pr (i := j) (b := e) (by simpa using he)
  obtain ⟨p, g1, g2, g3⟩ := r.get h1
  exact ⟨p, kv, g1, h1, g2, g3, h2, h3, h4.elim .inl fun z => .inr (.inr z)⟩
 have FL : UK X.prog X.w H v (hQ X.prog X.w q) := pF ry hy
 have fin : ∀ (rr : Option Nat), FI es (hQ X.prog X.w q) (fun j => match kws[j]? with | some p => decide (p.1 = y) | none => false) rr -> Q rr s -> wpAny (model X.prog X.w) A (dictFind (φ i) u (hQ X.prog X.w q)) Q E s := fun rr hh hq => by
  refine Va ho hd (Sd ry hy ru) (fun j e he FN => ?_) (fun j e he ek => ?_) (UK.quiet I FL ru) (fun j e he => ?_) hh hq
  ·obtain ⟨p, kv, g1, g2, g3, g4, g5, g6, g7⟩ := vw j e he
   obtain ⟨_, eq⟩ := hk p (List.mem_of_getElem? g1)
   obtain ⟨dx, dy, e1, e2, eb⟩ := sY eq
   obtain ⟨⟨as, k1⟩, c1, l1⟩ := gi I hH 40 g3 g5 e1
   obtain ⟨⟨bs, k2⟩, c2, l2⟩ := gi I hH 40 ry ru e2
   simp only [g1, eb]
   exact SeqAt.eqAt_reads dx dy A s _ _ _ _ k1 k2 c1 c2 (by omega)
  ·obtain ⟨p, kv, g1, g2, g3, g4, g5, g6, g7⟩ := vw j e he
   exact UK.same (u := u) g7 FL (ek ▸ g5) ru
  ·obtain ⟨p, kv, g1, g2, g3, g4, g5, g6, g7⟩ := vw j e he
   exact UK.quiet I g7 g5
 by_cases hm : ∃ p ∈ kws, p.1 = y
 ·obtain ⟨p, hp, fw⟩ := hm
  obtain ⟨j, hj⟩ := List.mem_iff_getElem?.mp hp
  have bz : j < kvs.length := by rw [<- r.len]; exact (List.getElem?_eq_some_iff.mp hj).1
  obtain ⟨e, he, _⟩ := Paired.left pr (i := j) (a := kvs[j]) (by simp [bz])
  have gM : es[j]? = some e := by simpa using he
  obtain ⟨p', kv, g1, g2, g3, g4, g5, g6, g7⟩ := vw j e gM
  rw [hj] at g1; cases g1
  refine fin (some j) ⟨⟨e, gM, ?_⟩, ?_, fun k e' YF FN hc => ?_⟩ (hs j p kv e hj fw g2 gM g4 g6)
  ·have : UK X.prog X.w H kv.1 (hQ X.prog X.w q) := pF g3 (fw ▸ hy)
   exact UK.same (u := e.key) g7 this g5 g5
  ·simp only [hj, fw, decide_true]
  ·obtain ⟨p2, kv2, f1, _⟩ := vw k e' YF
   simp only [f1, decide_eq_true_eq] at hc
   have lj : (kws.map (·.1))[k]? = some y := by rw [List.getElem?_map, f1]; simp [hc]
   have hk2 : (kws.map (·.1))[j]? = some y := by rw [List.getElem?_map, hj]; simp [fw]
   exact (List.getElem?_inj (List.getElem?_eq_some_iff.mp lj).1 nd).mp (lj.trans hk2.symm)
 ·refine fin none (fun k e he FN => ?_) (hn fun p hp fw => hm ⟨p, hp, fw⟩)
  obtain ⟨p2, kv2, f1, _⟩ := vw k e he
  simp only [f1, decide_eq_false_iff_not]
  exact fun z => hm ⟨p2, List.mem_of_getElem? f1, z⟩
theorem Dr (h : fJ ph kws y = true) : (∃ q, kW y = some q) /\ ∀ p ∈ kws, (kW p.1).isSome = true /\ bO ph p.1 y = some (decide (p.1 = y)) := by
 unfold fJ at h
 rw [Bool.and_eq_true, List.all_eq_true] at h
 exact ⟨Option.isSome_iff_exists.mp h.1, fun p hp => by
  have := h.2 p hp
  rw [Bool.and_eq_true, decide_eq_true_eq] at this
  exact this⟩
theorem Og (h : ∀ p ∈ kws, p.1 ≠ y) : bP kws y = none := by
 unfold bP
 rw [List.find?_eq_none.mpr fun p hp => by simpa using h p hp]; rfl
theorem AZ : ∀ {kws : List (W × W)} {j : Nat} {p : W × W}, (kws.map (·.1)).Nodup -> kws[j]? = some p -> p.1 = y -> bP kws y = some p.2
 | [], _, _, _, e, _ => by simp at e
 | q :: kws, 0, p, nd, e, ek => by
  simp at e; subst e
  simp [bP, ek]
 | q :: kws, j + 1, p, nd, e, ek => by
  rw [List.map_cons, List.nodup_cons] at nd
  have e' : kws[j]? = some p := by simpa using e
  have ne : ¬ q.1 = y := fun z => nd.1 (by rw [z, <- ek]; exact List.mem_map_of_mem (List.mem_of_getElem? e'))
  have := AZ nd.2 e' ek
  unfold bP at this ⊢
  rw [List.find?_cons_of_neg (by simpa using ne)]
  exact this
theorem Vb {Q : Option Value -> Shared -> Prop} (hu : A.units + 64 < cLine) (I : Inv X pins σ H s) (hH : ax X.K φ ph H) (hd : ph[i]? = some (.bM kws)) (ry : ay X.K φ ph.length H y v) (ru : L2.RelV v u) (hk : fJ ph kws y = true)
  (h : ∀ s' ow ov, Inv X pins σ H s' -> i9 X.K φ ph.length H (bP kws y) ov -> L2.eQ ov ow -> Q ow s') : wpAny (model X.prog X.w) A (dictGet (φ i) u) Q E s := by
 obtain ⟨⟨q, hy⟩, zp⟩ := Dr hk
 obtain ⟨kvs, o, es, ep, e0, r, nd, z, ox, ho, hx, dR, pr⟩ := tJ I hH hd
 unfold dictGet
 try with_reducible refine wpAny_holding ?_
 refine wpAny_bind (UK.hash I (pF ry hy) ru (by omega) fun t => ?_)
 have I' := I.tok t
 refine wpAny_bind (Cu (s := { s with toks := t }) hu I' hH r nd ho dR pr ry ru hy zp (fun hn => ?_) fun j p kv e hj fw hkv he oy FO => ?_)
 ·exact wpAny_pure (h _ none none I' (by rw [Og hn]; trivial) trivial)
 ·refine wpAny_bind (wpAny_dictEntries (s := { s with toks := t }) ho dR ?_)
  rw [he]
  exact wpAny_pure (h _ (some e.val) (some kv.2) I' (by rw [AZ nd hj fw]; exact oy) FO)
end
theorem Bm {y w : W} {kws : List (W × W)} (nd : (kws.map (·.1)).Nodup) : ((cu kws y w).map (·.1)).Nodup := by
 unfold cu
 split
 ·have : (kws.map fun p => if p.1 = y then (p.1, w) else p).map (·.1) = kws.map (·.1) := by
   rw [List.map_map]
   exact List.map_congr_left fun a _ => by simp only [Function.comp]; split <;> rfl
  rw [this]; exact nd
 ·rename_i h
  rw [List.map_append, List.nodup_append]
  refine ⟨nd, by simp, fun a ha b hb e => h ?_⟩
  simp only [List.map_cons, List.map_nil, List.mem_singleton] at hb
  obtain ⟨p, hp, fw⟩ := List.mem_map.mp ha
  rw [List.any_eq_true]
  exact ⟨p, hp, by simp [fw, e, hb]⟩
section
variable {X : Cx} {pins : List (Addr × Obj)} {σ : L2.St} {H : Hp} {s : Shared} {A : Around} {E : Value -> Shared -> Prop} {φ : Nat -> Addr} {ph : PH} {i : Nat} {kws : List (W × W)} {y w : W} {v vv : V} {u r : Value}
theorem Vc {q : Key ⊕ List Key} {Q : Unit -> Shared -> Prop} (hu : A.units + 64 < cLine) (I : Inv X pins σ H s) (hH : ax X.K φ ph H) (hd : ph[i]? = some (.bM kws)) (ry : ay X.K φ ph.length H y v) (ru : L2.RelV v u) (oy : ay X.K φ ph.length H w vv) (rr : L2.RelV vv r) (hk : fJ ph kws y = true) (hy : kW y = some (some q)) (hz : kws.length < sizeLine)
  (h : ∀ s' H', Inv X pins σ H' s' -> ax X.K φ (ph.set i (.bM (cu kws y w))) H' -> Step X.K φ ph.length H φ (ph.set i (.bM (cu kws y w))).length H' -> Q () s') : wpAny (model X.prog X.w) A (dictSet (φ i) u r) Q E s := by
 obtain ⟨_, zp⟩ := Dr hk
 obtain ⟨kvs, o, es, ep, e0, rel, nd, z, ox, ho, hx, dR, pr⟩ := tJ I hH hd
 obtain ⟨yy, ey, my⟩ := hH.mu hd rfl
 have mr : (∃ k, uA v = some k /\ hQ X.prog X.w (some q) = kX X.w k) \/ ∃ b ts ks, v = .ref b /\ H b = some (.tup ts) /\ hX ts = some ks /\ hQ X.prog X.w (some q) = tupleKeyHash (bi X.prog X.w) ks := by
  rcases (pF (P := X.prog) (w := X.w) ry hy) with q1 | ⟨rfl, _⟩ | q1
  ·exact .inl q1
  ·cases ry; cases hy
  ·exact .inr q1
 have keep : ∀ (x : HO) (b : Addr) (ts : List V), H b = some (.tup ts) -> upd H (φ i) x b = some (.tup ts) := fun x b ts hb => by
  rw [aM (cY hb e0 (fun z => nomatch z))]; exact hb
 unfold dictSet
 try with_reducible refine wpAny_holding ?_
 refine wpAny_bind (UK.hash I (pF ry hy) ru (by omega) fun t => ?_)
 have I' := I.tok t
 unfold dictSetHashed
 try with_reducible refine wpAny_holding ?_
 refine wpAny_bind (Cu (s := { s with toks := t }) hu I' hH rel nd ho dR pr ry ru hy zp (fun hn => ?_) fun j p kv e hj fw hkv he rw1 FO => ?_)
 ·have hes : es.size <= sizeLine := by
   have e1 : kvs.length = es.toList.length := Paired.length pr
   have e2 : es.toList.length = es.size := Array.length_toList
   omega
  have st := iM (K := X.K) (φ := φ) (n := ph.length) (y := HO.dU (kvs ++ [(v, vv)])) ey my
  have zq : cu kws y w = kws ++ [(y, w)] := by
   unfold cu
   rw [if_neg]
   rw [List.any_eq_true]
   rintro ⟨p, hp, fw⟩
   exact hn p hp (by simpa using fw)
  refine wpAny_bind (wpAny_rule (wpAny_updateDictKeys (hz := hes) (s := { s with toks := t }) ho dR (h _ _ (nj I' (by rw [e0]; exact True.intro) (Heap.SameBut.update ..) ⟨_, Heap.get?_update_self _ ho (Obj.isFreed_of_dict (Obj.data_mapDictKeys dR _))⟩ (ob := .dU (kvs ++ [(v, vv)]))
   ⟨?_, ox, _, _, ep + 1, Heap.get?_update_self _ ho (Obj.isFreed_of_dict (Obj.data_mapDictKeys dR _)), hx.mapDictKeys _, Obj.data_mapDictKeys dR _, ?_⟩) ?_ ?_)))
  ·rw [List.length_append, <- rel.len]; simp; omega
  ·rw [Array.toList_push]
   refine Paired.D8 ⟨ru, rr, mr.imp_right fun ⟨b, ts, ks, h1, h2, h3⟩ => ⟨b, ts, ks, h1, keep _ _ _ h2, h3⟩⟩ (Paired.i4 pr fun p q z => ⟨z.1, z.2.1, z.2.2.imp_right fun ⟨b, ts, ks, h1, h2, h3⟩ => ⟨b, ts, ks, h1, keep _ _ _ h2, h3⟩⟩)
  ·refine hH.put hd rfl ⟨_, bw, ?_, Bm nd⟩
   rw [zq]
   exact (rel.snoc ry oy).mono st
  ·rw [List.length_set]; exact st
 ·have st := iM (K := X.K) (φ := φ) (n := ph.length) (y := HO.dU (kvs.modify j fun p => (p.1, vv))) ey my
  have zq : cu kws y w = kws.modify j fun p => (p.1, w) := by
   unfold cu
   rw [if_pos (by rw [List.any_eq_true]; exact ⟨p, List.mem_of_getElem? hj, by simpa using fw⟩)]
   exact AY nd hj fw
  refine wpAny_bind (wpAny_rule (wpAny_bind (wpAny_updateDict (s := { s with toks := t }) ho dR (wpAny_point (h _ _ (nj I' (by rw [e0]; exact True.intro) (Heap.SameBut.update ..) ⟨_, Heap.get?_update_self _ ho (Obj.isFreed_of_dict (Obj.data_mapDict dR _))⟩ (ob := .dU (kvs.modify j fun p => (p.1, vv)))
   ⟨?_, ox, _, _, ep, Heap.get?_update_self _ ho (Obj.isFreed_of_dict (Obj.data_mapDict dR _)), hx.mapDict _, Obj.data_mapDict dR _, ?_⟩) ?_ ?_)))))
  ·rw [List.length_modify]; exact z
  ·rw [Array.toList_modify]
   refine Paired.modify (fun p e z => ⟨z.1, rr, z.2.2⟩) j (Paired.i4 pr fun p q z => ⟨z.1, z.2.1, z.2.2.imp_right fun ⟨b, ts, ks, h1, h2, h3⟩ => ⟨b, ts, ks, h1, keep _ _ _ h2, h3⟩⟩)
  ·refine hH.put hd rfl ⟨_, bw, ?_, Bm nd⟩
   rw [zq]
   exact (rel.modify oy j).mono st
  ·rw [List.length_set]; exact st
theorem Cv (I : Inv X pins σ H s) (hH : ax X.K φ ph H) (hd : ph[i]? = some (.bM kws)) : s.TypeIs (.ref (φ i)) "dict" := by
 obtain ⟨kvs, o, es, ep, e0, rel, nd, z, ox, ho, hx, dR, pr⟩ := tJ I hH hd
 exact ⟨o, ho, hx.1⟩
end
def yk : Po W := fun ph => some (.ref ph.length, ph ++ [.bM []])
def yl : EM := fun _ => lift yk
theorem Cw {k : Nat} {A : Around} (r : bV k A) : A.units + 65 < cLine := by have := r.un; omega
theorem Ql {P : Program} {w : World} {H : Hp} (h : Heap) (hb : sysModules < h.objs.size) : b8 P w H (h.push { cls := .type "dict", data := .dict #[] }) h.objs.size (.dU []) :=
 ⟨Nat.zero_le _, beq_eq_false_iff_ne.mpr (Ne.symm (Nat.ne_of_lt hb)), _, #[], 0, Heap.get?_push_size _ rfl, ⟨rfl, rfl, rfl⟩, rfl, .nil⟩
def Vd : TE := fun _ H Q => ∀ p, H p = none -> Q (.ref p) (upd H p (.dU []))
theorem Qm {X : Cx} {pos : Pos} : PE X (.Dict [] [] pos) Vd := fun pins s σ H Q I h =>
 wpAny_Dict_empty ⟨.ref s.heap.objs.size, _, I.laid (a := s.heap.objs.size) (o := .dU []) (t' := s.toks) (fun _ _ q => Heap.get?_push_of_some _ q) (Nat.le_refl _) (Ql s.heap I.big), rfl, h _ (I.aF.fresh (Nat.le_refl _))⟩
theorem Ve {X : Cx} {pos : Pos} : JE X (.Dict [] [] pos) yl := ⟨PE.imp Qm fun σ H Q h p hp => by
 obtain ⟨φ, ph, ws, hH, hS, h⟩ := h
 obtain ⟨w, ph', e, k⟩ := run_lift h
 cases e
 have hl : (ph ++ [PO.bM []]).length = ph.length + 1 := by simp
 have s := oU (K := X.K) (φ := φ) (n := ph.length) (o := HO.dU []) hp
 have q : ay X.K (ext φ ph.length p) (ph.length + 1) (upd H p (.dU [])) (.ref ph.length) (.ref (ext φ ph.length p ph.length)) := .ref (Nat.lt_succ_self _)
 rw [iQ] at q
 exact k _ _ _ (hH.new hp ⟨[], bw, .nil, List.nodup_nil⟩) (by rw [hl]; exact s) (by rw [hl]; exact q)⟩
def mj (y : W) (ph : PH) : Option (Nat × List (W × W)) := match y with
 | .ref i => match ph[i]? with
  | some (.bM kws) => some (i, kws)
  | _ => none
 | _ => none
theorem vX {K : PySem.W.Frag} {φ : Nat -> Addr} {ph : PH} {H : Hp} {y : W} {v : V} {i : Nat} {kws : List (W × W)} (hH : ax K φ ph H) (r : ay K φ ph.length H y v) (e : mj y ph = some (i, kws)) : y = .ref i /\ i < ph.length /\ ph[i]? = some (.bM kws) /\ v = .ref (φ i) := by
 unfold mj at e
 split at e
 ·split at e
  ·rename_i j Yt hw
   cases e
   cases r with
   | ref hi => exact ⟨rfl, hi, hw, rfl⟩
  ·cases e
 ·cases e
def jW (w : W) (ph : PH) : Bool := (mj w ph).isSome
theorem Vf {K : PySem.W.Frag} : mN K "dict" jW := by
 intro φ ph H x vx hH rx e
 unfold jW at e
 obtain ⟨⟨i, kws⟩, hp⟩ := Option.isSome_iff_exists.mp e
 obtain ⟨rfl, hi, hd, rfl⟩ := vX hH rx hp
 obtain ⟨kvs, q, _⟩ := hH.hp i _ hd
 exact .inr (.inr (.inr (.inr ⟨rfl, kvs, q⟩)))
def D9 (K : PySem.W.Frag) : V -> List V -> Hp -> VK -> Prop := fun x ys H Q => ∃ φ ph i kws y v d, ax K φ ph H /\ x = .ref (φ i) /\ ph[i]? = some (.bM kws) /\ ay K φ ph.length H y v /\ fJ ph kws y = true /\ ys = [v, d] /\ ∀ ov, i9 K φ ph.length H (bP kws y) ov -> Q (ov.getD d) H
def je : W -> List W -> Po W := fun x xs ph => match mj x ph with
 | some p => match xs with
  | [y, z] => if fJ ph p.2 y = true then some ((bP p.2 y).getD z, ph) else none
  | _ => none
 | none => none
theorem Se {X : Cx} (hu : X.A.units + 65 < cLine) : ig X "dict.get" (D9 X.K) := by
 intro pins s σ H x xs v us Q I rx rv h
 obtain ⟨φ, ph, i, kws, y, vy, d, hH, rfl, hd, ry, hk, rfl, q⟩ := h
 obtain rfl : v = Value.ref (φ i) := rx
 obtain ⟨u, u2, rfl, ru, rd⟩ := Vals.two rv
 have hT := Cv I hH hd
 obtain ⟨_, _, _, _, _, _, _, _, ox, _⟩ := tJ I hH hd
 refine wpAny_call_entry PySem.F.slot_dict_get hT PySem.F.entry_dict_get (show wpAny _ _ (dictGet (φ i) u >>= _) _ _ s from wpAny_bind (Vb (by show X.A.units + 1 + 64 < cLine; omega) I hH hd ry ru hk fun s' ow ov I' ro cR => ?_)) (PySem.F.args_dict_get_3 _ _ _)
 have qq := q ov ro
 cases ow with
 | some w' =>
  cases ov with
  | none => exact cR.elim
  | some vv => exact wpAny_pure ⟨w', rfl, vv, H, I', cR, qq⟩
 | none =>
  cases ov with
  | none =>
   show wpAny _ _ (Builtin.Dict.missed (φ i) u >>= _) _ _ _
   exact wpAny_bind (wpAny_missed_other ox (wpAny_pure ⟨u2, rfl, d, H, I', rd, qq⟩))
  | some vv => exact cR.elim
theorem Vg {K : PySem.W.Frag} : kg K "dict" (D9 K) je := by
 intro φ ph H x xs vx vs w ph' Q hH rx rs e k
 unfold je at e
 split at e
 ·rename_i p hp
  obtain ⟨i, kws⟩ := p
  obtain ⟨rfl, hi, hd, rfl⟩ := vX hH rx hp
  split at e
  ·split at e
   ·rename_i hk
    cases e
    cases rs with
    | cons r0 rr =>
     cases rr with
     | cons r1 rr =>
      cases rr
      exact ⟨φ, ph, i, kws, _, _, _, hH, rfl, hd, r0, hk, rfl, fun ov ro => k φ H _ hH Step.refl (ro.getD r1)⟩
   ·cases e
  ·cases e
 ·cases e
def p7 (o i v : W) : Po Unit := fun ph => match mj o ph with
 | some p => if fJ ph p.2 i = true /\ (kW i).bind id ≠ none /\ p.2.length < sizeLine then some ((), ph.set p.1 (.bM (cu p.2 i v))) else none
 | none => none
def Xb (K : PySem.W.Frag) : pM := fun o i v H Q => ∃ φ ph j kws y w, ax K φ ph H /\ o = .ref (φ j) /\ ph[j]? = some (.bM kws) /\ ay K φ ph.length H y i /\ ay K φ ph.length H w v /\ fJ ph kws y = true /\ (kW y).bind id ≠ none /\ kws.length < sizeLine /\
 ∀ H', ax K φ (ph.set j (.bM (cu kws y w))) H' -> Step K φ ph.length H φ (ph.set j (.bM (cu kws y w))).length H' -> Q H'
theorem Pg {X : Cx} (hu : X.A.units + 65 < cLine) : jP X (Xb X.K) := by
 intro pins s σ H o i v ov iv u Q I ro ri rv h
 obtain ⟨φ, ph, j, kws, y, w, hH, rfl, hd, ry, oy, hk, hy, hz, q⟩ := h
 obtain rfl : ov = Value.ref (φ j) := ro
 have zr : ∃ q, kW y = some (some q) := by
  cases e : kW y with
  | none => rw [e] at hy; exact absurd rfl hy
  | some z => cases z with
   | none => rw [e] at hy; exact absurd rfl hy
   | some q => exact ⟨q, rfl⟩
 obtain ⟨q0, zr⟩ := zr
 have hT := Cv I hH hd
 unfold setItem
 try with_reducible refine wpAny_holding ?_
 refine wpAny_bind (wpAny_sequenceKey hT (by decide) ?_)
 refine wpAny_bind (wpAny_callSpecial?_slot (name := Str.ofString "__setitem__") hT slot_dict_setitem
  (wpAny_call_entry slot_dict_setitem hT entry_dict_setitem ?_ (args_dict_setitem _ _ _)))
 show wpAny _ _ (Builtin.Dict.notOrdered "__setitem__" ⟨[.ref (φ j), iv, u], []⟩ >>= _) _ _ s
 refine wpAny_bind (wpAny_notOrdered_dict hT ?_)
 show wpAny _ _ (dictSet (φ j) iv u >>= _) _ _ s
 exact wpAny_bind (Vc (by show X.A.units + 1 + 64 < cLine; omega) I hH hd ry ri oy rv hk zr hz fun s' H' I' h1 h2 => wpAny_pure ⟨.none, rfl, wpAny_pure ⟨H', I', q H' h1 h2⟩⟩)
def pG (o i : EM) : GM := fun v σ => ap (o σ) fun ow => ap (i σ) fun iw => ap (lift (p7 ow iw v)) fun _ => aw σ
section
variable {X : Cx} {o i : Expr} {mo mi : EM} {pos : Pos} {N : List Str} {sc : Scope} {k : Nat}
theorem dQ.Sf (B : dQ X N sc k) (ho : JE X o mo) (hi : JE X i mi) (ha : ∀ v, assign (.Subscript o i pos) X.env v = (do
   let ov <- holding [v] (eval o X.env)
   let iv <- holding [v, ov] (eval i X.env)
   standAt pos
   holding [v, ov, iv] (setItem ov iv v)
   release [v, ov, iv] []) := by intro _; rfl) : JG X (.Subscript o i pos) (pG mo mi) :=
 ⟨PG.imp (C3 ho.h hi.h (Pg (Cw B.room)) ha) fun v σ H Q h => by
  obtain ⟨φ, ph, ws, w, hH, hS, rv, h⟩ := h
  refine tM.bind hH hS h fun ow ph1 au H1 vo aD s1 ro h => tM.bind aD (hS.mono s1) h fun iw ph2 aS H2 vi aY s2 ri h => ?_
  rw [cq] at h
  obtain ⟨_, dm, e, k⟩ := run_lift h
  have uU := ro.mono s2
  have oo := (rv.mono s1).mono s2
  unfold p7 at e
  split at e
  ·rename_i p hp
   obtain ⟨r, kws⟩ := p
   obtain ⟨rfl, hr, hd, rfl⟩ := vX aY uU hp
   split at e
   ·rename_i hk
    cases e
    exact ⟨aS, ph2, r, kws, iw, w, aY, rfl, hd, ri, oo, hk.1, hk.2.1, hk.2.2, fun H' q1 q2 => k aS _ σ q1 ((s1.trans s2).trans q2) (((hS.mono s1).mono s2).mono q2)⟩
   ·cases e
  ·cases e⟩
end
open PySem L2
section
variable {α β γ : Type}
theorem Cy (a : α) (f : α -> Mo β) : ap (aw a) f = f a := (rfl)
theorem Sg (f : α -> Mo β) : ap (d6 : Mo α) f = d6 := (rfl)
theorem Sh (x : XC) (f : α -> Mo β) : ap (yZ x : Mo α) f = yZ x := (rfl)
theorem e9 (m : Mo α) (f : α -> Mo β) (g : β -> Mo γ) : ap (ap m f) g = ap m fun a => ap (f a) g := by
 funext ph; unfold ap; cases m ph <;> rfl
theorem Si {c : Prop} [Decidable c] (a b : Mo α) (f : α -> Mo β) : ap (if c then a else b) f = if c then ap a f else ap b f := by split <;> rfl
theorem ai {m : Mo α} {f : α -> Mo β} {ph ph' : PH} {a : α} (h : m ph = .ok a ph') : ap m f ph = f a ph' := by unfold ap; rw [h]
theorem Vh (a : α) (ph : PH) : aw a ph = .ok a ph := (rfl)
theorem Vi (x : XC) (ph : PH) : (yZ x : Mo α) ph = .ex x ph := (rfl)
theorem Qn (a : α) : lift (ret a) = aw a := (rfl)
theorem Vj {c : Prop} [Decidable c] (a b : Mo α) (ph : PH) : (if c then a else b) ph = if c then a ph else b ph := by split <;> rfl
end
theorem xv (w : W) (σ : aE) : aa 0 (some w :: σ) = aw w := (rfl)
theorem Vk (i : Nat) (x : Option W) (σ : aE) : aa (i + 1) (x :: σ) = aa i σ := (rfl)
theorem Sj {i : Nat} {σ : aE} {w : W} (h : σ[i]? = some (some w)) : aa i σ = aw w := by
 funext ph; unfold aa lift; rw [h]; rfl
theorem Xc (w : W) (σ : aE) : eC w σ = aw w := (rfl)
theorem Xd (i : Nat) (w : W) (σ : aE) : gN i w σ = aw (σ.set i (some w)) := (rfl)
theorem Vl (f : W -> W -> Po W) (a b : EM) (σ : aE) : ae f a b σ = ap (a σ) fun x => ap (b σ) fun y => lift (f x y) := (rfl)
theorem Vm (f : W -> Po W) (a : EM) (σ : aE) : eU f a σ = ap (a σ) fun x => lift (f x) := (rfl)
theorem Xe (m : EM) (σ : aE) : eT m σ = ap (m σ) fun w => lift (match w with
 | .bl b => ret b
 | _ => dJ) := (rfl)
theorem Sk (m : EM) (σ : aE) : ck m σ = ap (m σ) fun w => lift (mD w) := (rfl)
theorem Qo (a b : TM) (σ : aE) : cE a b σ = ap (a σ) fun c => if c = true then b σ else aw false := (rfl)
theorem Sl (a b : TM) (σ : aE) : cO a b σ = ap (a σ) fun c => if c = true then aw true else b σ := (rfl)
theorem Qp (a : TM) (σ : aE) : eA a σ = ap (a σ) fun c => aw (!c) := (rfl)
theorem Vn (t : TM) (a b : EM) (σ : aE) : Zo t a b σ = ap (t σ) fun c => if c = true then a σ else b σ := (rfl)
theorem cX (a b : SM) (σ : aE) : aq a b σ = ap (a σ) fun f => match f with
 | .nx ao => b ao
 | f => aw f := (rfl)
theorem iS (t : TM) (a b : SM) (σ : aE) : aU t a b σ = ap (t σ) fun c => if c = true then a σ else b σ := (rfl)
theorem Sn (e : EM) (σ : aE) : aN e σ = ap (e σ) fun w => aw (.rt w) := (rfl)
theorem Qq (σ : aE) : aX σ = aw (.nx σ) := (rfl)
theorem BK (e : EM) (σ : aE) : fV e σ = ap (e σ) fun _ => aw (.nx σ) := (rfl)
theorem Cz (e : EM) (g : GM) (σ : aE) : aC e g σ = ap (e σ) fun w => ap (g w σ) fun ao => aw (.nx ao) := (rfl)
theorem Qr (f : List W -> Mo W) (a : AM) (σ : aE) : aB f a σ = ap (a σ) f := (rfl)
theorem Ph (f : List W -> Po W) (a : AM) (σ : aE) : bg f a σ = ap (a σ) fun xs => lift (f xs) := (rfl)
theorem So (σ : aE) : ag σ = aw [] := (rfl)
theorem Qs (e : EM) (r : AM) (σ : aE) : ab e r σ = ap (e σ) fun w => ap (r σ) fun ws => aw (w :: ws) := (rfl)
theorem Sq (a : AM) (σ : aE) : bK a σ = ap (a σ) fun ws => lift (jQ ws) := (rfl)
theorem Sr (a : AM) (σ : aE) : bQ a σ = ap (a σ) fun ws => lift (nV ws) := (rfl)
theorem Ds (c : String) (m : EM) (σ : aE) : kh c m σ = ap (m σ) fun w => lift (fH c w) := (rfl)
theorem Ss (a b : EM) (σ : aE) : gz a b σ = ap (a σ) fun w => match w with
 | .bl c => if c = true then b σ else aw (.bl false)
 | _ => d6 := (rfl)
theorem Vo (a b : EM) (σ : aE) : uO a b σ = ap (a σ) fun w => match w with
 | .bl c => if c = true then aw (.bl true) else b σ
 | _ => d6 := (rfl)
theorem Su (a : EM) (σ : aE) : Yl a σ = ap (a σ) fun w => match w with
 | .bl c => aw (.bl (!c))
 | _ => d6 := (rfl)
theorem Pj (f f' : W -> W -> Po W) (a b c : EM) (σ : aE) : UH f f' a b c σ = ap (a σ) fun x => ap (b σ) fun y => ap (lift (f x y)) fun z => match z with
 | .bl k => if k = true then ap (c σ) fun u => lift (f' y u) else aw (.bl false)
 | _ => d6 := (rfl)
theorem Qt (ty : W -> PH -> Bool) (f : W -> List W -> Po W) (o : EM) (a : AM) (σ : aE) : cI ty f o a σ = ap (o σ) fun x => ap (lift (jR (ty x))) fun _ => ap (a σ) fun xs => lift (f x xs) := (rfl)
theorem Sv (w : W) : gC (.rt w) = aw w := (rfl)
theorem Sx (σ : aE) : gC (.nx σ) = aw .az := (rfl)
theorem k6 (b : SM) (n : Nat) (x : W) : fM b n 1 [x] = ap (b (some x :: List.replicate (n - 1) none)) gC := (rfl)
theorem mF (b : SM) (n : Nat) (x y : W) : fM b n 2 [x, y] = ap (b (some x :: some y :: List.replicate (n - 2) none)) gC := (rfl)
theorem EK (b : SM) (n : Nat) (x y z : W) : fM b n 3 [x, y, z] = ap (b (some x :: some y :: some z :: List.replicate (n - 3) none)) gC := (rfl)
theorem YG (b : SM) (n : Nat) (x y z u : W) : fM b n 4 [x, y, z, u] = ap (b (some x :: some y :: some z :: some u :: List.replicate (n - 4) none)) gC := (rfl)
theorem Xf (i j : Int) : lift (addW (.int i) (.int j)) = aw (.int (i + j)) := (rfl)
theorem Xg (i j : Int) : lift (dj (.int i) (.int j)) = aw (.int (i - j)) := (rfl)
theorem Xh (i : Int) : lift (eD (.int i)) = aw (.int (-i)) := (rfl)
theorem xQ {i j : Int} (h : mulC i j = true) : lift (fD (.int i) (.int j)) = aw (.int (i * j)) := by
 unfold fD; simp only [h, if_true]; rfl
theorem dZ {i j : Int} (h : j ≠ 0) : lift (cc (.int i) (.int j)) = aw (.int (i.fmod j)) := by
 unfold cc nR; simp only [ne_eq, h, not_false_eq_true, decide_true, if_true]; rfl
theorem gu {i j : Int} (h : j ≠ 0) (h' : j.natAbs < 2 ^ 64) : lift (cw (.int i) (.int j)) = aw (.int (i.fdiv j)) := by
 unfold cw nR; simp only [ne_eq, h, h', not_false_eq_true, decide_true, Bool.and_self, if_true]; rfl
theorem YH (i j : Int) : lift (gK (.int i) (.int j)) = aw (.bl (decide (i < j))) := (rfl)
theorem YI (i j : Int) : lift (ZA (.int i) (.int j)) = aw (.bl (decide (i <= j))) := (rfl)
theorem YJ (i j : Int) : lift (jl (.int i) (.int j)) = aw (.bl (decide (j < i))) := (rfl)
theorem YK (i j : Int) : lift (ZC (.int i) (.int j)) = aw (.bl (decide (j <= i))) := (rfl)
theorem Xi (i : Int) : lift (EE [.int i]) = aw (.int i) := (rfl)
theorem Vp (b : Bool) : lift (EE [.bl b]) = aw (.int (if b then 1 else 0)) := (rfl)
theorem Xj (i : Int) : lift (Ym [.int i]) = aw (.int (if i < 0 then -i else i)) := (rfl)
theorem Xk (i j : Int) : lift (fg [.int i, .int j]) = aw (.int (if j > i then j else i)) := (rfl)
theorem Xl (i j : Int) : lift (WX [.int i, .int j]) = aw (.int (if j < i then j else i)) := (rfl)
theorem YL (b : Bool) : lift (match W.bl b with
 | .bl b => ret b
 | _ => dJ) = aw b := (rfl)
theorem Vq (b : Bool) : lift (mD (.bl b)) = aw b := (rfl)
theorem Vr (i : Int) : lift (mD (.int i)) = aw (i != 0) := (rfl)
theorem Vs (ws : List W) : lift (mD (.tup ws)) = aw (!ws.isEmpty) := (rfl)
theorem Xm (i j : Int) : lift (aV (.int i) (.int j)) = aw (.bl (decide (i = j))) := by
 funext ph; unfold aV bO lift; simp only [dat]; rfl
theorem Xn (i j : Int) : lift (d9 (.int i) (.int j)) = aw (.bl (!decide (i = j))) := by
 funext ph; unfold d9 bO lift; simp only [dat]; rfl
theorem so (s : String) : PyData.strOk (Str.ofString s) = true := by
 unfold PyData.strOk
 rw [Str.ofString_eq_toList]
 simp only [List.all_toArray, List.all_eq_true, List.mem_map, decide_eq_true_eq]
 rintro n ⟨c, _, rfl⟩
 have h := c.valid
 simp only [UInt32.isValidChar, Nat.isValidChar] at h
 show c.val.toNat < _
 omega
theorem jK {a b : String} : Str.ofString a = Str.ofString b ↔ a = b := by
 constructor
 ·intro h
  rw [Str.ofString_eq_toList, Str.ofString_eq_toList] at h
  have h := congrArg Array.toList (Str.mk.inj h)
  simp only [List.toList_toArray] at h
  have mi : ∀ l l' : List Char, l.map Char.toNat = l'.map Char.toNat -> l = l' := by
   intro l
   induction l with
   | nil => intro l' h; cases l' with
    | nil => rfl
    | cons _ _ => cases h
   | cons x l ih => intro l' h; cases l' with
    | nil => cases h
    | cons y l' =>
     have := List.cons.inj h
     rw [ih l' this.2, Char.ext (UInt32.toNat_inj.mp this.1)]
  have q : a.toList = b.toList := mi _ _ h
  exact String.toList_inj.mp q
 ·intro h; rw [h]
theorem Xo {a b : Str} (ha : PyData.strOk a = true) (hb : PyData.strOk b = true) : lift (aV (.str a) (.str b)) = aw (.bl (decide (a = b))) := by
 funext ph; unfold aV bO lift; simp only [dat, ha, hb, if_true]; rfl
theorem Xp {a b : Str} (ha : PyData.strOk a = true) (hb : PyData.strOk b = true) : lift (d9 (.str a) (.str b)) = aw (.bl (!decide (a = b))) := by
 funext ph; unfold d9 bO lift; simp only [dat, ha, hb, if_true]; rfl
theorem Xq (a b : String) : lift (aV (.str (Str.ofString a)) (.str (Str.ofString b))) = aw (.bl (decide (a = b))) := by
 rw [Xo (so a) (so b)]; simp only [jK]
theorem Xr (a b : String) : lift (d9 (.str (Str.ofString a)) (.str (Str.ofString b))) = aw (.bl (!decide (a = b))) := by
 rw [Xp (so a) (so b)]; simp only [jK]
theorem Xs (a b : Bool) : lift (d9 (.bl a) (.bl b)) = aw (.bl (!(a == b))) := by
 funext ph; unfold d9 bO lift; simp only [dat]; rfl
theorem p8 (c : String) (w : W) (t : String) (h : ∀ ph, pB w ph = some t) : lift (fH c w) = aw (.bl (dE t c)) := by
 funext ph; unfold lift fH; rw [h]; rfl
theorem YM (c : String) (i : Int) : lift (fH c (.int i)) = aw (.bl (dE "int" c)) := p8 _ _ _ fun _ => rfl
theorem YN (c : String) (b : Bool) : lift (fH c (.bl b)) = aw (.bl (dE "bool" c)) := p8 _ _ _ fun _ => rfl
theorem YO (c : String) : lift (fH c .az) = aw (.bl (dE "NoneType" c)) := p8 _ _ _ fun _ => rfl
theorem YQ (c : String) (x : Str) : lift (fH c (.str x)) = aw (.bl (dE "str" c)) := p8 _ _ _ fun _ => rfl
theorem EL (c : String) (ws : List W) : lift (fH c (.tup ws)) = aw (.bl (dE "tuple" c)) := p8 _ _ _ fun _ => rfl
theorem Vt {c : String} {i : Nat} {ph : PH} {ws : List W} (h : ph[i]? = some (.lst ws)) : lift (fH c (.ref i)) ph = .ok (.bl (dE "list" c)) ph := by
 unfold lift fH pB; simp only [h]
theorem YR : dE "int" "int" = true := by decide +kernel
theorem YS : dE "int" "bool" = false := by decide +kernel
theorem YT : dE "bool" "int" = true := by decide +kernel
theorem YU : dE "bool" "bool" = true := by decide +kernel
theorem YV : dE "NoneType" "int" = false := by decide +kernel
theorem YW : dE "str" "int" = false := by decide +kernel
theorem YX : dE "list" "int" = false := by decide +kernel
theorem EN : dE "list" "list" = true := by decide +kernel
theorem EO : dE "tuple" "tuple" = true := by decide +kernel
theorem Vu : lift (jQ []) = aw (.tup []) := (rfl)
theorem Vv (a : W) : lift (jQ [a]) = aw (.tup [a]) := (rfl)
theorem Vw (a b : W) : lift (jQ [a, b]) = aw (.tup [a, b]) := (rfl)
theorem Vx (a b c : W) : lift (jQ [a, b, c]) = aw (.tup [a, b, c]) := (rfl)
theorem Vy (a b c d : W) : lift (jQ [a, b, c, d]) = aw (.tup [a, b, c, d]) := (rfl)
theorem Vz (a b c d e : W) : lift (jQ [a, b, c, d, e]) = aw (.tup [a, b, c, d, e]) := (rfl)
theorem Xt (a : W) (l : List W) : lift (dF (.tup (a :: l)) (.int 0)) = aw a := by
 funext ph; unfold lift dF bL cF; simp [bR, aw]
theorem Xu (a b : W) (l : List W) : lift (dF (.tup (a :: b :: l)) (.int 1)) = aw b := by
 funext ph; unfold lift dF bL cF; simp [bR, aw]; rw [if_pos (by omega)]; simp
theorem Xv (a b c : W) (l : List W) : lift (dF (.tup (a :: b :: c :: l)) (.int 2)) = aw c := by
 funext ph; unfold lift dF bL cF; simp [bR, aw]; rw [if_pos (by omega)]; simp
theorem Xw (a b c d : W) (l : List W) : lift (dF (.tup (a :: b :: c :: d :: l)) (.int 3)) = aw d := by
 funext ph; unfold lift dF bL cF; simp [bR, aw]; rw [if_pos (by omega)]; simp
theorem Xx (a b c d e : W) (l : List W) : lift (dF (.tup (a :: b :: c :: d :: e :: l)) (.int 4)) = aw e := by
 funext ph; unfold lift dF bL cF; simp [bR, aw]; rw [if_pos (by omega)]; simp
def mm : W -> Bool
 | .az => true
 | _ => false
theorem VA (w : W) : lift (fy w .az) = aw (.bl (!mm w)) := by
 unfold fy; cases w <;> rfl
theorem Xy (w : W) : lift (mE w .az) = aw (.bl (mm w)) := by
 unfold mE; cases w <;> rfl
theorem Sy (i : Int) : mm (.int i) = false := rfl
theorem Sz : mm .az = true := rfl
theorem SA (ws : List W) : mm (.tup ws) = false := rfl
theorem SD (i : Nat) : mm (.ref i) = false := rfl
def Ex (ph ph' : PH) : Prop := ∃ m, ph' = ph ++ m
theorem Ex.refl (ph : PH) : Ex ph ph := ⟨[], by simp⟩
theorem Ex.trans {a b c : PH} (h : Ex a b) (h' : Ex b c) : Ex a c := by
 obtain ⟨m, rfl⟩ := h
 obtain ⟨m', rfl⟩ := h'
 exact ⟨m ++ m', by simp⟩
theorem Ex.one (ph : PH) (o : PO) : Ex ph (ph ++ [o]) := ⟨[o], rfl⟩
theorem Ex.get {a b : PH} (h : Ex a b) {i : Nat} {o : PO} (e : a[i]? = some o) : b[i]? = some o := by
 obtain ⟨m, rfl⟩ := h
 rw [List.getElem?_append_left (List.getElem?_eq_some_iff.mp e).1]; exact e
theorem Ex.len {a b : PH} (h : Ex a b) : a.length <= b.length := by obtain ⟨m, rfl⟩ := h; simp
theorem aZ (ph : PH) (o : PO) : (ph ++ [o])[ph.length]? = some o := by simp
theorem small {n : Nat} (h : n <= 1000000) : n <= sizeLine := Nat.le_trans h (by decide)
section
variable {β : Type} {ph : PH} {i : Nat} {ws : List W}
theorem tU (ws : List W) (ph : PH) (h : ws.length <= sizeLine) : lift (nV ws) ph = .ok (.ref ph.length) (ph ++ [.lst ws]) := by
 unfold lift nV; rw [if_pos h]
theorem jH (ws : List W) (f : W -> Mo β) (ph : PH) (h : ws.length <= sizeLine) : ap (lift (nV ws)) f ph = f (.ref ph.length) (ph ++ [.lst ws]) := ai (tU ws ph h)
theorem VB (h : ph[i]? = some (.lst ws)) {k : Int} {w : W} (hk : bL ws k = some w) : lift (dF (.ref i) (.int k)) ph = .ok w ph := by
 unfold lift dF; simp only [bR, h, Option.bind_some, hk, Option.map_some]
theorem gk (h : ph[i]? = some (.lst ws)) : lift (cb [.ref i]) ph = .ok (.int ws.length) ph := by
 unfold lift cb; simp only [bR, h, Option.map_some]
theorem o8 (h : ph[i]? = some (.lst ws)) : cL (.ref i) ph = true := by unfold cL; simp only [h]
theorem o9 (h : ph[i]? = some (.lst ws)) : lift (jR (cL (.ref i))) ph = .ok () ph := by
 unfold lift jR; rw [if_pos (o8 h)]
theorem sC (h : ph[i]? = some (.lst ws)) (hz : ws.length < sizeLine) (w : W) : lift (fc (.ref i) [w]) ph = .ok .az (ph.set i (.lst (ws ++ [w]))) := by
 unfold lift fc; simp only [h, hz, if_true]
theorem Oh {j : Nat} {us : List W} (h : ph[i]? = some (.lst ws)) (h' : ph[j]? = some (.lst us)) (hz : ws.length + us.length <= sizeLine) : lift (o7 (.ref i) [.ref j]) ph = .ok .az (ph.set i (.lst (ws ++ us))) := by
 unfold lift o7; simp only [h, h', hz, if_true]
theorem wk (h : ph[i]? = some (.lst ws)) : lift (kT [.ref i]) ph = .ok (.ref ph.length) (ph ++ [.lst ws]) := by
 unfold lift kT; simp only [bR, h]
theorem lS {j : Nat} {us : List W} (h : ph[i]? = some (.lst ws)) (h' : ph[j]? = some (.lst us)) (hz : ws.length + us.length <= sizeLine) : lift (addW (.ref i) (.ref j)) ph = .ok (.ref ph.length) (ph ++ [.lst (ws ++ us)]) := by
 unfold lift addW; simp only [h, h', hz, if_true]
end
theorem lH (a b : Int) (h : 0 < b) : 0 <= a.fmod b /\ a.fmod b < b := by
 rw [Int.fmod_eq_emod_of_nonneg _ (by omega)]
 exact ⟨Int.emod_nonneg _ (by omega), Int.emod_lt_of_pos _ h⟩
theorem wG {α : Type} (ws : List α) (k : Nat) (h : k < ws.length) : bL ws (k : Int) = ws[k]? := by
 unfold bL cF
 rw [if_pos (by omega), if_pos (by omega)]; rfl
theorem VC {α : Type} (ws : List α) (d : Int) (h0 : 0 <= d) (h : d < ws.length) : ∃ w ∈ ws, bL ws d = some w := by
 unfold bL cF
 rw [if_pos h0, if_pos h]
 have hd : d.toNat < ws.length := by omega
 exact ⟨ws[d.toNat], List.getElem_mem hd, by simp [hd]⟩
theorem YY (ws : List W) : lift (cb [.fl ws]) = aw (.int ws.length) := by funext ph; rfl
theorem ixF {ws : List W} {i : Int} {w : W} (h : bL ws i = some w) : lift (dF (.fl ws) (.int i)) = aw w := by
 funext ph; unfold lift dF; simp only [bR, Option.bind_some, h, Option.map_some]; rfl
theorem BL {chk : PH -> Bool} {g : GM} {b : SM} (R : W -> PH -> Prop) (I : Nat -> aE -> PH -> Prop) : ∀ (items : List W) (k : Nat) (σ : aE) (ph : PH),
  (∀ j σ ph, I j σ ph -> chk ph = true) →
  (∀ j x σ ph, items[j]? = some x -> I (k + j) σ ph -> ∃ aP ph1, g x σ ph = .ok aP ph1 /\ ∃ f ph2, b aP ph1 = .ok f ph2 /\ ((∃ bF, (f = .nx bF \/ f = .ct bF) /\ I (k + j + 1) bF ph2) \/ ∃ w, f = .rt w /\ R w ph2)) →
  I k σ ph -> (∃ ao ph', cP chk g b items σ ph = .ok (.nx ao) ph' /\ I (k + items.length) ao ph') \/ ∃ w ph', cP chk g b items σ ph = .ok (.rt w) ph' /\ R w ph'
 | [], k, σ, ph, hc, hs, h0 => by
  refine .inl ⟨σ, ph, ?_, h0⟩
  unfold cP
  rw [if_pos (hc _ _ _ h0)]
 | x :: xs, k, σ, ph, hc, hs, h0 => by
  obtain ⟨aP, ph1, e1, f, ph2, e2, h⟩ := hs 0 x σ ph rfl h0
  have e : cP chk g b (x :: xs) σ ph = (match f with
   | .nx ao => cP chk g b xs ao
   | .ct ao => cP chk g b xs ao
   | .bk ao => aw (.nx ao)
   | .rt w => aw (.rt w)) ph2 := by
   conv => lhs; unfold cP
   rw [if_pos (hc _ _ _ h0), ai e1, ai e2]
   all_goals (cases f <;> rfl)
  rcases h with ⟨bF, hf, hI⟩ | ⟨w, rfl, hR⟩
  ·have e : cP chk g b (x :: xs) σ ph = cP chk g b xs bF ph2 := by
    rcases hf with rfl | rfl <;> exact e
   rw [e]
   have ih := BL R I xs (k + 1) bF ph2 hc (fun j y σ ph hj hI => by
    have := hs (j + 1) y σ ph (by simpa using hj) (by rw [show k + (j + 1) = k + 1 + j by omega]; exact hI)
    rw [show k + (j + 1) + 1 = k + 1 + j + 1 by omega] at this
    exact this) hI
   rw [show k + 1 + xs.length = k + (x :: xs).length by simp; omega] at ih
   exact ih
  ·exact .inr ⟨w, ph2, e, hR⟩
theorem jF {chk : PH -> Bool} {g : GM} {b : SM} (I : Nat -> aE -> PH -> Prop) (items : List W) (σ : aE) (ph : PH)
  (hc : ∀ j σ ph, I j σ ph -> chk ph = true)
  (hs : ∀ j x σ ph, items[j]? = some x -> I j σ ph -> ∃ aP ph1, g x σ ph = .ok aP ph1 /\ ∃ f ph2, b aP ph1 = .ok f ph2 /\ ∃ bF, (f = .nx bF \/ f = .ct bF) /\ I (j + 1) bF ph2)
  (h0 : I 0 σ ph) : ∃ ao ph', cP chk g b items σ ph = .ok (.nx ao) ph' /\ I items.length ao ph' := by
 have := BL (fun _ _ => False) I items 0 σ ph hc (fun j x σ ph hj hI => by
  rw [Nat.zero_add] at hI ⊢
  obtain ⟨aP, ph1, e1, f, ph2, e2, h⟩ := hs j x σ ph hj hI
  exact ⟨aP, ph1, e1, f, ph2, e2, .inl h⟩) h0
 rw [Nat.zero_add] at this
 rcases this with h | ⟨_, _, _, h⟩
 ·exact h
 ·exact h.elim
theorem sQ {chk : PH -> Bool} {g : GM} {c : TM} {e : EM} (L : Nat) (I : Nat -> List W -> aE -> PH -> Prop) : ∀ (items : List W) (k : Nat) (acc : List W) (σ : aE) (ph : PH),
  (∀ j acc σ ph, I j acc σ ph -> chk ph = true) →
  (∀ j x acc σ ph, items[j]? = some x -> I (k + j) acc σ ph -> ∃ aP ph1, g x σ ph = .ok aP ph1 /\ ∃ t ph2, c aP ph1 = .ok t ph2 /\ ((t = false /\ I (k + j + 1) acc aP ph2) \/ (t = true /\ ∃ w dm, e aP ph2 = .ok w dm /\ dm[L]? = some (.lst acc) /\ acc.length < sizeLine /\ I (k + j + 1) (acc ++ [w]) aP (dm.set L (.lst (acc ++ [w])))))) →
  I k acc σ ph -> ∃ ym ao ph', de chk g c e L items σ ph = .ok () ph' /\ I (k + items.length) ym ao ph'
 | [], k, acc, σ, ph, hc, hs, h0 => by
  refine ⟨acc, σ, ph, ?_, h0⟩
  unfold de
  rw [if_pos (hc _ _ _ _ h0)]
 | x :: xs, k, acc, σ, ph, hc, hs, h0 => by
  obtain ⟨aP, ph1, e1, t, ph2, e2, h⟩ := hs 0 x acc σ ph rfl h0
  have next : ∀ yn cK, I (k + 1) yn aP cK -> ∃ ym ao ph', de chk g c e L xs aP cK = .ok () ph' /\ I (k + (x :: xs).length) ym ao ph' := fun yn cK hI => by
   have ih := sQ L I xs (k + 1) yn aP cK hc (fun j y acc σ ph hj hI => by
    have := hs (j + 1) y acc σ ph (by simpa using hj) (by rw [show k + (j + 1) = k + 1 + j by omega]; exact hI)
    rw [show k + (j + 1) + 1 = k + 1 + j + 1 by omega] at this
    exact this) hI
   rw [show k + 1 + xs.length = k + (x :: xs).length by simp; omega] at ih
   exact ih
  have n1 : eG (g x σ) ph = .ok aP ph1 := by unfold eG; rw [e1]
  have n2 : eG (c aP) ph1 = .ok t ph2 := by unfold eG; rw [e2]
  rcases h with ⟨rfl, hI⟩ | ⟨rfl, w, dm, e3, hL, hz, hI⟩
  ·have e : de chk g c e L (x :: xs) σ ph = de chk g c e L xs aP ph2 := by
    conv => lhs; unfold de
    rw [if_pos (hc _ _ _ _ h0), ai n1, ai n2]
    rfl
   rw [e]
   exact next _ _ hI
  ·have n3 : eG (e aP) ph2 = .ok w dm := by unfold eG; rw [e3]
   have e : de chk g c e L (x :: xs) σ ph = de chk g c e L xs aP (dm.set L (.lst (acc ++ [w]))) := by
    conv => lhs; unfold de
    rw [if_pos (hc _ _ _ _ h0), ai n1, ai n2]
    show ap (eG (e aP)) _ ph2 = _
    rw [ai n3]
    exact ai (sC hL hz w)
   rw [e]
   exact next _ _ hI
theorem BM (im : IM) (cap : List (Option Nat)) (g : GM) (c : TM) (e : EM) (σ : aE) : cZ im cap g c e σ = ap (im σ) fun r ph => ap (de r.2 g c e ph.length r.1 (fk cap σ)) (fun _ => aw (.ref ph.length)) (ph ++ [.lst []]) := (rfl)
theorem CA (ph m : PH) (o o' : PO) : (ph ++ [o] ++ m).set ph.length o' = ph ++ [o'] ++ m := by
 rw [List.append_assoc, List.set_append_right _ _ (Nat.le_refl _)]
 simp
theorem lP {α : Type} (as : List α) (h : α -> W) {im : IM} {cap : List (Option Nat)} {g : GM} {c : TM} {e : EM} {σ : aE} {ph ph0 : PH} {chk : PH -> Bool} (qM : im σ ph0 = .ok (as.map h, chk) ph) (zt : ∀ ph', Ex ph ph' -> chk ph' = true) (hz : as.length <= sizeLine)
  (F : α -> Option W) (S : aE -> Prop) (h0 : S (fk cap σ))
  (step : ∀ x ∈ as, ∀ σ H, S σ -> Ex ph H -> ∃ aP, g (h x) σ H = .ok aP H /\ S aP /\ ∃ t H1, c aP H = .ok t H1 /\ Ex H H1 /\ ((t = false /\ F x = none) \/ (t = true /\ ∃ w H2, e aP H1 = .ok w H2 /\ Ex H1 H2 /\ F x = some w))) :
  ∃ ph', cZ im cap g c e σ ph0 = .ok (.ref ph.length) ph' /\ Ex (ph ++ [.lst (as.filterMap F)]) ph' := by
 rw [BM, ai qM]
 have key := sQ (chk := chk) (g := g) (c := c) (e := e) ph.length (fun k acc σ H => S σ /\ acc = (as.take k).filterMap F /\ Ex (ph ++ [.lst acc]) H) (as.map h) 0 [] (fk cap σ) (ph ++ [.lst []])
  (fun j acc σ H hI => zt _ ((Ex.one _ _).trans hI.2.2))
  (fun j y acc σ H hj hI => by
   rw [Nat.zero_add] at hI ⊢
   obtain ⟨hS, ha, hE⟩ := hI
   rw [List.getElem?_map] at hj
   cases hx : as[j]? with
   | none => rw [hx] at hj; cases hj
   | some x =>
    rw [hx] at hj
    cases hj
    have tk : (as.take (j + 1)).filterMap F = acc ++ (F x).toList := by
     rw [List.take_add_one, hx, List.filterMap_append, ha]
     cases hF : F x <;> simp [hF]
    obtain ⟨aP, e1, ij, t, H1, e2, x2, h⟩ := step x (List.mem_of_getElem? hx) σ H hS ((Ex.one _ _).trans hE)
    refine ⟨aP, H, e1, t, H1, e2, ?_⟩
    rcases h with ⟨rfl, hF⟩ | ⟨rfl, w, H2, e3, x3, hF⟩
    ·exact .inl ⟨rfl, ij, by rw [tk, hF]; simp, hE.trans x2⟩
    ·have x4 := (hE.trans x2).trans x3
     refine .inr ⟨rfl, w, H2, e3, x4.get (aZ _ _), ?_, ij, by rw [tk, hF]; rfl, ?_⟩
     ·have hl : acc.length <= j := by
       rw [ha]
       exact Nat.le_trans (List.length_filterMap_le _ _) (by simp; omega)
      have := (List.getElem?_eq_some_iff.mp hx).1
      omega
     ·obtain ⟨m, rfl⟩ := x4
      rw [CA]
      exact ⟨m, rfl⟩)
  ⟨h0, by simp, Ex.refl _⟩
 obtain ⟨acc, ao, ph', e1, _, ha, hE⟩ := key
 refine ⟨ph', ?_, ?_⟩
 ·show ap (de chk g c e ph.length (as.map h) (fk cap σ)) _ _ = _
  rw [ai e1]; rfl
 ·rw [Nat.zero_add, List.length_map, List.take_length] at ha
  rw [<- ha]; exact hE
theorem nk {α β : Type} (f : α -> β) : ∀ l : List α, l.filterMap (fun a => some (f a)) = l.map f
 | [] => rfl
 | a :: l => by
  rw [List.filterMap_cons_some (f := fun a => some (f a)) (b := f a) rfl, nk f l]; rfl
theorem Qu {α : Type} (as : List α) (h : α -> W) {im : IM} {cap : List (Option Nat)} {g : GM} {c : TM} {e : EM} {σ : aE} {ph ph0 : PH} {chk : PH -> Bool} (qM : im σ ph0 = .ok (as.map h, chk) ph) (zt : ∀ ph', Ex ph ph' -> chk ph' = true) (hz : as.length <= sizeLine)
  (R : Nat -> W -> Prop) (S : aE -> Prop) (h0 : S (fk cap σ))
  (step : ∀ j x, as[j]? = some x -> ∀ σ H, S σ -> Ex ph H -> ∃ aP, g (h x) σ H = .ok aP H /\ S aP /\ ∃ H1, c aP H = .ok true H1 /\ Ex H H1 /\ ∃ w H2, e aP H1 = .ok w H2 /\ Ex H1 H2 /\ R j w) :
  ∃ ws ph', cZ im cap g c e σ ph0 = .ok (.ref ph.length) ph' /\ Ex (ph ++ [.lst ws]) ph' /\ ws.length = as.length /\ ∀ j w, ws[j]? = some w -> R j w := by
 rw [BM, ai qM]
 have key := sQ (chk := chk) (g := g) (c := c) (e := e) ph.length (fun k acc σ H => S σ /\ acc.length = k /\ (∀ j w, acc[j]? = some w -> R j w) /\ Ex (ph ++ [.lst acc]) H) (as.map h) 0 [] (fk cap σ) (ph ++ [.lst []])
  (fun j acc σ H hI => zt _ ((Ex.one _ _).trans hI.2.2.2))
  (fun j y acc σ H hj hI => by
   rw [Nat.zero_add] at hI ⊢
   obtain ⟨hS, hl, ha, hE⟩ := hI
   rw [List.getElem?_map] at hj
   cases hx : as[j]? with
   | none => rw [hx] at hj; cases hj
   | some x =>
    rw [hx] at hj
    cases hj
    obtain ⟨aP, e1, ij, H1, e2, x2, w, H2, e3, x3, hR⟩ := step j x hx σ H hS ((Ex.one _ _).trans hE)
    have x4 := (hE.trans x2).trans x3
    refine ⟨aP, H, e1, true, H1, e2, .inr ⟨rfl, w, H2, e3, x4.get (aZ _ _), ?_, ij, by simp [hl], fun i u hu => ?_, ?_⟩⟩
    ·have := (List.getElem?_eq_some_iff.mp hx).1
     omega
    ·by_cases hi : i < acc.length
     ·rw [List.getElem?_append_left hi] at hu
      exact ha i u hu
     ·have zj : i = j := by
       have := (List.getElem?_eq_some_iff.mp hu).1
       simp at this
       omega
      subst zj
      rw [<- hl, List.getElem?_concat_length] at hu
      cases hu
      exact hR
    ·obtain ⟨m, rfl⟩ := x4
     rw [CA]
     exact ⟨m, rfl⟩)
  ⟨h0, rfl, fun j w hw => by simp at hw, Ex.refl _⟩
 obtain ⟨acc, ao, ph', e1, _, hl, ha, hE⟩ := key
 refine ⟨acc, ph', ?_, hE, by rw [hl, Nat.zero_add, List.length_map], ha⟩
 show ap (de chk g c e ph.length (as.map h) (fk cap σ)) _ _ = _
 rw [ai e1]; rfl
theorem tV {m : AM} {σ : aE} {ph ph' : PH} {j : Int} (h : m σ ph = .ok [.int j] ph') (h1 : -(2 ^ 62) <= j) (h2 : j < 2 ^ 62) : eY m σ ph = .ok (eS 0 j.toNat, fun _ => true) ph' := by
 unfold eY
 rw [ai h]
 unfold lift ya
 simp only [h1, h2, and_self, if_true]
theorem VD {m : AM} {σ : aE} {ph ph' : PH} {i j : Int} (h : m σ ph = .ok [.int i, .int j] ph') (h1 : -(2 ^ 62) <= i) (h2 : i < 2 ^ 62) (h3 : -(2 ^ 62) <= j) (h4 : j < 2 ^ 62) : mM m σ ph = .ok (eS i (j - i).toNat, fun _ => true) ph' := by
 unfold mM
 rw [ai h]
 unfold lift yb
 simp only [h1, h2, h3, h4, and_self, if_true]
theorem tu {lo : Int} {n k : Nat} {w : W} (h : (eS lo n)[k]? = some w) : k < n /\ w = .int (lo + (k : Int)) := by
 unfold eS at h
 rw [List.getElem?_map] at h
 cases q : (List.range n)[k]? with
 | none => rw [q] at h; cases h
 | some j =>
  rw [q] at h
  obtain ⟨hi, e⟩ := List.getElem?_eq_some_iff.mp q
  rw [List.getElem_range] at e
  subst e
  rw [List.length_range] at hi
  cases h
  exact ⟨hi, rfl⟩
theorem Qv (lo : Int) (n : Nat) : (eS lo n).length = n := by unfold eS; simp
theorem VE {ph : PH} {i : Nat} {ws : List W} {ds : List PyData} {x : W} {d : PyData} (h : ph[i]? = some (.lst ws)) (h1 : bf (dat ph 40) ws = some ds) (h2 : dat ph 40 x = some d) : lift (gL x (.ref i)) ph = .ok (.bl (ds.any fun e => PyData.eqv e d)) ph := by
 unfold lift gL inD
 simp only [bR, h, h1, h2, Option.map_some]
theorem VF {ph : PH} {ws : List W} {ds : List PyData} {x : W} {d : PyData} (h1 : bf (dat ph 40) ws = some ds) (h2 : dat ph 40 x = some d) : lift (gL x (.tup ws)) ph = .ok (.bl (ds.any fun e => PyData.eqv e d)) ph := by
 unfold lift gL inD
 simp only [bR, h1, h2, Option.map_some]
theorem t8 (a b : Str) : PyData.eqv (.str a) (.str b) = decide (a = b) := by
 unfold PyData.eqv; rfl
theorem pH (a b : Int) : PyData.eqv (.int a) (.int b) = decide (a = b) := by
 unfold PyData.eqv; rfl
theorem Xz (a b : Bool) : PyData.eqv (.bool a) (.bool b) = decide (a = b) := by
 unfold PyData.eqv; cases a <;> cases b <;> rfl
theorem Dt (a b c d : PyData) : PyData.eqv (.tuple [a, b]) (.tuple [c, d]) = (PyData.eqv a c && PyData.eqv b d) := by
 simp only [PyData.eqv, PyData.eqvAll, Bool.and_true]
theorem gU {α β γ : Type} (f : β -> Option γ) (g : α -> β) (h : α -> γ) (hf : ∀ a, f (g a) = some (h a)) : ∀ l : List α, bf f (l.map g) = some (l.map h)
 | [] => rfl
 | a :: l => by
  show bf f (g a :: l.map g) = _
  unfold bf
  rw [hf a, gU f g h hf l]
  rfl
theorem wR (x : String) (ss : List String) : lift (gL (.str (Str.ofString x)) (.tup (ss.map fun s => .str (Str.ofString s)))) = aw (.bl (ss.any fun s => decide (s = x))) := by
 funext ph
 rw [VF (gU _ _ (fun s => PyData.str (Str.ofString s)) (fun s => by simp only [dat, so, if_true]) ss) (d := .str (Str.ofString x)) (by simp only [dat, so, if_true])]
 rw [List.any_map]
 simp only [Function.comp_def, t8, jK]
 rfl
theorem XA (x a b : String) : lift (gL (.str (Str.ofString x)) (.tup [.str (Str.ofString a), .str (Str.ofString b)])) = aw (.bl (decide (a = x) || decide (b = x))) := by
 have := wR x [a, b]
 simp only [List.map_cons, List.map_nil, List.any_cons, List.any_nil, Bool.or_false] at this
 exact this
theorem XB (x a b c : String) : lift (gL (.str (Str.ofString x)) (.tup [.str (Str.ofString a), .str (Str.ofString b), .str (Str.ofString c)])) = aw (.bl (decide (a = x) || (decide (b = x) || decide (c = x)))) := by
 have := wR x [a, b, c]
 simp only [List.map_cons, List.map_nil, List.any_cons, List.any_nil, Bool.or_false] at this
 exact this
theorem SE {ph : PH} {i : Nat} {bs : List Bool} (h : ph[i]? = some (.lst (bs.map W.bl))) : lift (pT [.ref i]) ph = .ok (.bl (bs.any id)) ph := by
 unfold lift pT k0
 simp only [o8 h, if_true, bR, h, Option.bind_some, gU qz W.bl id (fun _ => rfl), Option.map_some, List.map_id_fun, id]
theorem SF {ph : PH} {i : Nat} {bs : List Bool} (h : ph[i]? = some (.lst (bs.map W.bl))) : lift (nZ [.ref i]) ph = .ok (.bl (bs.all id)) ph := by
 unfold lift nZ k0
 simp only [o8 h, if_true, bR, h, Option.bind_some, gU qz W.bl id (fun _ => rfl), Option.map_some, List.map_id_fun, id]
theorem XD (ws : List W) (y : W) : aj (.tup ws) y = dF (.tup ws) y := (rfl)
theorem XF (ws : List W) (y : W) : aj (.fl ws) y = dF (.fl ws) y := (rfl)
theorem XG (x : Str) (y : W) : aj (.str x) y = dF (.str x) y := (rfl)
theorem XH (x : W) (ws : List W) : cD x (.tup ws) = gL x (.tup ws) := (rfl)
theorem XI (x : W) (ws : List W) : cD x (.fl ws) = gL x (.fl ws) := (rfl)
theorem VG (x : W) (ws : List W) : ja x (.tup ws) = uq x (.tup ws) := (rfl)
theorem VH (i : Int) (y : W) : EG (.int i) y = fD (.int i) y := by
 funext ph; unfold EG; cases y <;> rfl
theorem Qw (o i : EM) (v : W) (σ : aE) : iX o i v σ = ap (o σ) fun ow => ap (i σ) fun iw => ap (lift (pV ow iw v)) fun _ => aw σ := (rfl)
section
variable {ph : PH} {i : Nat} {ws : List W} {kws : List (W × W)}
theorem ua (h : ph[i]? = some (.lst ws)) : dB (.ref i) ph = none := by unfold dB; simp only [h]
theorem pI (h : ph[i]? = some (.aQ kws)) : dB (.ref i) ph = some (i, kws) := by unfold dB; simp only [h]
theorem lT (h : ph[i]? = some (.lst ws)) {k : Int} {w : W} (hk : bL ws k = some w) : lift (aj (.ref i) (.int k)) ph = .ok w ph := by
 have := VB h hk
 unfold lift at this ⊢
 unfold aj
 rw [ua h]
 exact this
theorem CB {ds : List PyData} {x : W} {d : PyData} (h : ph[i]? = some (.lst ws)) (h1 : bf (dat ph 40) ws = some ds) (h2 : dat ph 40 x = some d) : lift (cD x (.ref i)) ph = .ok (.bl (ds.any fun e => PyData.eqv e d)) ph := by
 have := VE h h1 h2
 unfold lift at this ⊢
 unfold cD
 rw [ua h]
 exact this
theorem Qx {ds : List PyData} {x : W} {d : PyData} (h : ph[i]? = some (.lst ws)) (h1 : bf (dat ph 40) ws = some ds) (h2 : dat ph 40 x = some d) : lift (ja x (.ref i)) ph = .ok (.bl (!(ds.any fun e => PyData.eqv e d))) ph := by
 unfold lift ja
 rw [ua h]
 unfold uq inD
 simp only [bR, h, h1, h2, Option.map_some]
theorem wm (h : ph[i]? = some (.lst ws)) {k : Int} {j : Nat} (hj : cF ws.length k = some j) (v : W) : lift (pV (.ref i) (.int k) v) ph = .ok () (ph.set i (.lst (ws.set j v))) := by
 unfold lift pV
 rw [ua h]
 unfold ye
 simp only [h, hj]
end
theorem SG (ph : PH) : lift newD ph = .ok (.ref ph.length) (ph ++ [.aQ []]) := rfl
theorem CC (σ : aE) : ux σ = lift newD := (rfl)
theorem EQ (b : SM) (n : Nat) (x y z u v : W) : fM b n 5 [x, y, z, u, v] = ap (b (some x :: some y :: some z :: some u :: some v :: List.replicate (n - 5) none)) gC := (rfl)
theorem YZ (b : SM) (n : Nat) (x y z u v w : W) : fM b n 6 [x, y, z, u, v, w] = ap (b (some x :: some y :: some z :: some u :: some v :: some w :: List.replicate (n - 6) none)) gC := (rfl)
theorem wo {t : TM} {b : SM} : ∀ (n : Nat) (σ : aE) (ph : PH), (cG t b n σ ph).nU = false -> cG t b (n + 1) σ ph = cG t b n σ ph
 | 0, σ, ph, h => by cases h
 | n + 1, σ, ph, h => by
  have h' : (ap (t σ) (fun c => if c = true then ap (b σ) fun f => match f with
   | .nx ao => cG t b n ao
   | .ct ao => cG t b n ao
   | .bk ao => aw (.nx ao)
   | .rt w => aw (.rt w)
   else aw (.nx σ)) ph).nU = false := h
  show ap (t σ) (fun c => if c = true then ap (b σ) fun f => match f with
   | .nx ao => cG t b (n + 1) ao
   | .ct ao => cG t b (n + 1) ao
   | .bk ao => aw (.nx ao)
   | .rt w => aw (.rt w)
   else aw (.nx σ)) ph = ap (t σ) (fun c => if c = true then ap (b σ) fun f => match f with
   | .nx ao => cG t b n ao
   | .ct ao => cG t b n ao
   | .bk ao => aw (.nx ao)
   | .rt w => aw (.rt w)
   else aw (.nx σ)) ph
  cases e1 : t σ ph with
  | no => unfold ap; rw [e1]
  | ex x p => unfold ap; rw [e1]
  | ok c p =>
   rw [ai e1] at h' ⊢
   rw [ai e1]
   cases c with
   | false => rfl
   | true =>
    simp only [if_true] at h' ⊢
    cases e2 : b σ p with
    | no => unfold ap; rw [e2]
    | ex x q => unfold ap; rw [e2]
    | ok f q =>
     rw [ai e2] at h' ⊢
     rw [ai e2]
     cases f with
     | nx ao => exact wo n ao q h'
     | ct ao => exact wo n ao q h'
     | bk ao => rfl
     | rt w => rfl
theorem Du {t : TM} {b : SM} {n m : Nat} {σ : aE} {ph : PH} (hm : n <= m) (h : (cG t b n σ ph).nU = false) : cG t b m σ ph = cG t b n σ ph := by
 induction m with
 | zero =>
  have : n = 0 := by omega
  rw [this]
 | succ m ih =>
  by_cases e : n = m + 1
  ·rw [e]
  ·have := ih (by omega)
   rw [wo m σ ph (by rw [this]; exact h), this]
theorem Pk {t : TM} {b : SM} {n : Nat} {σ : aE} {ph ph' : PH} {f : Fl} (h : cG t b n σ ph = .ok f ph') : iR t b σ ph = .ok f ph' := by
 have hn : (cG t b n σ ph).nU = false := by rw [h]; rfl
 have he : ∃ n, (cG t b n σ ph).nU = false := ⟨n, hn⟩
 unfold iR
 rw [dif_pos he]
 have hc := he.choose_spec
 by_cases qG : n <= he.choose
 ·rw [Du qG hn, h]
 ·rw [<- Du (Nat.le_of_not_le qG) hc, h]
theorem Bn {t : TM} {b : SM} (I : Nat -> aE -> PH -> Prop) (D : aE -> PH -> Prop)
  (step : ∀ k σ ph, I k σ ph -> (∃ ph1, t σ ph = .ok false ph1 /\ D σ ph1) \/ ∃ ph1, t σ ph = .ok true ph1 /\ ∃ f ph2, b σ ph1 = .ok f ph2 /\ ∃ bF, (f = .nx bF \/ f = .ct bF) /\ ∃ k', k' < k /\ I k' bF ph2) :
  ∀ k σ ph, I k σ ph -> ∃ ao ph', iR t b σ ph = .ok (.nx ao) ph' /\ D ao ph' := by
 have key : ∀ k σ ph, I k σ ph -> ∃ n ao ph', cG t b n σ ph = .ok (.nx ao) ph' /\ D ao ph' := by
  intro k
  induction k using Nat.strongRecOn with
  | ind k ih =>
   intro σ ph h
   rcases step k σ ph h with ⟨ph1, e1, hD⟩ | ⟨ph1, e1, f, ph2, e2, bF, hf, k', hk, hI⟩
   ·refine ⟨1, σ, ph1, ?_, hD⟩
    show ap (t σ) _ ph = _
    rw [ai e1]; rfl
   ·obtain ⟨n, ao, ph', e3, hD⟩ := ih k' hk bF ph2 hI
    refine ⟨n + 1, ao, ph', ?_, hD⟩
    show ap (t σ) _ ph = _
    rw [ai e1]
    simp only [if_true]
    rw [ai e2]
    rcases hf with rfl | rfl <;> exact e3
 intro k σ ph h
 obtain ⟨n, ao, ph', e, hD⟩ := key k σ ph h
 exact ⟨ao, ph', Pk e, hD⟩
theorem xR (ph : PH) (n : Nat) (i : Int) : dat ph n (.int i) = some (.int i) := by cases n <;> rfl
theorem SH (l : List Int) (k : Int) : ((l.map PyData.int).any fun e => PyData.eqv e (.int k)) = decide (k ∈ l) := by
 rw [List.any_map, Bool.eq_iff_iff, List.any_eq_true, decide_eq_true_eq]
 constructor
 ·rintro ⟨u, hu, e⟩
  simp only [Function.comp_def, pH] at e
  rw [<- of_decide_eq_true e]; exact hu
 ·intro h
  exact ⟨k, h, by simp only [Function.comp_def, pH, decide_true]⟩
theorem Pl {ph : PH} {i : Nat} {l : List Int} (h : ph[i]? = some (.lst (l.map W.int))) (k : Int) : lift (ja (.int k) (.ref i)) ph = .ok (.bl (!decide (k ∈ l))) ph := by
 rw [Qx h (gU _ W.int PyData.int (fun a => xR _ _ a) l) (xR _ _ k), SH]
theorem ub {ph : PH} {x y : W} {b : Bool} (h : bO ph x y = some b) : lift (aV x y) ph = .ok (.bl b) ph := by
 unfold lift aV; simp only [h, Option.map_some]
theorem Ea {ph : PH} {x y : W} {b : Bool} (h : bO ph x y = some b) : lift (d9 x y) ph = .ok (.bl (!b)) ph := by
 unfold lift d9; simp only [h, Option.map_some]
theorem CD {α β : Type} {f : α -> Option β} : ∀ l : List α, (∀ a ∈ l, ∃ b, f a = some b) -> ∃ m, bf f l = some m
 | [], _ => ⟨[], rfl⟩
 | a :: l, h => by
  obtain ⟨b, e⟩ := h a (by simp)
  obtain ⟨m, e'⟩ := CD l fun c hc => h c (by simp [hc])
  exact ⟨b :: m, by unfold bf; rw [e, e']⟩
theorem eq_nil {ph : PH} {i j : Nat} {ws : List W} {ds : List PyData} (hi : ph[i]? = some (.lst ws)) (hj : ph[j]? = some (.lst [])) (hd : bf (dat ph 39) ws = some ds) : bO ph (.ref i) (.ref j) = some ws.isEmpty := by
 unfold bO
 have e1 : dat ph 40 (.ref i) = some (.list ds) := by simp only [dat, hi, hd, Option.map_some]
 have e2 : dat ph 40 (.ref j) = some (.list []) := by simp only [dat, hj, bf, Option.map_some]
 rw [e1, e2]
 cases ws with
 | nil => cases hd; simp [PyData.eqv, PyData.eqvAll]
 | cons w ws =>
  unfold bf at hd
  split at hd
  ·cases hd; simp [PyData.eqv, PyData.eqvAll]
  ·cases hd
def ER := (And.intro (And.intro (And.intro (And.intro (And.intro (And.intro @Cy (And.intro @Sh @Sg)) (And.intro (And.intro @e9 @Si) (And.intro @xv @Vk))) (And.intro (And.intro (And.intro @Xc @Xd) (And.intro @Vl @Vm)) (And.intro (And.intro @Xe @Sk) (And.intro @Qo @Sl)))) (And.intro (And.intro (And.intro @Qp (And.intro @Vn @cX)) (And.intro (And.intro @iS @Sn) (And.intro @Qq @BK))) (And.intro (And.intro (And.intro @Cz @Qr) (And.intro @Ph @So)) (And.intro (And.intro @Qs @Sq) (And.intro @Sr @Ds))))) (And.intro (And.intro (And.intro (And.intro @Ss (And.intro @Vo @Su)) (And.intro (And.intro @Pj @Qt) (And.intro @Sv @Sx))) (And.intro (And.intro (And.intro @k6 @mF) (And.intro @EK @YG)) (And.intro (And.intro @Xf @Xg) (And.intro @Xh @YH)))) (And.intro (And.intro (And.intro (And.intro @YI @YJ) (And.intro @YK @Xi)) (And.intro (And.intro @Vp @Xj) (And.intro @Xk @Xl))) (And.intro (And.intro (And.intro @YL @Vq) (And.intro @Vr @Vs)) (And.intro (And.intro @Xm @Xn) (And.intro @Qn @Vh)))))) (And.intro (And.intro (And.intro (And.intro (And.intro @Vi (And.intro @Vj @decide_true)) (And.intro (And.intro @decide_false @Bool.false_eq_true) (And.intro @Bool.not_true @Bool.not_false))) (And.intro (And.intro (And.intro @Xq @Xr) (And.intro @Xs @YM)) (And.intro (And.intro @YN @YO) (And.intro @YQ @EL)))) (And.intro (And.intro (And.intro (And.intro @YR @YS) (And.intro @YT @YU)) (And.intro (And.intro @YV @YW) (And.intro @YX @EN))) (And.intro (And.intro (And.intro @EO @Vu) (And.intro @Vv @Vw)) (And.intro (And.intro @Vx @Vy) (And.intro @Vz @Xt))))) (And.intro (And.intro (And.intro (And.intro @Xu (And.intro @Xv @Xw)) (And.intro (And.intro @Xx @VA) (And.intro @Xy @Sy))) (And.intro (And.intro (And.intro @Sz @SA) (And.intro @SD @EQ)) (And.intro (And.intro @YZ @XD) (And.intro @XF @XG)))) (And.intro (And.intro (And.intro (And.intro @XH @XI) (And.intro @VG @VH)) (And.intro (And.intro @Qw @CC) (And.intro @XA @XB))) (And.intro (And.intro (And.intro @Bool.or_false @Bool.false_or) (And.intro @Bool.or_true @Bool.true_or)) (And.intro (And.intro @Bool.and_true @Bool.true_and) (And.intro @Bool.and_false @Bool.false_and)))))))
theorem bB : type_of% ER := ER
theorem iO (c f : Str) (m : EM) (σ : aE) : cC c f m σ = ap (m σ) fun w => lift (pY c f w) := (rfl)
theorem BN (c f : Str) (o v : EM) (σ : aE) : fA c f o v σ = ap (v σ) fun y => ap (o σ) fun x => ap (lift (pZ c f x y)) fun _ => aw (.nx σ) := (rfl)
theorem SI (c : Str) (fm : List W -> Mo W) (σ : aE) (ph : PH) : jc c fm σ ph = ap (eG (fm [.ref ph.length])) (fun w => D5 w (aw (.ref ph.length))) (ph ++ [.obj c []]) := (rfl)
theorem SJ {c : Str} {fm : List W -> Mo W} {σ : aE} {ph ph' : PH} (h : fm [.ref ph.length] (ph ++ [.obj c []]) = .ok .az ph') : jc c fm σ ph = .ok (.ref ph.length) ph' := by
 rw [SI]
 have : eG (fm [.ref ph.length]) (ph ++ [.obj c []]) = .ok .az ph' := by unfold eG; rw [h]
 rw [ai this]
 rfl
section
variable {ph : PH} {i : Nat} {c f : Str} {fs : List (Str × W)} {w y : W} {kws : List (W × W)}
theorem fO (h : ph[i]? = some (.obj c fs)) (hl : fs.lookup f = some w) : lift (pY c f (.ref i)) ph = .ok w ph := by
 unfold lift pY; simp only [h, hl]; rfl
theorem CF (h : ph[i]? = some (.obj c fs)) (hz : fs.length < 1000) : lift (pZ c f (.ref i) y) ph = .ok () (ph.set i (.obj c (dI f y fs))) := by
 unfold lift pZ; simp only [h]; rw [if_pos ⟨trivial, hz⟩]
theorem SK (h : ph[i]? = some (.aQ kws)) : lift (jR (k4 (.ref i))) ph = .ok () ph := by
 unfold lift jR k4; rw [pI h]; rfl
theorem SN (h : ph[i]? = some (.aQ kws)) {k z : W} (hk : fi kws k = true) : lift (k5 (.ref i) [k, z]) ph = .ok ((bP kws k).getD z) ph := by
 unfold lift k5; simp only [pI h, hk, if_true]
theorem Qy {ws : List W} {ps d : List (W × W)} (h : ph[i]? = some (.lst ws)) (h1 : bf nM ws = some ps) (h2 : kU [] ps = some d) : lift (pE [.ref i]) ph = .ok (.ref ph.length) (ph ++ [.aQ d]) := by
 unfold lift pE; simp only [h, h1, h2]
theorem Qz {ns : List Int} (h : ph[i]? = some (.lst (ns.map W.int))) (hn : ns ≠ []) : lift (nL [.ref i]) ph = .ok (.int (jb ns)) ph := by
 have e : nJ (.ref i) ph = some ns := by
  unfold nJ
  rw [if_pos (o8 h)]
  have : bR (.ref i) ph = some (ns.map W.int) := by unfold bR; simp only [h]
  rw [this, Option.bind_some]
  have := gU uz W.int (fun x : Int => x) (fun _ => rfl) ns
  simpa using this
 unfold lift nL; simp only [e, hn, if_false]
end
theorem BO (f : Nat -> Int) : ∀ (k i : Nat), i <= k -> f i <= iY f k
 | 0, i, h => by
  have : i = 0 := by omega
  subst this
  exact Int.le_refl _
 | k + 1, i, h => by
  have ih := BO f k
  unfold iY
  by_cases e : i = k + 1
  ·subst e
   split <;> omega
  ·have := ih i (by omega)
   split <;> omega
theorem Bo (f : Nat -> Int) : ∀ k : Nat, ∃ i, i <= k /\ iY f k = f i
 | 0 => ⟨0, Nat.le_refl _, rfl⟩
 | k + 1 => by
  obtain ⟨i, hi, e⟩ := Bo f k
  unfold iY
  split
  ·exact ⟨k + 1, Nat.le_refl _, rfl⟩
  ·exact ⟨i, by omega, e⟩
theorem CG {ns : List Int} {x : Int} (h : x ∈ ns) : x <= jb ns := by
 obtain ⟨i, hi, e⟩ := List.mem_iff_getElem.mp h
 have := BO (fun i => ns.getD i 0) (ns.length - 1) i (by omega)
 unfold jb
 have e2 : ns.getD i 0 = x := by simp [hi, e]
 rw [e2] at this
 exact this
theorem QA {ns : List Int} (h : ns ≠ []) : jb ns ∈ ns := by
 obtain ⟨i, hi, e⟩ := Bo (fun i => ns.getD i 0) (ns.length - 1)
 have hl : 0 < ns.length := List.length_pos_iff.mpr h
 have ed : i < ns.length := by omega
 unfold jb
 rw [e]
 have : ns.getD i 0 = ns[i] := by simp [ed]
 rw [this]
 exact List.getElem_mem ed
theorem Pm {α : Type} (as : List α) (h : α -> W × W) (f : α -> W) {m : EM} {cap : List (Option Nat)} {g : GM} {e : EM} {σ : aE} {ph ph0 : PH} {i : Nat} (hm : m σ ph0 = .ok (.ref i) ph) (hd : ph[i]? = some (.aQ (as.map h))) (hz : as.length <= sizeLine)
  (S : aE -> Prop) (h0 : S (fk cap σ)) (step : ∀ x ∈ as, ∀ σ H, S σ -> ∃ aP, g (.tup [(h x).1, (h x).2]) σ H = .ok aP H /\ S aP /\ e aP H = .ok (f x) H) :
  nC m cap g df e σ ph0 = .ok (.ref ph.length) (ph ++ [.lst (as.map f)]) := by
 have hi : i < ph.length := (List.getElem?_eq_some_iff.mp hd).1
 unfold nC
 rw [ai hm]
 simp only [pI hd]
 have hl : (ph.set i (.eK (as.map h))).length = ph.length := List.length_set ..
 have key := sQ (chk := fun _ => true) (g := g) (c := df) (e := e) ph.length (fun k acc σ H => S σ /\ acc = (as.take k).map f /\ H = ph.set i (.eK (as.map h)) ++ [.lst acc]) (jJ (as.map h)) 0 [] (fk cap σ) (ph.set i (.eK (as.map h)) ++ [.lst []])
  (fun _ _ _ _ _ => rfl)
  (fun j y acc σ H hj hI => by
   rw [Nat.zero_add] at hI ⊢
   obtain ⟨hS, ha, rfl⟩ := hI
   unfold jJ at hj
   rw [List.map_map, List.getElem?_map] at hj
   cases hx : as[j]? with
   | none => rw [hx] at hj; cases hj
   | some x =>
    rw [hx] at hj
    cases hj
    obtain ⟨qp, hjx⟩ := List.getElem?_eq_some_iff.mp hx
    obtain ⟨aP, e1, ij, e3⟩ := step x (hjx ▸ List.getElem_mem qp) σ (ph.set i (.eK (as.map h)) ++ [.lst acc]) hS
    have aao : acc.length = j := by rw [ha, List.length_map, List.length_take]; omega
    refine ⟨aP, _, e1, true, _, rfl, .inr ⟨rfl, f x, _, e3, ?_, by omega, ij, ?_, ?_⟩⟩
    ·rw [<- hl]; exact aZ _ _
    ·rw [ha, List.take_add_one, hx]; simp
    ·rw [<- hl]; simp) ⟨h0, by simp, rfl⟩
 obtain ⟨acc, ao, ph', e1, _, ha, rfl⟩ := key
 have hit : (jJ (as.map h)).length = as.length := by unfold jJ; simp
 rw [hit, Nat.zero_add, List.take_length] at ha
 rw [ai e1]
 unfold xO
 have hg : (ph.set i (.eK (as.map h)) ++ [PO.lst acc])[i]? = some (.eK (as.map h)) := by
  rw [List.getElem?_append_left (by rw [hl]; exact hi), List.getElem?_set_self hi]
 rw [if_pos hg, List.set_append_left _ _ (by rw [hl]; exact hi), List.set_set, ha]
 have : ph.set i (PO.aQ (as.map h)) = ph := by
  apply List.ext_getElem?
  intro j
  by_cases hj : i = j
  ·subst hj; rw [List.getElem?_set_self hi, hd]
  ·rw [List.getElem?_set_ne hj]
 rw [this]
theorem aaj (x a b c d : String) : lift (gL (.str (Str.ofString x)) (.tup [.str (Str.ofString a), .str (Str.ofString b), .str (Str.ofString c), .str (Str.ofString d)])) = aw (.bl (decide (a = x) || (decide (b = x) || (decide (c = x) || decide (d = x))))) := by
 have := wR x [a, b, c, d]
 simp only [List.map_cons, List.map_nil, List.any_cons, List.any_nil, Bool.or_false] at this
 exact this
theorem Oi {ph : PH} {i j : Nat} (x : String) (ss : List String) (h : ph[i]? = some (.lst (ss.map fun s => .str (Str.ofString s)))) (hj : ss.findIdx? (fun s => decide (s = x)) = some j) : lift (nA (.ref i) [.str (Str.ofString x)]) ph = .ok (.int (j : Int)) ph := by
 have e1 : bR (.ref i) ph = some (ss.map fun s => W.str (Str.ofString s)) := by unfold bR; simp only [h]
 have e2 : bf (dat ph 40) (ss.map fun s => W.str (Str.ofString s)) = some (ss.map fun s => PyData.str (Str.ofString s)) := gU _ _ _ (fun s => by simp only [dat, so, if_true]) ss
 have e3 : dat ph 40 (.str (Str.ofString x)) = some (.str (Str.ofString x)) := by simp only [dat, so, if_true]
 have e4 : qy ph (.ref i) (.str (Str.ofString x)) = some j := by
  unfold qy
  rw [if_pos (o8 h), e1, e3]
  simp only [e2, Option.bind_some]
  rw [List.findIdx?_map, <- hj]
  congr 1
  funext s
  simp only [Function.comp_def, t8, jK]
 unfold lift nA
 simp only [e4, Option.map_some]
theorem QB (σ : aE) : l9 σ = aw none := (rfl)
theorem QC (m : EM) (σ : aE) : md m σ = ap (m σ) fun w => lift (match w with
 | .int i => ret (some i)
 | _ => dJ) := (rfl)
theorem VI (m : EM) (lo hi : OM) (σ : aE) : mP m lo hi σ = ap (m σ) fun w => ap (lo σ) fun l => ap (hi σ) fun h => lift (mO w l h) := (rfl)
theorem Y0 (i : Int) : lift (match W.int i with
 | .int i => ret (some i)
 | _ => (dJ : Po (Option Int))) = aw (some i) := (rfl)
theorem VJ {ph : PH} {i : Nat} {ws : List W} (h : ph[i]? = some (.lst ws)) (k : Nat) : lift (mO (.ref i) none (some (k : Int))) ph = .ok (.ref ph.length) (ph ++ [.lst (ws.take k)]) := by
 have : kZ ws none (some (k : Int)) = ws.take k := by
  unfold kZ HT.c4
  simp
  rw [if_neg (by omega)]
  omega
 unfold lift mO
 simp only [h, this]
theorem VL (i j : Int) : lift (uB (.int i) (.int j)) = aw (.int (i + j)) := (rfl)
theorem VM {m : AM} {σ : aE} {ph ph' : PH} {i j : Int} (h : m σ ph = .ok [.int i, .int j, .int (-1)] ph') (h1 : -(2 ^ 62) <= i) (h2 : i < 2 ^ 62) (h3 : -(2 ^ 62) <= j) (h4 : j < 2 ^ 62) : qH m σ ph = .ok (jd i (i - j).toNat, fun _ => true) ph' := by
 unfold qH
 rw [ai h]
 have e : yj [.int i, .int j, .int (-1)] ph' = some ((jd i (i - j).toNat, fun _ => true), ph') := by
  show (if _ then _ else _) = _
  rw [if_pos ⟨⟨h1, h2, h3, h4⟩, rfl⟩]
 unfold lift
 rw [e]
theorem QD {lo : Int} {n k : Nat} {w : W} (h : (jd lo n)[k]? = some w) : k < n /\ w = .int (lo - (k : Int)) := by
 unfold jd at h
 rw [List.getElem?_map] at h
 by_cases hk : k < n
 ·rw [List.getElem?_range hk] at h
  cases h
  exact ⟨hk, rfl⟩
 ·rw [List.getElem?_eq_none (by simpa using hk)] at h; cases h
theorem QE (lo : Int) (n : Nat) : (jd lo n).length = n := by unfold jd; simp
section
variable {ph : PH} {i j : Nat} {ka kb : List (W × W)} {b : Bool}
theorem SO (h : ph[i]? = some (.aQ ka)) (y : W) : bO ph (.ref i) y = none := by
 unfold bO
 have : dat ph 40 (.ref i) = none := by unfold dat; simp only [h]
 rw [this]
theorem SQ (h : ph[i]? = some (.aQ ka)) (h' : ph[j]? = some (.aQ kb)) (e : iZ ph ka kb = some b) : lift (mQ (.ref i) (.ref j)) ph = .ok (.bl (!b)) ph := by
 unfold lift mQ uC; simp only [SO h, pI h, pI h', e, Option.map_some]
end
section
variable {ph : PH} {i : Nat} {kws : List (W × W)}
theorem QF (o i : EM) (v : W) (σ : aE) : pG o i v σ = ap (o σ) fun ow => ap (i σ) fun iw => ap (lift (p7 ow iw v)) fun _ => aw σ := (rfl)
theorem SS (σ : aE) : yl σ = lift yk := (rfl)
theorem SU (ph : PH) : lift yk ph = .ok (.ref ph.length) (ph ++ [.bM []]) := rfl
theorem xS (h : ph[i]? = some (.bM kws)) : mj (.ref i) ph = some (i, kws) := by unfold mj; simp only [h]
theorem SV (h : ph[i]? = some (.bM kws)) : lift (jR (jW (.ref i))) ph = .ok () ph := by
 unfold lift jR jW
 rw [xS h]
 rfl
theorem CH (h : ph[i]? = some (.bM kws)) {k z : W} (hk : fJ ph kws k = true) : lift (je (.ref i) [k, z]) ph = .ok ((bP kws k).getD z) ph := by
 unfold lift je
 simp only [xS h, hk, if_true]
theorem QG (h : ph[i]? = some (.bM kws)) {k : W} (hk : fJ ph kws k = true) (hn : (kW k).bind id ≠ none) (hz : kws.length < sizeLine) (v : W) : lift (p7 (.ref i) k v) ph = .ok () (ph.set i (.bM (cu kws k v))) := by
 unfold lift p7
 simp only [xS h]
 rw [if_pos ⟨hk, hn, hz⟩]
theorem SW {ws : List W} (h : ph[i]? = some (.lst ws)) (k : Nat) : lift (mO (.ref i) (some (k : Int)) none) ph = .ok (.ref ph.length) (ph ++ [.lst (ws.drop k)]) := by
 have : kZ ws (some (k : Int)) none = ws.drop k := by
  unfold kZ HT.c4
  simp
  rw [if_neg (by omega)]
  by_cases hk : k <= ws.length
  ·rw [Nat.min_eq_left hk, List.take_of_length_le (by simp)]
  ·rw [Nat.min_eq_right (by omega), List.drop_eq_nil_of_le (Nat.le_refl _), List.drop_eq_nil_of_le (by omega), List.take_nil]
 unfold lift mO
 simp only [h, this]
end
end IL
local macro_rules | `(tactic| ac_nf) => `(tactic| try simp only [IL.bB, Nat.reduceSub, List.reduceReplicate, List.set_cons_zero, List.set_cons_succ, if_true, if_false, ↓reduceIte, String.reduceEq, reduceCtorEq])
local macro_rules | `(tactic| nofun) => `(tactic| decide +kernel)
namespace IL.K23
open PySem PySem.Spec PyProof.Rows L2
theorem eJ (us : List Value) (hl : us.length = 1) : ∃ a, us = [a] := List.length_eq_one_iff.mp hl
theorem jX (us : List Value) (hl : us.length = 2) : ∃ a1 a2, us = [a1, a2] := by
 cases us with
 | nil => cases hl
 | cons a1 us =>
  obtain ⟨a2, rfl⟩ := eJ us (Nat.succ.inj hl)
  exact ⟨a1, a2, rfl⟩
theorem ES (us : List Value) (hl : us.length = 3) : ∃ a1 a2 a3, us = [a1, a2, a3] := by
 cases us with
 | nil => cases hl
 | cons a1 us =>
  obtain ⟨a2, a3, rfl⟩ := jX us (Nat.succ.inj hl)
  exact ⟨a1, a2, a3, rfl⟩
theorem Y1 (us : List Value) (hl : us.length = 4) : ∃ a1 a2 a3 a4, us = [a1, a2, a3, a4] := by
 cases us with
 | nil => cases hl
 | cons a1 us =>
  obtain ⟨a2, a3, a4, rfl⟩ := ES us (Nat.succ.inj hl)
  exact ⟨a1, a2, a3, a4, rfl⟩
theorem ET (us : List Value) (hl : us.length = 5) : ∃ a1 a2 a3 a4 a5, us = [a1, a2, a3, a4, a5] := by
 cases us with
 | nil => cases hl
 | cons a1 us =>
  obtain ⟨a2, a3, a4, a5, rfl⟩ := Y1 us (Nat.succ.inj hl)
  exact ⟨a1, a2, a3, a4, a5, rfl⟩
theorem Y2 (us : List Value) (hl : us.length = 6) : ∃ a1 a2 a3 a4 a5 a6, us = [a1, a2, a3, a4, a5, a6] := by
 cases us with
 | nil => cases hl
 | cons a1 us =>
  obtain ⟨a2, a3, a4, a5, a6, rfl⟩ := ET us (Nat.succ.inj hl)
  exact ⟨a1, a2, a3, a4, a5, a6, rfl⟩
theorem aap (us : List Value) (hl : us.length = 7) : ∃ a1 a2 a3 a4 a5 a6 a7, us = [a1, a2, a3, a4, a5, a6, a7] := by
 cases us with
 | nil => cases hl
 | cons a1 us =>
  obtain ⟨a2, a3, a4, a5, a6, a7, rfl⟩ := Y2 us (Nat.succ.inj hl)
  exact ⟨a1, a2, a3, a4, a5, a6, a7, rfl⟩
def top (i : Nat) : Stmt := PySem.Challenge.pw_boxwright_k23_whole_rows_ordered.main.body.getD i (.Pass ⟨0, 0, 0, 0⟩)
abbrev gc : Stmt := top 16
abbrev iB : Stmt := top 17
abbrev cm : Stmt := top 18
abbrev iD : Stmt := inClass (top 4) 0
abbrev iE : Stmt := top 1
abbrev iy : Stmt := top 2
abbrev iL : Stmt := top 3
abbrev cW : Stmt := top 5
abbrev eO : Stmt := top 10
abbrev dq : Stmt := top 11
abbrev dG : Stmt := top 12
abbrev iG : Stmt := top 7
abbrev gV : Stmt := top 8
abbrev eZ : Stmt := top 9
abbrev bH : Stmt := top 13
abbrev eP : Stmt := top 14
abbrev dX : Stmt := top 25
abbrev iF : Stmt := top 19
abbrev iH : Stmt := top 20
abbrev iI : Stmt := top 21
abbrev dY : Stmt := top 22
abbrev c8 : Stmt := top 26
abbrev gf : Stmt := top 23
abbrev cz : Stmt := top 24
abbrev dW : Stmt := top 27
abbrev bU : Stmt := top 28
noncomputable def fL : SM := (aq (aU (eT (ae gK (aa 1) (bg cb (ab (aa 0) ag)))) (aN (ae aj (aa 0) (aa 1))) aX) (aN (eC (.int (0)))))
noncomputable def c6 : List W -> Mo W := fM fL 2 2
noncomputable def lp : SM := (aq (aU (eT (ae aV (ae cc (aa 0) (eC (.int (4)))) (eC (.int (3))))) (aN (ae aj (bQ (ab (eC (.int (2147483647))) (ab (eU eD (eC (.int (2147483648)))) (ab (eC (.int (65536))) (ab (eU eD (eC (.int (1)))) (ab (eC (.int (46341))) (ab (eU eD (eC (.int (65537)))) (ab (eC (.int (1))) (ab (eC (.int (0))) ag))))))))) (ae cc (ae cw (aa 0) (eC (.int (4)))) (eC (.int (8)))))) aX) (aq (aU (eT (ae aV (ae cc (aa 0) (eC (.int (4)))) (eC (.int (2))))) (aN (ae dj (ae cc (ae fD (ae cw (aa 0) (eC (.int (4)))) (eC (.int (48271)))) (eC (.int (4294967296)))) (eC (.int (2147483648))))) aX) (aq (aU (eT (ae aV (ae cc (aa 0) (eC (.int (4)))) (eC (.int (1))))) (aN (ae dj (ae cc (ae cw (aa 0) (eC (.int (4)))) (eC (.int (100003)))) (eC (.int (1000))))) aX) (aN (ae dj (ae cc (ae cw (aa 0) (eC (.int (4)))) (eC (.int (19)))) (eC (.int (6))))))))
noncomputable def vm : List W -> Mo W := fM lp 1 1
noncomputable def kz : SM := (aq (aC (ae cc (aa 0) (eC (.int (12)))) (gN 3)) (aq (aC (ae cc (ae fD (ae cw (aa 0) (eC (.int (12)))) (eC (.int (48271)))) (eC (.int (2147483647)))) (gN 4)) (aq (aC (ae cc (aa 4) (aa 1)) (gN 5)) (aq (aC (ae cc (ae cw (aa 4) (eC (.int (9)))) (aa 1)) (gN 6)) (aq (aC (ae cc (ae cw (aa 4) (eC (.int (81)))) (aa 2)) (gN 7)) (aq (aU (eT (ae gK (aa 3) (eC (.int (5))))) (aq (aC (ae aj (bQ (ab (eC (.str "sum")) (ab (eC (.str "less")) (ab (eC (.str "times")) (ab (eC (.str "part")) (ab (eC (.str "below")) (ab (eC (.str "alike")) ag))))))) (ae cc (ae cw (aa 4) (eC (.int (486)))) (eC (.int (6))))) (gN 8)) (aN (bK (ab (eC (.str "do")) (ab (aa 5) (ab (aa 8) (ab (aa 6) (ab (ae cc (ae cw (aa 4) (eC (.int (2916)))) (aa 1)) ag)))))))) aX) (aq (aC (bQ (ab (bK (ab (eC (.str "put")) (ab (aa 5) (ab (aB vm (ab (ae cw (aa 4) (eC (.int (9)))) ag)) ag)))) (ab (bK (ab (eC (.str "move")) (ab (aa 5) (ab (aa 6) ag)))) (ab (bK (ab (eC (.str "pull")) (ab (aa 5) (ab (aa 7) ag)))) (ab (bK (ab (eC (.str "push")) (ab (aa 7) (ab (aa 5) ag)))) ag))))) (gN 9)) (aq (aC (ae addW (aa 9) (bQ (ab (bK (ab (eC (.str "take")) (ab (aa 5) ag))) (ab (bK (ab (eC (.str "tell")) (ab (aa 5) ag))) (ab (bK (ab (eC (.str "turn")) ag)) ag))))) (gN 9)) (aN (ae aj (aa 9) (ae dj (aa 3) (eC (.int (5))))))))))))))
noncomputable def lB : List W -> Mo W := fM kz 10 3
noncomputable def jt : SM := (aq (fA "Timing" "next_beat" (aa 0) (eC (.int (0)))) (aq (fA "Timing" "waits" (aa 0) ux) (fA "Timing" "most" (aa 0) (eC (.int (0))))))
noncomputable def lw : List W -> Mo W := fM jt 1 1
noncomputable def ko : SM := (aq (aU (eT (ae aV (ae aj (aa 0) (eC (.int (0)))) (eC (.str "do")))) (aN (bQ (ab (bK (ab (eC (.str "box")) (ab (ae aj (aa 0) (eC (.int (3)))) ag))) (ab (bK (ab (eC (.str "box")) (ab (ae aj (aa 0) (eC (.int (4)))) ag))) ag)))) aX) (aq (aU (eT (ae aV (ae aj (aa 0) (eC (.int (0)))) (eC (.str "tell")))) (aN (bQ (ab (bK (ab (eC (.str "box")) (ab (ae aj (aa 0) (eC (.int (1)))) ag))) ag))) aX) (aq (aU (eT (ae cD (ae aj (aa 0) (eC (.int (0)))) (bK (ab (eC (.str "move")) (ab (eC (.str "push")) ag))))) (aN (bQ (ab (bK (ab (eC (.str "box")) (ab (ae aj (aa 0) (eC (.int (2)))) ag))) ag))) aX) (aq (aU (eT (ae aV (ae aj (aa 0) (eC (.int (0)))) (eC (.str "pull")))) (aN (bQ (ab (bK (ab (eC (.str "slot")) (ab (ae aj (aa 0) (eC (.int (2)))) ag))) ag))) aX) (aN (bQ ag))))))
noncomputable def kq : List W -> Mo W := fM ko 1 1
noncomputable def iz : SM := (aq (aU (eT (ae cD (ae aj (aa 0) (eC (.int (0)))) (bK (ab (eC (.str "tell")) (ab (eC (.str "turn")) ag))))) (aN (bQ ag)) aX) (aq (aU (eT (ae aV (ae aj (aa 0) (eC (.int (0)))) (eC (.str "push")))) (aN (bQ (ab (bK (ab (eC (.str "slot")) (ab (ae aj (aa 0) (eC (.int (1)))) ag))) ag))) aX) (aN (bQ (ab (bK (ab (eC (.str "box")) (ab (ae aj (aa 0) (eC (.int (1)))) ag))) ag)))))
noncomputable def f7 : List W -> Mo W := fM iz 1 1
noncomputable def kK : SM := (aq (aU (eT (ae aV (ae aj (aa 0) (eC (.int (0)))) (eC (.str "take")))) (aN (eC (.int (2)))) aX) (aq (aU (eT (ae aV (ae aj (aa 0) (eC (.int (0)))) (eC (.str "pull")))) (aN (eC (.int (3)))) aX) (aq (aU (cE (eT (ae aV (ae aj (aa 0) (eC (.int (0)))) (eC (.str "do")))) (eT (ae aV (ae aj (aa 0) (eC (.int (2)))) (eC (.str "times"))))) (aN (eC (.int (3)))) aX) (aq (aU (cE (eT (ae aV (ae aj (aa 0) (eC (.int (0)))) (eC (.str "do")))) (eT (ae aV (ae aj (aa 0) (eC (.int (2)))) (eC (.str "part"))))) (aN (eC (.int (5)))) aX) (aN (eC (.int (1))))))))
noncomputable def lM : List W -> Mo W := fM kK 1 1
noncomputable def gb : SM := (aq (aC (bg nL (ab (ae addW (cZ (di (ae addW (aB kq (ab (aa 1) ag)) (aB f7 (ab (aa 1) ag)))) [none, some 0] (gN 0) df (cI k4 k5 (cC "Timing" "waits" (aa 1)) (ab (aa 0) (ab (eC (.int (0))) ag)))) (bQ (ab (eC (.int (0))) ag))) ag)) (gN 2)) (aq (aC (jc "Timing" lw) (gN 3)) (aq (fA "Timing" "next_beat" (aa 3) (ae addW (ae addW (cC "Timing" "next_beat" (aa 0)) (aa 2)) (eC (.int (1))))) (aq (fA "Timing" "most" (aa 3) (bg fg (ab (cC "Timing" "most" (aa 0)) (ab (ae addW (ae addW (cC "Timing" "next_beat" (aa 0)) (aa 2)) (aB lM (ab (aa 1) ag))) ag)))) (aq (aC (nC (cC "Timing" "waits" (aa 0)) [none, none, some 2] (nY 2 [(gN 0), (gN 1)]) df (bK (ab (aa 0) (ab (ae dj (ae dj (aa 1) (aa 2)) (eC (.int (1)))) ag)))) (gN 4)) (aq (fV (cI cL o7 (aa 4) (ab (cZ (di (aB f7 (ab (aa 1) ag))) [none, some 1] (gN 0) df (bK (ab (aa 0) (ab (ae dj (aB lM (ab (aa 1) ag)) (eC (.int (1)))) ag)))) ag))) (aq (fA "Timing" "waits" (aa 3) (bg pE (ab (cZ (di (aa 4)) [none, none] (nY 2 [(gN 0), (gN 1)]) (eT (ae jl (aa 1) (eC (.int (0))))) (bK (ab (aa 0) (ab (aa 1) ag)))) ag))) (aN (aa 3)))))))))
noncomputable def eN : List W -> Mo W := fM gb 5 2
noncomputable def kB : SM := (aq (aC (bQ (ab (jc "Timing" lw) ag)) (gN 1)) (aq (b9 (di (aa 0)) (gN 2) (fV (cI cL fc (aa 1) (ab (aB eN (ab (ae aj (aa 1) (eU eD (eC (.int (1))))) (ab (aa 2) ag))) ag)))) (aN (aa 1))))
noncomputable def vD : List W -> Mo W := fM kB 3 1
noncomputable def kC : SM := (aq (aC (cZ (di (aa 1)) [none] (gN 0) df (eC (.int (0)))) (gN 2)) (aq (b9 (qH (ab (ae dj (bg cb (ab (aa 0) ag)) (eC (.int (1)))) (ab (eU eD (eC (.int (1)))) (ab (eU eD (eC (.int (1)))) ag)))) (gN 3) (aq (aC (ae dj (cC "Timing" "next_beat" (ae aj (aa 1) (ae addW (aa 3) (eC (.int (1)))))) (eC (.int (1)))) (gN 4)) (aC (bg fg (ab (ae aj (aa 2) (ae addW (aa 3) (eC (.int (1))))) (ab (ae addW (aa 4) (aB lM (ab (ae aj (aa 0) (aa 3)) ag))) ag))) (iX (aa 2) (aa 3))))) (aN (aa 2))))
noncomputable def vE : List W -> Mo W := fM kC 5 2
noncomputable def kD : SM := (aq (iR (cE (eT (ae gK (aa 4) (bg cb (ab (aa 0) ag)))) (eT (ae mQ (cC "Timing" "waits" (aa 3)) (cC "Timing" "waits" (ae aj (aa 1) (aa 4)))))) (aq (aC (aB eN (ab (aa 3) (ab (ae aj (aa 0) (aa 4)) ag))) (gN 3)) (aC (ae uB (aa 4) (eC (.int (1)))) (gN 4)))) (aq (aU (eT (ae aV (aa 4) (bg cb (ab (aa 0) ag)))) (aN (cC "Timing" "most" (aa 3))) aX) (aN (bg fg (ab (cC "Timing" "most" (aa 3)) (ab (ae dj (ae addW (ae aj (aa 2) (aa 4)) (cC "Timing" "next_beat" (aa 3))) (cC "Timing" "next_beat" (ae aj (aa 1) (aa 4)))) ag))))))
noncomputable def rR : List W -> Mo W := fM kD 5 5
noncomputable def lC : SM := (aN (uO (ae cD (ae aj (aa 0) (eC (.int (0)))) (bK (ab (eC (.str "take")) (ab (eC (.str "tell")) (ab (eC (.str "turn")) ag))))) (gz (ae aV (ae aj (aa 0) (eC (.int (0)))) (eC (.str "do"))) (ae aV (ae aj (aa 0) (eC (.int (2)))) (eC (.str "part"))))))
noncomputable def vF : List W -> Mo W := fM lC 1 1
noncomputable def kO : SM := (aN (bg pT (ab (cZ (di (aa 0)) [none, some 1] (gN 0) df (ae cD (aa 0) (aa 1))) ag)))
noncomputable def nr : List W -> Mo W := fM kO 2 2
noncomputable def lG : SM := (aq (aU (cE (ck (aB vF (ab (aa 0) ag))) (ck (aB vF (ab (aa 1) ag)))) (aN (eC (.bl true))) aX) (aq (aU (ck (aB nr (ab (aB f7 (ab (aa 0) ag)) (ab (ae addW (aB kq (ab (aa 1) ag)) (aB f7 (ab (aa 1) ag))) ag)))) (aN (eC (.bl true))) aX) (aN (aB nr (ab (aB f7 (ab (aa 1) ag)) (ab (aB kq (ab (aa 0) ag)) ag))))))
noncomputable def oJ : List W -> Mo W := fM lG 2 2
noncomputable def jz : SM := (aq (aC (aB vD (ab (aa 0) ag)) (gN 1)) (aq (aC (aB vE (ab (aa 0) (ab (aa 1) ag))) (gN 2)) (aq (aC (bg kT (ab (aa 0) ag)) (gN 3)) (aq (aC (cC "Timing" "most" (ae aj (aa 1) (eU eD (eC (.int (1)))))) (gN 4)) (aq (aC (jc "Timing" lw) (gN 5)) (aq (b9 (eY (ab (ae dj (bg cb (ab (aa 0) ag)) (eC (.int (1)))) ag)) (gN 6) (aq (aC (ae aj (aa 3) (aa 6)) (gN 7)) (aq (aC (ae aj (aa 3) (ae addW (aa 6) (eC (.int (1))))) (gN 8)) (aq (aC (aB eN (ab (aB eN (ab (aa 5) (ab (aa 8) ag))) (ab (aa 7) ag))) (gN 9)) (aq (aC (aB rR (ab (aa 0) (ab (aa 1) (ab (aa 2) (ab (aa 9) (ab (ae addW (aa 6) (eC (.int (2)))) ag)))))) (gN 10)) (aq (aU (cE (eT (ae gK (aa 10) (aa 4))) (eA (ck (aB oJ (ab (aa 7) (ab (aa 8) ag)))))) (aq (aC (aa 8) (iX (aa 3) (aa 6))) (aq (aC (aa 7) (iX (aa 3) (ae addW (aa 6) (eC (.int (1)))))) (aC (aa 10) (gN 4)))) aX) (aC (aB eN (ab (aa 5) (ab (ae aj (aa 3) (aa 6)) ag))) (gN 5)))))))) (aN (aa 3))))))))
noncomputable def oM : List W -> Mo W := fM jz 11 1
noncomputable def jE : SM := (aq (aC (bg kT (ab (aa 0) ag)) (gN 1)) (aq (aC (aB oM (ab (aa 1) ag)) (gN 2)) (aq (iR (eT (ae d9 (aa 2) (aa 1))) (aq (aC (aa 2) (gN 1)) (aC (aB oM (ab (aa 1) ag)) (gN 2)))) (aN (aa 1)))))
noncomputable def nc : List W -> Mo W := fM jE 3 1
noncomputable def kE : SM := (aq (aC (bQ ag) (gN 2)) (aq (b9 (di (aa 0)) (gN 3) (aq (aC (cZ (eY (ab (bg cb (ab (aa 1) ag)) ag)) [none, some 3, some 2, some 1] (gN 0) (cE (eT (ae aV (ae aj (aa 3) (aa 0)) (aa 1))) (eT (ae ja (aa 0) (aa 2)))) (aa 0)) (gN 4)) (aq (aU (eT (ae aV (aa 4) (bQ ag))) (aN (eC .az)) aX) (fV (cI cL fc (aa 2) (ab (ae aj (aa 4) (eC (.int (0)))) ag)))))) (aN (aa 2))))
noncomputable def vG : List W -> Mo W := fM kE 5 2
noncomputable def lz : SM := (aN (gz (ae aV (ae aj (aa 0) (eC (.int (0)))) (eC (.str "do"))) (ae aV (ae aj (aa 0) (eC (.int (2)))) (eC (.str "part")))))
noncomputable def rz : List W -> Mo W := fM lz 1 1
noncomputable def kF : SM := (aq (aU (cO (eT (ae aV (ae aj (aa 0) (eC (.int (0)))) (eC (.str "tell")))) (eT (ae aV (ae aj (aa 0) (eC (.int (0)))) (eC (.str "turn"))))) (aN (eC .az)) aX) (aN (bK (ab (ae aV (ae aj (aa 0) (eC (.int (0)))) (eC (.str "push"))) (ab (ae aj (aa 0) (eC (.int (1)))) ag)))))
noncomputable def lE : List W -> Mo W := fM kF 1 1
noncomputable def kH : SM := (aq (aU (eT (ae aV (ae aj (aa 0) (eC (.int (0)))) (eC (.str "do")))) (aN (bQ (ab (bK (ab (eC (.bl false)) (ab (ae aj (aa 0) (eC (.int (3)))) ag))) (ab (bK (ab (eC (.bl false)) (ab (ae aj (aa 0) (eC (.int (4)))) ag))) ag)))) aX) (aq (aU (cO (eT (ae aV (ae aj (aa 0) (eC (.int (0)))) (eC (.str "pull")))) (cO (eT (ae aV (ae aj (aa 0) (eC (.int (0)))) (eC (.str "push")))) (eT (ae aV (ae aj (aa 0) (eC (.int (0)))) (eC (.str "move")))))) (aN (bQ (ab (bK (ab (ae aV (ae aj (aa 0) (eC (.int (0)))) (eC (.str "pull"))) (ab (ae aj (aa 0) (eC (.int (2)))) ag))) ag))) aX) (aq (aU (eT (ae aV (ae aj (aa 0) (eC (.int (0)))) (eC (.str "tell")))) (aN (bQ (ab (bK (ab (eC (.bl false)) (ab (ae aj (aa 0) (eC (.int (1)))) ag))) ag))) aX) (aN (bQ ag)))))
noncomputable def iJ : List W -> Mo W := fM kH 1 1
noncomputable def jA : SM := (aq (aU (cO (eT (ae cD (ae aj (aa 0) (eC (.int (0)))) (bK (ab (eC (.str "take")) (ab (eC (.str "tell")) (ab (eC (.str "turn")) ag)))))) (ck (aB rz (ab (aa 0) ag)))) (aU (cO (eT (ae cD (ae aj (aa 1) (eC (.int (0)))) (bK (ab (eC (.str "take")) (ab (eC (.str "tell")) (ab (eC (.str "turn")) ag)))))) (ck (aB rz (ab (aa 1) ag)))) (aN (eC (.bl true))) aX) aX) (aq (aC (aB lE (ab (aa 0) ag)) (gN 2)) (aq (aC (aB lE (ab (aa 1) ag)) (gN 3)) (aq (aU (cE (eT (ae fy (aa 2) (eC .az))) (cO (eT (ae aV (aa 2) (aa 3))) (eT (ae cD (aa 2) (aB iJ (ab (aa 1) ag)))))) (aN (eC (.bl true))) aX) (aN (gz (ae fy (aa 3) (eC .az)) (ae cD (aa 3) (aB iJ (ab (aa 0) ag)))))))))
noncomputable def jB : List W -> Mo W := fM jA 4 2
noncomputable def kJ : SM := (aq (aC (aB vG (ab (aa 0) (ab (aa 1) ag))) (gN 2)) (aq (aU (eT (ae mE (aa 2) (eC .az))) (aN (eC (.bl false))) aX) (aq (b9 (eY (ab (bg cb (ab (aa 0) ag)) ag)) (gN 3) (b9 (mM (ab (ae addW (aa 3) (eC (.int (1)))) (ab (bg cb (ab (aa 0) ag)) ag))) (gN 4) (aU (cE (eT (ae jl (ae aj (aa 2) (aa 3)) (ae aj (aa 2) (aa 4)))) (ck (aB jB (ab (ae aj (aa 0) (aa 3)) (ab (ae aj (aa 0) (aa 4)) ag))))) (aN (eC (.bl false))) aX))) (aN (eC (.bl true))))))
noncomputable def sD : List W -> Mo W := fM kJ 5 2
noncomputable def iK : SM := (aq (aC (ae aj (aa 0) (eC (.int (0)))) (gN 1)) (aq (aU (cE (eT (ae aV (aa 1) (eC (.str "do")))) (cO (eT (ae aV (ae aj (aa 0) (eC (.int (2)))) (eC (.str "times")))) (eT (ae aV (ae aj (aa 0) (eC (.int (2)))) (eC (.str "part")))))) (aC (ae aj (aa 0) (eC (.int (2)))) (gN 1)) aX) (aq (aU (eT (ae cD (aa 1) (bK (ab (eC (.str "times")) (ab (eC (.str "part")) (ab (eC (.str "take")) (ab (eC (.str "pull")) ag))))))) (aN (ae aj (bQ (ab (eC (.int (3))) (ab (eC (.int (5))) (ab (eC (.int (2))) (ab (eC (.int (3))) ag))))) (cI cL nA (bQ (ab (eC (.str "times")) (ab (eC (.str "part")) (ab (eC (.str "take")) (ab (eC (.str "pull")) ag))))) (ab (aa 1) ag)))) aX) (aN (eC (.int (1)))))))
noncomputable def jC : List W -> Mo W := fM iK 2 1
noncomputable def gQ : SM := (aq (aC yl (gN 1)) (aq (aC (eU eD (eC (.int (1)))) (gN 2)) (aq (aC (eC (.int (0))) (gN 3)) (aq (b9 (di (aa 0)) (gN 4) (aq (aC (ae addW (aa 2) (eC (.int (1)))) (gN 2)) (aq (aC (aB lE (ab (aa 4) ag)) (gN 5)) (aq (b9 (di (ae addW (aB iJ (ab (aa 4) ag)) (bQ (ab (aa 5) ag)))) (gN 6) (aC (bg fg (ab (aa 2) (ab (cI jW je (aa 1) (ab (aa 6) (ab (eC (.int (0))) ag))) ag))) (gN 2))) (aq (aU (eT (ae fy (aa 5) (eC .az))) (aC (ae addW (aa 2) (aB jC (ab (aa 4) ag))) (pG (aa 1) (aa 5))) aX) (aC (bg fg (ab (aa 3) (ab (ae addW (aa 2) (aB jC (ab (aa 4) ag))) ag))) (gN 3))))))) (aN (aa 3))))))
noncomputable def ju : List W -> Mo W := fM gQ 7 1
noncomputable def kr : SM := (aq (aC (aB ju (ab (aa 0) ag)) (gN 1)) (aq (b9 (eY (ab (ae dj (bg cb (ab (aa 0) ag)) (eC (.int (1)))) ag)) (gN 2) (aU (eA (ck (aB jB (ab (ae aj (aa 0) (aa 2)) (ab (ae aj (aa 0) (ae addW (aa 2) (eC (.int (1))))) ag))))) (aU (eT (ae gK (aB ju (ab (ae addW (ae addW (mP (aa 0) l9 (md (aa 2))) (bQ (ab (ae aj (aa 0) (ae addW (aa 2) (eC (.int (1))))) (ab (ae aj (aa 0) (aa 2)) ag)))) (mP (aa 0) (md (ae addW (aa 2) (eC (.int (2))))) l9)) ag)) (aa 1))) (aN (eC (.bl false))) aX) aX)) (aN (eC (.bl true)))))
noncomputable def rA : List W -> Mo W := fM kr 3 1
noncomputable def nN : SM := (aq (aC (ae cc (aB c6 (ab (aa 0) (ab (eC (.int (0))) ag))) (eC (.int (11)))) (gN 1)) (aq (aU (eT (ae aV (ae cc (ae cw (aB c6 (ab (aa 0) (ab (eC (.int (0))) ag))) (eC (.int (11)))) (eC (.int (9)))) (eC (.int (1))))) (aC (ae addW (eC (.int (11))) (ae cc (ae cw (aB c6 (ab (aa 0) (ab (eC (.int (0))) ag))) (eC (.int (99)))) (eC (.int (14))))) (gN 1)) aX) (aq (aC (ae addW (eC (.int (2))) (ae cc (aB c6 (ab (aa 0) (ab (eC (.int (1))) ag))) (eC (.int (8))))) (gN 2)) (aq (aC (ae addW (eC (.int (1))) (ae cc (ae cw (aB c6 (ab (aa 0) (ab (eC (.int (1))) ag))) (eC (.int (8)))) (eC (.int (12))))) (gN 3)) (aq (aU (eT (ae aV (ae cc (ae cw (aB c6 (ab (aa 0) (ab (eC (.int (1))) ag))) (eC (.int (96)))) (eC (.int (3)))) (eC (.int (1))))) (aq (aC (eC (.int (2))) (gN 2)) (aC (eC (.int (1))) (gN 3))) aX) (aq (aC (cZ (eY (ab (aa 1) ag)) [none, some 2, some 3, some 0] (gN 0) df (aB lB (ab (ae addW (aB c6 (ab (aa 3) (ab (ae addW (eC (.int (2))) (aa 0)) ag))) (ae fD (eC (.int (7))) (ae cw (aa 0) (eC (.int (11)))))) (ab (aa 1) (ab (aa 2) ag))))) (gN 4)) (aq (aC (bg kT (ab (aa 4) ag)) (gN 5)) (aq (aC (aB nc (ab (aa 5) ag)) (gN 6)) (aq (aU (cO (eA (ck (kh "list" (aa 6)))) (cO (eT (ae d9 (bg cb (ab (aa 6) ag)) (aa 1))) (cO (eT (ae d9 (aa 5) (aa 4))) (eA (ck (aB sD (ab (aa 4) (ab (aa 6) ag)))))))) (aN (eC (.bl false))) aX) (aq (aU (eA (ck (bg nZ (ab (cZ (di (aa 6)) [none] (gN 0) df (kh "tuple" (aa 0))) ag)))) (aN (eC (.bl false))) aX) (aq (aU (cO (eT (ae jl (aB ju (ab (aa 6) ag)) (aB ju (ab (aa 4) ag)))) (eA (ck (aB rA (ab (aa 6) ag))))) (aN (eC (.bl false))) aX) (aq (fV (cI cL fc (aa 6) (ab (bK (ab (eC (.str "turn")) ag)) ag))) (aN (gz (ae aV (bg cb (ab (aB nc (ab (aa 5) ag)) ag)) (aa 1)) (gz (ae aV (bg cb (ab (aa 6) ag)) (ae addW (aa 1) (eC (.int (1))))) (ae aV (aa 5) (aa 4)))))))))))))))))
noncomputable def pJ : List W -> Mo W := fM nN 7 1
set_option genInjectivity false in
structure Tx (K : PySem.W.Frag) (mg : Str -> Option Value) where
 a_law_cell_at : Addr
 rB : FuncData
 gd : bY K "_law_cell_at" "_law_cell_at" gc a_law_cell_at rB
 ku : mg "_law_cell_at" = some (.ref a_law_cell_at)
 fL : Binds K rB ["_law_script", "_law_k"] []
 a_law_number_by : Addr
 rg : FuncData
 mW : bY K "_law_number_by" "_law_number_by" iB a_law_number_by rg
 z3 : mg "_law_number_by" = some (.ref a_law_number_by)
 lp : Binds K rg ["_law_cell"] []
 a_law_row_by : Addr
 rS : FuncData
 mZ : bY K "_law_row_by" "_law_row_by" cm a_law_row_by rS
 As : mg "_law_row_by" = some (.ref a_law_row_by)
 kz : Binds K rS ["_law_cell", "_law_boxes", "_law_slots"] []
 a_Timing_init : Addr
 rC : FuncData
 oH : bY K "__init__" "Timing.__init__" iD a_Timing_init rC
 jt : Binds K rC ["self"] []
 a_things_read : Addr
 rE : FuncData
 kx : bY K "things_read" "things_read" iE a_things_read rE
 rF : mg "things_read" = some (.ref a_things_read)
 ko : Binds K rE ["row"] []
 a_things_written : Addr
 qZ : FuncData
 iA : bY K "things_written" "things_written" iy a_things_written qZ
 mV : mg "things_written" = some (.ref a_things_written)
 iz : Binds K qZ ["row"] []
 a_wait_of : Addr
 sR : FuncData
 kL : bY K "wait_of" "wait_of" iL a_wait_of sR
 sS : mg "wait_of" = some (.ref a_wait_of)
 kK : Binds K sR ["row"] []
 a_timing_behind : Addr
 rh : FuncData
 iC : bY K "timing_behind" "timing_behind" cW a_timing_behind rh
 mX : mg "timing_behind" = some (.ref a_timing_behind)
 gb : Binds K rh ["timing", "row"] []
 a_timings_of : Addr
 rT : FuncData
 m3 : bY K "timings_of" "timings_of" eO a_timings_of rT
 Au : mg "timings_of" = some (.ref a_timings_of)
 kB : Binds K rT ["rows"] []
 a_mosts_from : Addr
 rV : FuncData
 m4 : bY K "mosts_from" "mosts_from" dq a_mosts_from rV
 Av : mg "mosts_from" = some (.ref a_mosts_from)
 kC : Binds K rV ["rows", "timings"] []
 a_beats_from : Addr
 rW : FuncData
 m5 : bY K "beats_from" "beats_from" dG a_beats_from rW
 Aw : mg "beats_from" = some (.ref a_beats_from)
 kD : Binds K rW ["rows", "timings", "mosts", "timing", "place"] []
 a_is_outward : Addr
 rX : FuncData
 lF : bY K "is_outward" "is_outward" iG a_is_outward rX
 vH : mg "is_outward" = some (.ref a_is_outward)
 lC : Binds K rX ["row"] []
 a_share : Addr
 tK : FuncData
 lU : bY K "share" "share" gV a_share tK
 wU : mg "share" = some (.ref a_share)
 kO : Binds K tK ["some", "others"] []
 a_are_bound : Addr
 sh : FuncData
 m8 : bY K "are_bound" "are_bound" eZ a_are_bound sh
 AH : mg "are_bound" = some (.ref a_are_bound)
 lG : Binds K sh ["one", "other"] []
 a_improved : Addr
 sE : FuncData
 lI : bY K "improved" "improved" bH a_improved sE
 vN : mg "improved" = some (.ref a_improved)
 jz : Binds K sE ["rows"] []
 a_ordered : Addr
 sT : FuncData
 lN : bY K "ordered" "ordered" eP a_ordered sT
 vY : mg "ordered" = some (.ref a_ordered)
 jE : Binds K sT ["rows"] []
 a_law_places : Addr
 rY : FuncData
 m7 : bY K "_law_places" "_law_places" dX a_law_places rY
 Ax : mg "_law_places" = some (.ref a_law_places)
 kE : Binds K rY ["_law_rows", "_law_found"] []
 a_law_is_part : Addr
 rH : FuncData
 lA : bY K "_law_is_part" "_law_is_part" iF a_law_is_part rH
 vt : mg "_law_is_part" = some (.ref a_law_is_part)
 lz : Binds K rH ["_law_row"] []
 a_law_writes : Addr
 rZ : FuncData
 kG : bY K "_law_writes" "_law_writes" iH a_law_writes rZ
 r6 : mg "_law_writes" = some (.ref a_law_writes)
 kF : Binds K rZ ["_law_row"] []
 a_law_reads : Addr
 si : FuncData
 kI : bY K "_law_reads" "_law_reads" iI a_law_reads si
 sj : mg "_law_reads" = some (.ref a_law_reads)
 kH : Binds K si ["_law_row"] []
 a_law_tied : Addr
 sF : FuncData
 lJ : bY K "_law_tied" "_law_tied" dY a_law_tied sF
 vO : mg "_law_tied" = some (.ref a_law_tied)
 jA : Binds K sF ["_law_one", "_law_other"] []
 a_law_kept : Addr
 sG : FuncData
 m9 : bY K "_law_kept" "_law_kept" c8 a_law_kept sG
 A0 : mg "_law_kept" = some (.ref a_law_kept)
 kJ : Binds K sG ["_law_rows", "_law_found"] []
 a_law_wait : Addr
 sH : FuncData
 lK : bY K "_law_wait" "_law_wait" gf a_law_wait sH
 vP : mg "_law_wait" = some (.ref a_law_wait)
 iK : Binds K sH ["_law_row"] []
 a_law_beats : Addr
 sk : FuncData
 jw : bY K "_law_beats" "_law_beats" cz a_law_beats sk
 oK : mg "_law_beats" = some (.ref a_law_beats)
 gQ : Binds K sk ["_law_rows"] []
 a_law_is_best : Addr
 rJ : FuncData
 mY : bY K "_law_is_best" "_law_is_best" dW a_law_is_best rJ
 Ah : mg "_law_is_best" = some (.ref a_law_is_best)
 kr : Binds K rJ ["_law_found"] []
 a_law : Addr
 uc : FuncData
 pK : bY K "law" "law" bU a_law uc
 XJ : mg "law" = some (.ref a_law)
 nN : Binds K uc ["_law_script"] []
 Eb : mg "all" = none
 Ec : mg "any" = none
 Dv : mg "dict" = none
 vI : mg "isinstance" = none
 fW : mg "len" = none
 pv : mg "list" = none
 mq : mg "max" = none
 kP : mg "range" = none
 CI : mg "tuple" = none
 kN : Addr
 cN : PySem.W.nsIn K mainGlobals "Timing" = some (some (.ref kN))
 sU : mg "Timing" = some (.ref kN)
 du : h9 K kN
 mk_Timing : Mk K kN a_Timing_init
 ls : fP K kN "most"
 kn : fP K kN "next_beat"
 lq : fP K kN "waits"
theorem jY {X : Cx} {N N' : List Str} {sc scope : Scope} {k : Nat} {tg : Expr} {g : GM} (B : Bd X N sc k) (T : Tx X.K X.mg) (hc : ∀ y ∈ scope.names, y.2 ≠ .cell) (nd : N'.Nodup) (h : ∀ {Y : Cx}, Bd Y N' scope k -> Tx Y.K Y.mg -> JG Y tg g) (cl : List (Str × Addr)) (C : Addr) (aA : Shared) (aG : Hp) (ex : List Addr) : JG (bv X N' scope cl C aA aG ex) tg g := h (B.bv hc nd) T
theorem jZ {X : Cx} {N N' : List Str} {sc scope : Scope} {k : Nat} {ifs : List Expr} {t : TM} (B : Bd X N sc k) (T : Tx X.K X.mg) (hc : ∀ y ∈ scope.names, y.2 ≠ .cell) (nd : N'.Nodup) (h : ∀ {Y : Cx}, Bd Y N' scope k -> Tx Y.K Y.mg -> JF Y ifs t) (cl : List (Str × Addr)) (C : Addr) (aA : Shared) (aG : Hp) (ex : List Addr) : JF (bv X N' scope cl C aA aG ex) ifs t := h (B.bv hc nd) T
theorem j0 {X : Cx} {N N' : List Str} {sc scope : Scope} {k : Nat} {e : Expr} {m : EM} (B : Bd X N sc k) (T : Tx X.K X.mg) (hc : ∀ y ∈ scope.names, y.2 ≠ .cell) (nd : N'.Nodup) (h : ∀ {Y : Cx}, Bd Y N' scope k -> Tx Y.K Y.mg -> JE Y e m) (cl : List (Str × Addr)) (C : Addr) (aA : Shared) (aG : Hp) (ex : List Addr) : JE (bv X N' scope cl C aA aG ex) e m := h (B.bv hc nd) T
theorem vz : bo "_law_script" = true := by nofun
theorem tw : bo "_law_k" = true := by nofun
theorem AI : bo "_law_cell" = true := by nofun
theorem Ay : bo "_law_boxes" = true := by nofun
theorem Az : bo "_law_slots" = true := by nofun
theorem Nf : bo "_law_kind" = true := by nofun
theorem Ng : bo "_law_more" = true := by nofun
theorem vQ : bo "_law_one" = true := by nofun
theorem vJ : bo "_law_other" = true := by nofun
theorem Nh : bo "_law_slot" = true := by nofun
theorem AJ : bo "_law_word" = true := by nofun
theorem AK : bo "_law_some" = true := by nofun
theorem SX : bo "self" = true := by nofun
theorem l0 : bo "row" = true := by nofun
theorem sV : bo "timing" = true := by nofun
theorem BP : bo "stall" = true := by nofun
theorem Pn : bo "behind" = true := by nofun
theorem QH : bo "waits" = true := by nofun
theorem oX : bo "thing" = true := by nofun
theorem wV : bo "wait" = true := by nofun
theorem pb : bo "rows" = true := by nofun
theorem sI : bo "timings" = true := by nofun
theorem wq : bo "mosts" = true := by nofun
theorem wu : bo "place" = true := by nofun
theorem QI : bo "begin" = true := by nofun
theorem SY : bo "some" = true := by nofun
theorem Pp : bo "others" = true := by nofun
theorem Dw : bo "one" = true := by nofun
theorem BQ : bo "other" = true := by nofun
theorem CJ : bo "told" = true := by nofun
theorem Pq : bo "fewest" = true := by nofun
theorem Mw : bo "exchanged" = true := by nofun
theorem Pr : bo "needed" = true := by nofun
theorem QJ : bo "fewer" = true := by nofun
theorem sr : bo "_law_rows" = true := by nofun
theorem oI : bo "_law_found" = true := by nofun
theorem vk : bo "_law_places_here" = true := by nofun
theorem lL : bo "_law_row" = true := by nofun
theorem vK : bo "_law_place" = true := by nofun
theorem Mx : bo "_law_first" = true := by nofun
theorem K5 : bo "_law_second" = true := by nofun
theorem My : bo "_law_ready" = true := by nofun
theorem Mz : bo "_law_begun" = true := by nofun
theorem Ni : bo "_law_last" = true := by nofun
theorem Nj : bo "_law_mine" = true := by nofun
theorem MA : bo "_law_thing" = true := by nofun
theorem Oj : bo "_law_due" = true := by nofun
theorem Nk : bo "_law_many" = true := by nofun
theorem K6 : bo "_law_handed" = true := by nofun
theorem GQ : aJ (af gc) "_law_script" := .inl (by nofun)
theorem GR : aJ (af gc) "_law_k" := .inl (by nofun)
theorem GJ : (af gc).names.lookup ("len" : Str) = some .globalImplicit := by nofun
theorem Gx : aJ (af iB) "_law_cell" := .inl (by nofun)
theorem Hh : aJ (af cm) "_law_cell" := .inl (by nofun)
theorem Hi : aJ (af cm) "_law_boxes" := .inl (by nofun)
theorem Hj : aJ (af cm) "_law_slots" := .inl (by nofun)
theorem Hk : aJ (af cm) "_law_kind" := .inl (by nofun)
theorem Hl : Loc (af cm) "_law_kind" := .inl (by nofun)
theorem Hm : aJ (af cm) "_law_more" := .inl (by nofun)
theorem Hn : Loc (af cm) "_law_more" := .inl (by nofun)
theorem Ho : aJ (af cm) "_law_one" := .inl (by nofun)
theorem Hq : Loc (af cm) "_law_one" := .inl (by nofun)
theorem Hr : aJ (af cm) "_law_other" := .inl (by nofun)
theorem Hs : Loc (af cm) "_law_other" := .inl (by nofun)
theorem Ht : aJ (af cm) "_law_slot" := .inl (by nofun)
theorem Hu : Loc (af cm) "_law_slot" := .inl (by nofun)
theorem Hv : aJ (af cm) "_law_word" := .inl (by nofun)
theorem Hw : Loc (af cm) "_law_word" := .inl (by nofun)
theorem Hx : aJ (af cm) "_law_some" := .inl (by nofun)
theorem zW : Loc (af cm) "_law_some" := .inl (by nofun)
theorem F9 : (af cm).names.lookup ("_law_number_by" : Str) = some .globalImplicit := by nofun
theorem GS : aJ (af iD) "self" := .inl (by nofun)
theorem GU : aJ (af iE) "row" := .inl (by nofun)
theorem Gr : aJ (af iy) "row" := .inl (by nofun)
theorem K7 : aJ (af iL) "row" := .inl (by nofun)
theorem Gy : aJ (af cW) "timing" := .inr (.inl (by nofun))
theorem Gz : aJ (af cW) "row" := .inr (.inl (by nofun))
theorem GA : aJ (af cW) "stall" := .inr (.inl (by nofun))
theorem GB : Loc (af cW) "stall" := .inr (by nofun)
theorem GC : aJ (af cW) "behind" := .inl (by nofun)
theorem GD : Loc (af cW) "behind" := .inl (by nofun)
theorem GF : aJ (af cW) "waits" := .inl (by nofun)
theorem F8 : (af cW).names.lookup ("things_read" : Str) = some .globalImplicit := by nofun
theorem zH : (af cW).names.lookup ("things_written" : Str) = some .globalImplicit := by nofun
theorem zP : (af cW).names.lookup ("max" : Str) = some .globalImplicit := by nofun
theorem Ge : (af cW).names.lookup ("Timing" : Str) = some .globalImplicit := by nofun
theorem Gd : (af cW).names.lookup ("wait_of" : Str) = some .globalImplicit := by nofun
theorem Gn : (af cW).names.lookup ("dict" : Str) = some .globalImplicit := by nofun
theorem Hy : aJ (af eO) "rows" := .inl (by nofun)
theorem Hz : aJ (af eO) "timings" := .inl (by nofun)
theorem HA : Loc (af eO) "timings" := .inl (by nofun)
theorem HB : aJ (af eO) "row" := .inl (by nofun)
theorem HC : Loc (af eO) "row" := .inl (by nofun)
theorem Gs : (af eO).names.lookup ("Timing" : Str) = some .globalImplicit := by nofun
theorem Ga : (af eO).names.lookup ("timing_behind" : Str) = some .globalImplicit := by nofun
theorem HD : aJ (af dq) "rows" := .inl (by nofun)
theorem HE : aJ (af dq) "timings" := .inl (by nofun)
theorem HF : aJ (af dq) "mosts" := .inl (by nofun)
theorem HG : aJ (af dq) "place" := .inl (by nofun)
theorem HH : Loc (af dq) "place" := .inl (by nofun)
theorem HI : aJ (af dq) "begin" := .inl (by nofun)
theorem HJ : Loc (af dq) "begin" := .inl (by nofun)
theorem GV : (af dq).names.lookup ("len" : Str) = some .globalImplicit := by nofun
theorem GG : (af dq).names.lookup ("range" : Str) = some .globalImplicit := by nofun
theorem Gp : (af dq).names.lookup ("wait_of" : Str) = some .globalImplicit := by nofun
theorem GW : (af dq).names.lookup ("max" : Str) = some .globalImplicit := by nofun
theorem HK : aJ (af dG) "rows" := .inl (by nofun)
theorem HL : aJ (af dG) "timings" := .inl (by nofun)
theorem HM : aJ (af dG) "mosts" := .inl (by nofun)
theorem HN : aJ (af dG) "timing" := .inl (by nofun)
theorem HP : Loc (af dG) "timing" := .inl (by nofun)
theorem HQ : aJ (af dG) "place" := .inl (by nofun)
theorem HR : Loc (af dG) "place" := .inl (by nofun)
theorem zT : (af dG).names.lookup ("len" : Str) = some .globalImplicit := by nofun
theorem Gb : (af dG).names.lookup ("timing_behind" : Str) = some .globalImplicit := by nofun
theorem GX : (af dG).names.lookup ("max" : Str) = some .globalImplicit := by nofun
theorem HS : aJ (af iG) "row" := .inl (by nofun)
theorem Nl : aJ (af gV) "some" := .inl (by nofun)
theorem MB : (af gV).names.lookup ("any" : Str) = some .globalImplicit := by nofun
theorem IP : aJ (af eZ) "one" := .inl (by nofun)
theorem IQ : aJ (af eZ) "other" := .inl (by nofun)
theorem zK : (af eZ).names.lookup ("is_outward" : Str) = some .globalImplicit := by nofun
theorem zI : (af eZ).names.lookup ("things_read" : Str) = some .globalImplicit := by nofun
theorem vg : (af eZ).names.lookup ("things_written" : Str) = some .globalImplicit := by nofun
theorem zS : (af eZ).names.lookup ("share" : Str) = some .globalImplicit := by nofun
theorem Jr : aJ (af bH) "rows" := .inl (by nofun)
theorem Js : aJ (af bH) "timings" := .inl (by nofun)
theorem Jt : Loc (af bH) "timings" := .inl (by nofun)
theorem Ju : aJ (af bH) "mosts" := .inl (by nofun)
theorem Jv : Loc (af bH) "mosts" := .inl (by nofun)
theorem Jw : aJ (af bH) "told" := .inl (by nofun)
theorem Jx : Loc (af bH) "told" := .inl (by nofun)
theorem Jy : aJ (af bH) "fewest" := .inl (by nofun)
theorem z7 : Loc (af bH) "fewest" := .inl (by nofun)
theorem Jz : aJ (af bH) "timing" := .inl (by nofun)
theorem z8 : Loc (af bH) "timing" := .inl (by nofun)
theorem JC : aJ (af bH) "place" := .inl (by nofun)
theorem JD : Loc (af bH) "place" := .inl (by nofun)
theorem JH : aJ (af bH) "one" := .inl (by nofun)
theorem JJ : Loc (af bH) "one" := .inl (by nofun)
theorem JK : aJ (af bH) "other" := .inl (by nofun)
theorem JL : Loc (af bH) "other" := .inl (by nofun)
theorem JM : aJ (af bH) "exchanged" := .inl (by nofun)
theorem JN : Loc (af bH) "exchanged" := .inl (by nofun)
theorem IR : aJ (af bH) "needed" := .inl (by nofun)
theorem IU : Loc (af bH) "needed" := .inl (by nofun)
theorem Gh : (af bH).names.lookup ("timings_of" : Str) = some .globalImplicit := by nofun
theorem Gi : (af bH).names.lookup ("mosts_from" : Str) = some .globalImplicit := by nofun
theorem HU : (af bH).names.lookup ("list" : Str) = some .globalImplicit := by nofun
theorem GK : (af bH).names.lookup ("Timing" : Str) = some .globalImplicit := by nofun
theorem IV : (af bH).names.lookup ("len" : Str) = some .globalImplicit := by nofun
theorem GY : (af bH).names.lookup ("range" : Str) = some .globalImplicit := by nofun
theorem vh : (af bH).names.lookup ("timing_behind" : Str) = some .globalImplicit := by nofun
theorem Gj : (af bH).names.lookup ("beats_from" : Str) = some .globalImplicit := by nofun
theorem Gq : (af bH).names.lookup ("are_bound" : Str) = some .globalImplicit := by nofun
theorem K8 : aJ (af eP) "rows" := .inl (by nofun)
theorem K9 : aJ (af eP) "told" := .inl (by nofun)
theorem Ai : Loc (af eP) "told" := .inl (by nofun)
theorem La : aJ (af eP) "fewer" := .inl (by nofun)
theorem Aj : Loc (af eP) "fewer" := .inl (by nofun)
theorem IW : (af eP).names.lookup ("list" : Str) = some .globalImplicit := by nofun
theorem zR : (af eP).names.lookup ("improved" : Str) = some .globalImplicit := by nofun
theorem HV : aJ (af dX) "_law_rows" := .inl (by nofun)
theorem HW : aJ (af dX) "_law_found" := .inr (.inl (by nofun))
theorem HX : aJ (af dX) "_law_places_here" := .inr (.inl (by nofun))
theorem HY : Loc (af dX) "_law_places_here" := .inr (by nofun)
theorem aaa : aJ (af dX) "_law_row" := .inr (.inl (by nofun))
theorem HZ : Loc (af dX) "_law_row" := .inr (by nofun)
theorem Ia : aJ (af dX) "_law_some" := .inl (by nofun)
theorem GZ : (af dX).names.lookup ("len" : Str) = some .globalImplicit := by nofun
theorem GH : (af dX).names.lookup ("range" : Str) = some .globalImplicit := by nofun
theorem G0 : aJ (af iF) "_law_row" := .inl (by nofun)
theorem Ib : aJ (af iH) "_law_row" := .inl (by nofun)
theorem IX : aJ (af iI) "_law_row" := .inl (by nofun)
theorem JP : aJ (af dY) "_law_one" := .inl (by nofun)
theorem JQ : aJ (af dY) "_law_other" := .inl (by nofun)
theorem JR : aJ (af dY) "_law_first" := .inl (by nofun)
theorem JU : Loc (af dY) "_law_first" := .inl (by nofun)
theorem JV : aJ (af dY) "_law_second" := .inl (by nofun)
theorem JX : Loc (af dY) "_law_second" := .inl (by nofun)
theorem zL : (af dY).names.lookup ("_law_is_part" : Str) = some .globalImplicit := by nofun
theorem zM : (af dY).names.lookup ("_law_writes" : Str) = some .globalImplicit := by nofun
theorem zN : (af dY).names.lookup ("_law_reads" : Str) = some .globalImplicit := by nofun
theorem JY : aJ (af c8) "_law_rows" := .inl (by nofun)
theorem JZ : aJ (af c8) "_law_found" := .inl (by nofun)
theorem J0 : aJ (af c8) "_law_places_here" := .inl (by nofun)
theorem J1 : Loc (af c8) "_law_places_here" := .inl (by nofun)
theorem J2 : aJ (af c8) "_law_one" := .inl (by nofun)
theorem J3 : Loc (af c8) "_law_one" := .inl (by nofun)
theorem J4 : aJ (af c8) "_law_other" := .inl (by nofun)
theorem J5 : Loc (af c8) "_law_other" := .inl (by nofun)
theorem Gk : (af c8).names.lookup ("_law_places" : Str) = some .globalImplicit := by nofun
theorem z4 : (af c8).names.lookup ("len" : Str) = some .globalImplicit := by nofun
theorem zU : (af c8).names.lookup ("range" : Str) = some .globalImplicit := by nofun
theorem Gu : (af c8).names.lookup ("_law_tied" : Str) = some .globalImplicit := by nofun
theorem J6 : aJ (af gf) "_law_row" := .inl (by nofun)
theorem J7 : aJ (af gf) "_law_word" := .inl (by nofun)
theorem z9 : Loc (af gf) "_law_word" := .inl (by nofun)
theorem IY : aJ (af cz) "_law_rows" := .inl (by nofun)
theorem IZ : aJ (af cz) "_law_ready" := .inl (by nofun)
theorem Ja : Loc (af cz) "_law_ready" := .inl (by nofun)
theorem Jb : aJ (af cz) "_law_begun" := .inl (by nofun)
theorem vn : Loc (af cz) "_law_begun" := .inl (by nofun)
theorem Jc : aJ (af cz) "_law_last" := .inl (by nofun)
theorem z5 : Loc (af cz) "_law_last" := .inl (by nofun)
theorem Jd : aJ (af cz) "_law_row" := .inl (by nofun)
theorem Je : Loc (af cz) "_law_row" := .inl (by nofun)
theorem Jf : aJ (af cz) "_law_mine" := .inl (by nofun)
theorem Jg : Loc (af cz) "_law_mine" := .inl (by nofun)
theorem Jh : aJ (af cz) "_law_thing" := .inl (by nofun)
theorem Ji : Loc (af cz) "_law_thing" := .inl (by nofun)
theorem Gf : (af cz).names.lookup ("_law_writes" : Str) = some .globalImplicit := by nofun
theorem Gm : (af cz).names.lookup ("_law_reads" : Str) = some .globalImplicit := by nofun
theorem zX : (af cz).names.lookup ("max" : Str) = some .globalImplicit := by nofun
theorem zO : (af cz).names.lookup ("_law_wait" : Str) = some .globalImplicit := by nofun
theorem G1 : aJ (af dW) "_law_found" := .inl (by nofun)
theorem G2 : aJ (af dW) "_law_due" := .inl (by nofun)
theorem G3 : Loc (af dW) "_law_due" := .inl (by nofun)
theorem G4 : aJ (af dW) "_law_k" := .inl (by nofun)
theorem G5 : Loc (af dW) "_law_k" := .inl (by nofun)
theorem zJ : (af dW).names.lookup ("_law_beats" : Str) = some .globalImplicit := by nofun
theorem GL : (af dW).names.lookup ("len" : Str) = some .globalImplicit := by nofun
theorem Gv : (af dW).names.lookup ("range" : Str) = some .globalImplicit := by nofun
theorem Gg : (af dW).names.lookup ("_law_tied" : Str) = some .globalImplicit := by nofun
theorem Pt : aJ (af bU) "_law_script" := .inr (.inl (by nofun))
theorem Pu : aJ (af bU) "_law_many" := .inl (by nofun)
theorem Bp : Loc (af bU) "_law_many" := .inl (by nofun)
theorem aac : aJ (af bU) "_law_boxes" := .inr (.inl (by nofun))
theorem Bq : Loc (af bU) "_law_boxes" := .inr (by nofun)
theorem aad : aJ (af bU) "_law_slots" := .inr (.inl (by nofun))
theorem Br : Loc (af bU) "_law_slots" := .inr (by nofun)
theorem Pw : aJ (af bU) "_law_rows" := .inl (by nofun)
theorem Px : aJ (af bU) "_law_handed" := .inl (by nofun)
theorem Py : Loc (af bU) "_law_handed" := .inl (by nofun)
theorem Pz : aJ (af bU) "_law_found" := .inl (by nofun)
theorem PB : Loc (af bU) "_law_found" := .inl (by nofun)
theorem mU : (af bU).names.lookup ("_law_cell_at" : Str) = some .globalImplicit := by nofun
theorem MC : (af bU).names.lookup ("range" : Str) = some .globalImplicit := by nofun
theorem AL : (af bU).names.lookup ("list" : Str) = some .globalImplicit := by nofun
theorem Aa : (af bU).names.lookup ("ordered" : Str) = some .globalImplicit := by nofun
theorem G6 : (af bU).names.lookup ("isinstance" : Str) = some .globalImplicit := by nofun
theorem vR : (af bU).names.lookup ("len" : Str) = some .globalImplicit := by nofun
theorem Jj : (af bU).names.lookup ("_law_kept" : Str) = some .globalImplicit := by nofun
theorem Ol : (af bU).names.lookup ("all" : Str) = some .globalImplicit := by nofun
theorem zY : (af bU).names.lookup ("_law_beats" : Str) = some .globalImplicit := by nofun
theorem GN : (af bU).names.lookup ("_law_is_best" : Str) = some .globalImplicit := by nofun
section
variable {P : Program} {w : World} {K : PySem.W.Frag} {mg : Str -> Option Value} {base : Heap}
theorem J8 : bZ ["_law_script", "_law_k"] ["_law_script", "_law_k"] (af gc) := ⟨rfl, rfl, rfl, by nofun, rfl, by nofun, by nofun⟩
theorem Ic {X : Cx} (T : Tx X.K X.mg) (B : Bd X ["_law_script", "_law_k"] (af gc) 0) (hF : cx X) (aI : X.env.scope = af gc) : JB X (aW gc) fL :=
 have v0 {p : Pos} : JE X (.Name "_law_script" p) (aa 0) := B.jv 0 rfl GQ vz
 have v1 {p : Pos} : JE X (.Name "_law_k" p) (aa 1) := B.jv 1 rfl GR tw
 (aH (bJ (bj pD v1 (dz rfl (by nofun) (by nofun) gg gn (B.gl _ GJ) T.fW PySem.boot_len (ah rfl v0 av))) (aL (a8 (B.aj v0 v1))) bI) (aL (a8 ar)))
theorem lu (T : Tx K mg) : bp P w K mg base (bE P w) 1 T.a_law_cell_at T.rB ["_law_script", "_law_k"] (bN K mg 2 (fM fL 2 2)) := cA rfl rfl T.gd J8 fun {X} h1 h2 h3 h4 h5 B hF aI => by subst h3 h4; exact Ic T B hF aI
theorem Ie : bZ ["_law_cell"] ["_law_cell"] (af iB) := ⟨rfl, rfl, rfl, by nofun, rfl, by nofun, by nofun⟩
theorem GO {X : Cx} (T : Tx X.K X.mg) (B : Bd X ["_law_cell"] (af iB) 0) (hF : cx X) (aI : X.env.scope = af iB) : JB X (aW iB) lp :=
 have v0 {p : Pos} : JE X (.Name "_law_cell" p) (aa 0) := B.jv 0 rfl Gx AI
 (aH (bJ (bj B.eq (dw v0 ar) ar) (aL (a8 (B.aj (cH (ah rfl ar (ah rfl (kR ar) (ah rfl ar (ah rfl (kR ar) (ah rfl ar (ah rfl (kR ar) (ah rfl ar (ah rfl ar av))))))))) (dw (ff v0 ar) ar)))) bI) (aH (bJ (bj B.eq (dw v0 ar) ar) (aL (a8 (gp (dw (xo (ff v0 ar) ar) ar) ar))) bI) (aH (bJ (bj B.eq (dw v0 ar) ar) (aL (a8 (gp (dw (ff v0 ar) ar) ar))) bI) (aL (a8 (gp (dw (ff v0 ar) ar) ar))))))
theorem Ig (T : Tx K mg) : bp P w K mg base (bE P w) 1 T.a_law_number_by T.rg ["_law_cell"] (bN K mg 1 (fM lp 1 1)) := cA rfl rfl T.mW Ie fun {X} h1 h2 h3 h4 h5 B hF aI => by subst h3 h4; exact GO T B hF aI
theorem Lb : bZ ["_law_cell", "_law_boxes", "_law_slots", "_law_kind", "_law_more", "_law_one", "_law_other", "_law_slot", "_law_word", "_law_some"] ["_law_cell", "_law_boxes", "_law_slots"] (af cm) := ⟨rfl, rfl, rfl, by nofun, rfl, by nofun, by nofun⟩
theorem Jk {X : Cx} (T : Tx X.K X.mg) (B : Bd X ["_law_cell", "_law_boxes", "_law_slots", "_law_kind", "_law_more", "_law_one", "_law_other", "_law_slot", "_law_word", "_law_some"] (af cm) 1) (hF : cx X) (aI : X.env.scope = af cm) : JB X (aW cm) kz :=
 have v0 {p : Pos} : JE X (.Name "_law_cell" p) (aa 0) := B.jv 0 rfl Hh AI
 have v1 {p : Pos} : JE X (.Name "_law_boxes" p) (aa 1) := B.jv 1 rfl Hi Ay
 have v2 {p : Pos} : JE X (.Name "_law_slots" p) (aa 2) := B.jv 2 rfl Hj Az
 have v3 {p : Pos} : JE X (.Name "_law_kind" p) (aa 3) := B.jv 3 rfl Hk Nf
 have v4 {p : Pos} : JE X (.Name "_law_more" p) (aa 4) := B.jv 4 rfl Hm Ng
 have v5 {p : Pos} : JE X (.Name "_law_one" p) (aa 5) := B.jv 5 rfl Ho vQ
 have v6 {p : Pos} : JE X (.Name "_law_other" p) (aa 6) := B.jv 6 rfl Hr vJ
 have v7 {p : Pos} : JE X (.Name "_law_slot" p) (aa 7) := B.jv 7 rfl Ht Nh
 have v8 {p : Pos} : JE X (.Name "_law_word" p) (aa 8) := B.jv 8 rfl Hv AJ
 have v9 {p : Pos} : JE X (.Name "_law_some" p) (aa 9) := B.jv 9 rfl Hx AK
 (aH (B.br 3 rfl Hl rfl (dw v0 ar)) (aH (B.br 4 rfl Hn rfl (dw (xo (ff v0 ar) ar) ar)) (aH (B.br 5 rfl Hq rfl (dw v4 v1)) (aH (B.br 6 rfl Hs rfl (dw (ff v4 ar) v1)) (aH (B.br 7 rfl Hu rfl (dw (ff v4 ar) v2)) (aH (bJ (bj pD v3 ar) (aH (B.br 8 rfl Hw rfl (B.aj (cH (ah rfl aO (ah rfl aO (ah rfl aO (ah rfl aO (ah rfl aO (ah rfl aO av))))))) (dw (ff v4 ar) ar))) (aL (a8 (b7 (ah rfl aO (ah rfl v5 (ah rfl v8 (ah rfl v6 (ah rfl (dw (ff v4 ar) v1) av))))))))) bI) (aH (B.br 9 rfl zW rfl (cH (ah rfl (b7 (ah rfl aO (ah rfl v5 (ah rfl (ba rfl (by nofun) (Ig T) a9 (B.room.mono (by decide)) (B.gl _ F9) T.z3 T.mW.kp T.lp (ah rfl (ff v4 ar) av)) av)))) (ah rfl (b7 (ah rfl aO (ah rfl v5 (ah rfl v6 av)))) (ah rfl (b7 (ah rfl aO (ah rfl v5 (ah rfl v7 av)))) (ah rfl (b7 (ah rfl aO (ah rfl v7 (ah rfl v5 av)))) av)))))) (aH (B.br 9 rfl zW rfl (b4 v9 (cH (ah rfl (b7 (ah rfl aO (ah rfl v5 av))) (ah rfl (b7 (ah rfl aO (ah rfl v5 av))) (ah rfl (b7 (ah rfl aO av)) av)))))) (aL (a8 (B.aj v9 (gp v3 ar))))))))))))
theorem Lc (T : Tx K mg) : bp P w K mg base (bE P w) 2 T.a_law_row_by T.rS ["_law_cell", "_law_boxes", "_law_slots"] (bN K mg 3 (fM kz 10 3)) := cA rfl rfl T.mZ Lb fun {X} h1 h2 h3 h4 h5 B hF aI => by subst h3 h4; exact Jk T B hF aI
theorem J9 : bZ ["self"] ["self"] (af iD) := ⟨rfl, rfl, rfl, by nofun, rfl, by nofun, by nofun⟩
theorem Ih {X : Cx} (T : Tx X.K X.mg) (B : Bd X ["self"] (af iD) 0) (hF : cx X) (aI : X.env.scope = af iD) : JB X (aW iD) jt :=
 have v0 {p : Pos} : JE X (.Name "self" p) (aa 0) := B.jv 0 rfl GS SX
 (aH (nD T.cN T.du T.kn rfl v0 ar) (aH (nD T.cN T.du T.lq rfl v0 UQ) (aL (nD T.cN T.du T.ls rfl v0 ar))))
theorem vp (T : Tx K mg) : bp P w K mg base (bE P w) 1 T.a_Timing_init T.rC ["self"] (bN K mg 1 (fM jt 1 1)) := cA rfl rfl T.oH J9 fun {X} h1 h2 h3 h4 h5 B hF aI => by subst h3 h4; exact Ih T B hF aI
theorem Ka : bZ ["row"] ["row"] (af iE) := ⟨rfl, rfl, rfl, by nofun, rfl, by nofun, by nofun⟩
theorem Ii {X : Cx} (T : Tx X.K X.mg) (B : Bd X ["row"] (af iE) 0) (hF : cx X) (aI : X.env.scope = af iE) : JB X (aW iE) ko :=
 have v0 {p : Pos} : JE X (.Name "row" p) (aa 0) := B.jv 0 rfl GU l0
 (aH (bJ (bj B.eq (B.aj v0 ar) aO) (aL (a8 (cH (ah rfl (b7 (ah rfl aO (ah rfl (B.aj v0 ar) av))) (ah rfl (b7 (ah rfl aO (ah rfl (B.aj v0 ar) av))) av))))) bI) (aH (bJ (bj B.eq (B.aj v0 ar) aO) (aL (a8 (cH (ah rfl (b7 (ah rfl aO (ah rfl (B.aj v0 ar) av))) av)))) bI) (aH (bJ (bj (B.jV (by with_unfolding_all rfl)) (B.aj v0 ar) (b7 (ah rfl aO (ah rfl aO av)))) (aL (a8 (cH (ah rfl (b7 (ah rfl aO (ah rfl (B.aj v0 ar) av))) av)))) bI) (aH (bJ (bj B.eq (B.aj v0 ar) aO) (aL (a8 (cH (ah rfl (b7 (ah rfl aO (ah rfl (B.aj v0 ar) av))) av)))) bI) (aL (a8 (cH av)))))))
theorem vq (T : Tx K mg) : bp P w K mg base (bE P w) 1 T.a_things_read T.rE ["row"] (bN K mg 1 (fM ko 1 1)) := cA rfl rfl T.kx Ka fun {X} h1 h2 h3 h4 h5 B hF aI => by subst h3 h4; exact Ii T B hF aI
theorem G7 : bZ ["row"] ["row"] (af iy) := ⟨rfl, rfl, rfl, by nofun, rfl, by nofun, by nofun⟩
theorem GI {X : Cx} (T : Tx X.K X.mg) (B : Bd X ["row"] (af iy) 0) (hF : cx X) (aI : X.env.scope = af iy) : JB X (aW iy) iz :=
 have v0 {p : Pos} : JE X (.Name "row" p) (aa 0) := B.jv 0 rfl Gr l0
 (aH (bJ (bj (B.jV (by with_unfolding_all rfl)) (B.aj v0 ar) (b7 (ah rfl aO (ah rfl aO av)))) (aL (a8 (cH av))) bI) (aH (bJ (bj B.eq (B.aj v0 ar) aO) (aL (a8 (cH (ah rfl (b7 (ah rfl aO (ah rfl (B.aj v0 ar) av))) av)))) bI) (aL (a8 (cH (ah rfl (b7 (ah rfl aO (ah rfl (B.aj v0 ar) av))) av))))))
theorem oE (T : Tx K mg) : bp P w K mg base (bE P w) 1 T.a_things_written T.qZ ["row"] (bN K mg 1 (fM iz 1 1)) := cA rfl rfl T.iA G7 fun {X} h1 h2 h3 h4 h5 B hF aI => by subst h3 h4; exact GI T B hF aI
theorem Om : bZ ["row"] ["row"] (af iL) := ⟨rfl, rfl, rfl, by nofun, rfl, by nofun, by nofun⟩
theorem MD {X : Cx} (T : Tx X.K X.mg) (B : Bd X ["row"] (af iL) 0) (hF : cx X) (aI : X.env.scope = af iL) : JB X (aW iL) kK :=
 have v0 {p : Pos} : JE X (.Name "row" p) (aa 0) := B.jv 0 rfl K7 l0
 (aH (bJ (bj B.eq (B.aj v0 ar) aO) (aL (a8 ar)) bI) (aH (bJ (bj B.eq (B.aj v0 ar) aO) (aL (a8 ar)) bI) (aH (bJ (eI (jI (bj B.eq (B.aj v0 ar) aO) (eo (bj B.eq (B.aj v0 ar) aO)))) (aL (a8 ar)) bI) (aH (bJ (eI (jI (bj B.eq (B.aj v0 ar) aO) (eo (bj B.eq (B.aj v0 ar) aO)))) (aL (a8 ar)) bI) (aL (a8 ar))))))
theorem vS (T : Tx K mg) : bp P w K mg base (bE P w) 1 T.a_wait_of T.sR ["row"] (bN K mg 1 (fM kK 1 1)) := cA rfl rfl T.kL Om fun {X} h1 h2 h3 h4 h5 B hF aI => by subst h3 h4; exact MD T B hF aI
theorem Ij : bZ ["timing", "row", "stall", "behind", "waits"] ["timing", "row"] (af cW) := ⟨rfl, rfl, rfl, by nofun, rfl, by nofun, by nofun⟩
theorem GP {X : Cx} (T : Tx X.K X.mg) (B : Bd X ["timing", "row", "stall", "behind", "waits"] (af cW) 2) (hF : cx X) (aI : X.env.scope = af cW) : JB X (aW cW) gb :=
 have v0 {p : Pos} : JE X (.Name "timing" p) (aa 0) := B.jv 0 rfl Gy sV
 have v1 {p : Pos} : JE X (.Name "row" p) (aa 1) := B.jv 1 rfl Gz l0
 have v2 {p : Pos} : JE X (.Name "stall" p) (aa 2) := B.jv 2 rfl GA BP
 have v3 {p : Pos} : JE X (.Name "behind" p) (aa 3) := B.jv 3 rfl GC Pn
 have v4 {p : Pos} : JE X (.Name "waits" p) (aa 4) := B.jv 4 rfl GF QH
 (aH (B.br 2 rfl GB rfl (dz rfl (by nofun) (by nofun) (Oc B.calm) R5 (B.gl _ zP) T.mq PyProof.Rows.boot_max (ah rfl (b4 (o6 B.calm (N' := ["thing", "timing"]) (Bd.cap B.hN aI (by nofun)) (iN (b4 (ba rfl (by nofun) (vq T) a9 (B.room.mono (by decide)) (B.gl _ F8) T.rF T.kx.kp T.ko (ah rfl v1 av)) (ba rfl (by nofun) (oE T) a9 (B.room.mono (by decide)) (B.gl _ zH) T.mV T.iA.kp T.iz (ah rfl v1 av)))) (jY B T (by nofun) (by nofun) fun {X} B T => (B.dA 0 rfl (.inl rfl))) (jZ B T (by nofun) (by nofun) fun {X} B T => lZ) (j0 B T (by nofun) (by nofun) fun {X} B T => (lY rfl rfl PySem.F.plainAttrs_dict PySem.F.slot_dict_get PySem.F.type_dict_get (UY (px B.room)) UX UZ (fS T.cN T.du T.lq (B.jv 1 rfl (.inr (.inr rfl)) sV)) (ah rfl (B.jv 0 rfl (.inl rfl) oX) (ah rfl ar av))))) (cH (ah rfl ar av))) av))) (aH (B.br 3 rfl GD rfl (xu T.cN T.mk_Timing (vp T) (B.room.mono (by decide)) (B.gl _ Ge) T.sU T.jt (by nofun))) (aH (nD T.cN T.du T.kn rfl v3 (b4 (b4 (fS T.cN T.du T.kn v0) v2) ar)) (aH (nD T.cN T.du T.ls rfl v3 (dz rfl (by nofun) (by nofun) (oO B.calm) o5 (B.gl _ zP) T.mq PyProof.Rows.boot_max (ah rfl (fS T.cN T.du T.ls v0) (ah rfl (b4 (b4 (fS T.cN T.du T.kn v0) v2) (ba rfl (by nofun) (vS T) a9 (B.room.mono (by decide)) (B.gl _ Gd) T.sS T.kL.kp T.kK (ah rfl v1 av))) av)))) (aH (Qk (i := 4) (by rw [B.hN]; exact B.nd) (by rw [B.hN]; rfl) (by rw [aI]; decide +kernel) B.calm (N' := ["thing", "wait", "stall"]) (Bd.cap B.hN aI (by nofun)) (fS T.cN T.du T.lq v0) (jY B T (by nofun) (by nofun) fun {X} B T => (Dg B.calm (tj (B.dA 0 rfl (.inl rfl)) (tj (B.dA 1 rfl (.inl rfl)) Ck)))) (jZ B T (by nofun) (by nofun) fun {X} B T => lZ) (j0 B T (by nofun) (by nofun) fun {X} B T => (b7 (ah rfl (B.jv 0 rfl (.inl rfl) oX) (ah rfl (gp (gp (B.jv 1 rfl (.inl rfl) wV) (B.jv 2 rfl (.inr (.inr rfl)) BP)) ar) av)))) (sN (by rw [aI]; rfl) (by rw [aI]; decide +kernel) rfl (by nofun))) (aH (tF rfl (lY rfl rfl PySem.F.plainAttrs_list PySem.F.slot_list_extend PySem.F.type_list_extend OU pA O5 v4 (ah rfl (o6 B.calm (N' := ["thing", "row"]) (Bd.cap B.hN aI (by nofun)) (iN (ba rfl (by nofun) (oE T) a9 (B.room.mono (by decide)) (B.gl _ zH) T.mV T.iA.kp T.iz (ah rfl v1 av))) (jY B T (by nofun) (by nofun) fun {X} B T => (B.dA 0 rfl (.inl rfl))) (jZ B T (by nofun) (by nofun) fun {X} B T => lZ) (j0 B T (by nofun) (by nofun) fun {X} B T => (b7 (ah rfl (B.jv 0 rfl (.inl rfl) oX) (ah rfl (gp (ba rfl (by nofun) (vS T) a9 (B.room.mono (by decide)) (B.gl _ rfl) T.sS T.kL.kp T.kK (ah rfl (B.jv 1 rfl (.inr (.inr rfl)) l0) av)) ar) av))))) av))) (aH (nD T.cN T.du T.lq rfl v3 (tR rfl (by nofun) (by nofun) (O7 B.calm B.room.units) R7 (B.gl _ Gn) T.Dv PyProof.Rows.boot_dict (ah rfl (o6 B.calm (N' := ["thing", "wait"]) (Bd.cap B.hN aI (by nofun)) (iN v4) (jY B T (by nofun) (by nofun) fun {X} B T => (Dg B.calm (tj (B.dA 0 rfl (.inl rfl)) (tj (B.dA 1 rfl (.inl rfl)) Ck)))) (jZ B T (by nofun) (by nofun) fun {X} B T => (Di (bj xK (B.jv 1 rfl (.inl rfl) wV) ar))) (j0 B T (by nofun) (by nofun) fun {X} B T => (b7 (ah rfl (B.jv 0 rfl (.inl rfl) oX) (ah rfl (B.jv 1 rfl (.inl rfl) wV) av))))) av))) (aL (a8 v3)))))))))
theorem oF (T : Tx K mg) : bp P w K mg base (bE P w) 3 T.a_timing_behind T.rh ["timing", "row"] (bN K mg 2 (fM gb 5 2)) := cA rfl rfl T.iC Ij fun {X} h1 h2 h3 h4 h5 B hF aI => by subst h3 h4; exact GP T B hF aI
theorem Ld : bZ ["rows", "timings", "row"] ["rows"] (af eO) := ⟨rfl, rfl, rfl, by nofun, rfl, by nofun, by nofun⟩
theorem Jl {X : Cx} (T : Tx X.K X.mg) (B : Bd X ["rows", "timings", "row"] (af eO) 3) (hF : cx X) (aI : X.env.scope = af eO) : JB X (aW eO) kB :=
 have v0 {p : Pos} : JE X (.Name "rows" p) (aa 0) := B.jv 0 rfl Hy pb
 have v1 {p : Pos} : JE X (.Name "timings" p) (aa 1) := B.jv 1 rfl Hz sI
 have v2 {p : Pos} : JE X (.Name "row" p) (aa 2) := B.jv 2 rfl HB l0
 (aH (B.br 1 rfl HA rfl (cH (ah rfl (xu T.cN T.mk_Timing (vp T) (B.room.mono (by decide)) (B.gl _ Gs) T.sU T.jt (by nofun)) av))) (aH (B.jU (iN v0) (B.dA 2 rfl HC) (aL (tF rfl (lY rfl rfl PySem.F.plainAttrs_list PySem.F.slot_list_append PySem.F.type_list_append sM pA vV v1 (ah rfl (ba rfl (by nofun) (oF T) a9 (B.room.mono (by decide)) (B.gl _ Ga) T.mX T.iC.kp T.gb (ah rfl (B.aj v1 (kR ar)) (ah rfl v2 av))) av))))) (aL (a8 v1))))
theorem Le (T : Tx K mg) : bp P w K mg base (bE P w) 4 T.a_timings_of T.rT ["rows"] (bN K mg 1 (fM kB 3 1)) := cA rfl rfl T.m3 Ld fun {X} h1 h2 h3 h4 h5 B hF aI => by subst h3 h4; exact Jl T B hF aI
theorem Lf : bZ ["rows", "timings", "mosts", "place", "begin"] ["rows", "timings"] (af dq) := ⟨rfl, rfl, rfl, by nofun, rfl, by nofun, by nofun⟩
theorem Jm {X : Cx} (T : Tx X.K X.mg) (B : Bd X ["rows", "timings", "mosts", "place", "begin"] (af dq) 1) (hF : cx X) (aI : X.env.scope = af dq) : JB X (aW dq) kC :=
 have v0 {p : Pos} : JE X (.Name "rows" p) (aa 0) := B.jv 0 rfl HD pb
 have v1 {p : Pos} : JE X (.Name "timings" p) (aa 1) := B.jv 1 rfl HE sI
 have v2 {p : Pos} : JE X (.Name "mosts" p) (aa 2) := B.jv 2 rfl HF wq
 have v3 {p : Pos} : JE X (.Name "place" p) (aa 3) := B.jv 3 rfl HG wu
 have v4 {p : Pos} : JE X (.Name "begin" p) (aa 4) := B.jv 4 rfl HI QI
 (aH (wL (i := 2) (by rw [B.hN]; exact B.nd) (by rw [B.hN]; rfl) (by rw [aI]; decide +kernel) B.calm (N' := ["timing"]) (Bd.cap B.hN aI (by nofun)) (iN v1) (jY B T (by nofun) (by nofun) fun {X} B T => (B.dA 0 rfl (.inl rfl))) (jZ B T (by nofun) (by nofun) fun {X} B T => lZ) (j0 B T (by nofun) (by nofun) fun {X} B T => ar) (sN (by rw [aI]; rfl) (by rw [aI]; decide +kernel) rfl (by nofun))) (aH (B.jU (Pd (B.gl _ GG) T.kP rfl rfl rfl (ah rfl (gp (dz rfl (by nofun) (by nofun) gg gn (B.gl _ GV) T.fW PySem.boot_len (ah rfl v0 av)) ar) (ah rfl (kR ar) (ah rfl (kR ar) av)))) (B.dA 3 rfl HH) (aH (B.br 4 rfl HJ rfl (gp (fS T.cN T.du T.kn (B.aj v1 (b4 v3 ar))) ar)) (aL (tQ (dz rfl (by nofun) (by nofun) (oO B.calm) o5 (B.gl _ GW) T.mq PyProof.Rows.boot_max (ah rfl (B.aj v2 (b4 v3 ar)) (ah rfl (b4 v4 (ba rfl (by nofun) (vS T) a9 (B.room.mono (by decide)) (B.gl _ Gp) T.sS T.kL.kp T.kK (ah rfl (B.aj v0 v3) av))) av))) (B.wO v2 v3))))) (aL (a8 v2))))
theorem Lg (T : Tx K mg) : bp P w K mg base (bE P w) 2 T.a_mosts_from T.rV ["rows", "timings"] (bN K mg 2 (fM kC 5 2)) := cA rfl rfl T.m4 Lf fun {X} h1 h2 h3 h4 h5 B hF aI => by subst h3 h4; exact Jm T B hF aI
theorem Lh : bZ ["rows", "timings", "mosts", "timing", "place"] ["rows", "timings", "mosts", "timing", "place"] (af dG) := ⟨rfl, rfl, rfl, by nofun, rfl, by nofun, by nofun⟩
theorem Jn {X : Cx} (T : Tx X.K X.mg) (B : Bd X ["rows", "timings", "mosts", "timing", "place"] (af dG) 3) (hF : cx X) (aI : X.env.scope = af dG) : JB X (aW dG) kD :=
 have v0 {p : Pos} : JE X (.Name "rows" p) (aa 0) := B.jv 0 rfl HK pb
 have v1 {p : Pos} : JE X (.Name "timings" p) (aa 1) := B.jv 1 rfl HL sI
 have v2 {p : Pos} : JE X (.Name "mosts" p) (aa 2) := B.jv 2 rfl HM wq
 have v3 {p : Pos} : JE X (.Name "timing" p) (aa 3) := B.jv 3 rfl HN sV
 have v4 {p : Pos} : JE X (.Name "place" p) (aa 4) := B.jv 4 rfl HQ wu
 (aH (B.Dh (eI (jI (bj pD v4 (dz rfl (by nofun) (by nofun) gg gn (B.gl _ zT) T.fW PySem.boot_len (ah rfl v0 av))) (eo (bj B.YC (fS T.cN T.du T.lq v3) (fS T.cN T.du T.lq (B.aj v1 v4)))))) (aH (B.br 3 rfl HP rfl (ba rfl (by nofun) (oF T) a9 (B.room.mono (by decide)) (B.gl _ Gb) T.mX T.iC.kp T.gb (ah rfl v3 (ah rfl (B.aj v0 v4) av)))) (aL (B.W5 4 rfl HR ar)))) (aH (bJ (bj B.eq v4 (dz rfl (by nofun) (by nofun) gg gn (B.gl _ zT) T.fW PySem.boot_len (ah rfl v0 av))) (aL (a8 (fS T.cN T.du T.ls v3))) bI) (aL (a8 (dz rfl (by nofun) (by nofun) (oO B.calm) o5 (B.gl _ GX) T.mq PyProof.Rows.boot_max (ah rfl (fS T.cN T.du T.ls v3) (ah rfl (gp (b4 (B.aj v2 v4) (fS T.cN T.du T.kn v3)) (fS T.cN T.du T.kn (B.aj v1 v4))) av)))))))
theorem Li (T : Tx K mg) : bp P w K mg base (bE P w) 4 T.a_beats_from T.rW ["rows", "timings", "mosts", "timing", "place"] (bN K mg 5 (fM kD 5 5)) := cA rfl rfl T.m5 Lh fun {X} h1 h2 h3 h4 h5 B hF aI => by subst h3 h4; exact Jn T B hF aI
theorem Lj : bZ ["row"] ["row"] (af iG) := ⟨rfl, rfl, rfl, by nofun, rfl, by nofun, by nofun⟩
theorem Jo {X : Cx} (T : Tx X.K X.mg) (B : Bd X ["row"] (af iG) 0) (hF : cx X) (aI : X.env.scope = af iG) : JB X (aW iG) lC :=
 have v0 {p : Pos} : JE X (.Name "row" p) (aa 0) := B.jv 0 rfl HS l0
 (aL (a8 (WZ (fQ (B.jV (by with_unfolding_all rfl)) (B.aj v0 ar) (b7 (ah rfl aO (ah rfl aO (ah rfl aO av))))) (pk (pq (fQ B.eq (B.aj v0 ar) aO) (pk (fQ B.eq (B.aj v0 ar) aO)))))))
theorem Ak (T : Tx K mg) : bp P w K mg base (bE P w) 1 T.a_is_outward T.rX ["row"] (bN K mg 1 (fM lC 1 1)) := cA rfl rfl T.lF Lj fun {X} h1 h2 h3 h4 h5 B hF aI => by subst h3 h4; exact Jo T B hF aI
theorem QK : bZ ["some", "others"] ["some", "others"] (af gV) := ⟨rfl, rfl, rfl, by nofun, rfl, by nofun, by nofun⟩
theorem Oo {X : Cx} (T : Tx X.K X.mg) (B : Bd X ["some", "others"] (af gV) 0) (hF : cx X) (aI : X.env.scope = af gV) : JB X (aW gV) kO :=
 have v0 {p : Pos} : JE X (.Name "some" p) (aa 0) := B.jv 0 rfl Nl SY
 (aL (a8 (dz rfl (by nofun) (by nofun) (Oa B.calm) UO (B.gl _ MB) T.Ec PyProof.Rows.boot_any (ah rfl (o6 B.calm (N' := ["thing", "others"]) (Bd.cap B.hN aI (by nofun)) (iN v0) (jY B T (by nofun) (by nofun) fun {X} B T => (B.dA 0 rfl (.inl rfl))) (jZ B T (by nofun) (by nofun) fun {X} B T => lZ) (j0 B T (by nofun) (by nofun) fun {X} B T => (fQ (B.jV (by with_unfolding_all rfl)) (B.jv 0 rfl (.inl rfl) oX) (B.jv 1 rfl (.inr (.inr rfl)) Pp)))) av))))
theorem BR (T : Tx K mg) : bp P w K mg base (bE P w) 1 T.a_share T.tK ["some", "others"] (bN K mg 2 (fM kO 2 2)) := cA rfl rfl T.lU QK fun {X} h1 h2 h3 h4 h5 B hF aI => by subst h3 h4; exact Oo T B hF aI
theorem ME : bZ ["one", "other"] ["one", "other"] (af eZ) := ⟨rfl, rfl, rfl, by nofun, rfl, by nofun, by nofun⟩
theorem Kb {X : Cx} (T : Tx X.K X.mg) (B : Bd X ["one", "other"] (af eZ) 1) (hF : cx X) (aI : X.env.scope = af eZ) : JB X (aW eZ) lG :=
 have v0 {p : Pos} : JE X (.Name "one" p) (aa 0) := B.jv 0 rfl IP Dw
 have v1 {p : Pos} : JE X (.Name "other" p) (aa 1) := B.jv 1 rfl IQ BQ
 (aH (bJ (eI (jI (gq rfl (ba rfl (by nofun) (Ak T) a9 (B.room.mono (by decide)) (B.gl _ zK) T.vH T.lF.kp T.lC (ah rfl v0 av))) (eo (gq rfl (ba rfl (by nofun) (Ak T) a9 (B.room.mono (by decide)) (B.gl _ zK) T.vH T.lF.kp T.lC (ah rfl v1 av)))))) (aL (a8 fh)) bI) (aH (bJ (gq rfl (ba rfl (by nofun) (BR T) a9 (B.room.mono (by decide)) (B.gl _ zS) T.wU T.lU.kp T.kO (ah rfl (ba rfl (by nofun) (oE T) a9 (B.room.mono (by decide)) (B.gl _ vg) T.mV T.iA.kp T.iz (ah rfl v0 av)) (ah rfl (b4 (ba rfl (by nofun) (vq T) a9 (B.room.mono (by decide)) (B.gl _ zI) T.rF T.kx.kp T.ko (ah rfl v1 av)) (ba rfl (by nofun) (oE T) a9 (B.room.mono (by decide)) (B.gl _ vg) T.mV T.iA.kp T.iz (ah rfl v1 av))) av)))) (aL (a8 fh)) bI) (aL (a8 (ba rfl (by nofun) (BR T) a9 (B.room.mono (by decide)) (B.gl _ zS) T.wU T.lU.kp T.kO (ah rfl (ba rfl (by nofun) (oE T) a9 (B.room.mono (by decide)) (B.gl _ vg) T.mV T.iA.kp T.iz (ah rfl v1 av)) (ah rfl (ba rfl (by nofun) (vq T) a9 (B.room.mono (by decide)) (B.gl _ zI) T.rF T.kx.kp T.ko (ah rfl v0 av)) av)))))))
theorem MF (T : Tx K mg) : bp P w K mg base (bE P w) 2 T.a_are_bound T.sh ["one", "other"] (bN K mg 2 (fM lG 2 2)) := cA rfl rfl T.m8 ME fun {X} h1 h2 h3 h4 h5 B hF aI => by subst h3 h4; exact Kb T B hF aI
theorem Nm : bZ ["rows", "timings", "mosts", "told", "fewest", "timing", "place", "one", "other", "exchanged", "needed"] ["rows"] (af bH) := ⟨rfl, rfl, rfl, by nofun, rfl, by nofun, by nofun⟩
theorem Lk {X : Cx} (T : Tx X.K X.mg) (B : Bd X ["rows", "timings", "mosts", "told", "fewest", "timing", "place", "one", "other", "exchanged", "needed"] (af bH) 4) (hF : cx X) (aI : X.env.scope = af bH) : JB X (aW bH) jz :=
 have v0 {p : Pos} : JE X (.Name "rows" p) (aa 0) := B.jv 0 rfl Jr pb
 have v1 {p : Pos} : JE X (.Name "timings" p) (aa 1) := B.jv 1 rfl Js sI
 have v2 {p : Pos} : JE X (.Name "mosts" p) (aa 2) := B.jv 2 rfl Ju wq
 have v3 {p : Pos} : JE X (.Name "told" p) (aa 3) := B.jv 3 rfl Jw CJ
 have v4 {p : Pos} : JE X (.Name "fewest" p) (aa 4) := B.jv 4 rfl Jy Pq
 have v5 {p : Pos} : JE X (.Name "timing" p) (aa 5) := B.jv 5 rfl Jz sV
 have v6 {p : Pos} : JE X (.Name "place" p) (aa 6) := B.jv 6 rfl JC wu
 have v7 {p : Pos} : JE X (.Name "one" p) (aa 7) := B.jv 7 rfl JH Dw
 have v8 {p : Pos} : JE X (.Name "other" p) (aa 8) := B.jv 8 rfl JK BQ
 have v9 {p : Pos} : JE X (.Name "exchanged" p) (aa 9) := B.jv 9 rfl JM Mw
 have uQ {p : Pos} : JE X (.Name "needed" p) (aa 10) := B.jv 10 rfl IR Pr
 (aH (B.br 1 rfl Jt rfl (ba rfl (by nofun) (Le T) a9 (B.room.mono (by decide)) (B.gl _ Gh) T.Au T.m3.kp T.kB (ah rfl v0 av))) (aH (B.br 2 rfl Jv rfl (ba rfl (by nofun) (Lg T) a9 (B.room.mono (by decide)) (B.gl _ Gi) T.Av T.m4.kp T.kC (ah rfl v0 (ah rfl v1 av)))) (aH (B.br 3 rfl Jx rfl (tR rfl (by nofun) (by nofun) vB wK (B.gl _ HU) T.pv PyProof.Rows.boot_list (ah rfl v0 av))) (aH (B.br 4 rfl z7 rfl (fS T.cN T.du T.ls (B.aj v1 (kR ar)))) (aH (B.br 5 rfl z8 rfl (xu T.cN T.mk_Timing (vp T) (B.room.mono (by decide)) (B.gl _ GK) T.sU T.jt (by nofun))) (aH (B.jU (oQ (B.gl _ GY) T.kP rfl (ah rfl (gp (dz rfl (by nofun) (by nofun) gg gn (B.gl _ IV) T.fW PySem.boot_len (ah rfl v0 av)) ar) av)) (B.dA 6 rfl JD) (aH (B.br 7 rfl JJ rfl (B.aj v3 v6)) (aH (B.br 8 rfl JL rfl (B.aj v3 (b4 v6 ar))) (aH (B.br 9 rfl JN rfl (ba rfl (by nofun) (oF T) a9 (B.room.mono (by decide)) (B.gl _ vh) T.mX T.iC.kp T.gb (ah rfl (ba rfl (by nofun) (oF T) a9 (B.room.mono (by decide)) (B.gl _ vh) T.mX T.iC.kp T.gb (ah rfl v5 (ah rfl v8 av))) (ah rfl v7 av)))) (aH (B.br 10 rfl IU rfl (ba rfl (by nofun) (Li T) a9 (B.room.mono (by decide)) (B.gl _ Gj) T.Aw T.m5.kp T.kD (ah rfl v0 (ah rfl v1 (ah rfl v2 (ah rfl v9 (ah rfl (b4 v6 ar) av))))))) (aH (bJ (eI (jI (bj pD uQ v4) (eo (nz (gq rfl (ba rfl (by nofun) (MF T) a9 (B.room.mono (by decide)) (B.gl _ Gq) T.AH T.m8.kp T.lG (ah rfl v7 (ah rfl v8 av)))))))) (aH (tQ v8 (B.wO v3 v6)) (aH (tQ v7 (B.wO v3 (b4 v6 ar))) (aL (B.br 4 rfl z7 rfl uQ)))) bI) (aL (B.br 5 rfl z8 rfl (ba rfl (by nofun) (oF T) a9 (B.room.mono (by decide)) (B.gl _ vh) T.mX T.iC.kp T.gb (ah rfl v5 (ah rfl (B.aj v3 v6) av))))))))))) (aL (a8 v3))))))))
theorem AN (T : Tx K mg) : bp P w K mg base (bE P w) 5 T.a_improved T.sE ["rows"] (bN K mg 1 (fM jz 11 1)) := cA rfl rfl T.lI Nm fun {X} h1 h2 h3 h4 h5 B hF aI => by subst h3 h4; exact Lk T B hF aI
theorem Oq : bZ ["rows", "told", "fewer"] ["rows"] (af eP) := ⟨rfl, rfl, rfl, by nofun, rfl, by nofun, by nofun⟩
theorem MG {X : Cx} (T : Tx X.K X.mg) (B : Bd X ["rows", "told", "fewer"] (af eP) 5) (hF : cx X) (aI : X.env.scope = af eP) : JB X (aW eP) jE :=
 have v0 {p : Pos} : JE X (.Name "rows" p) (aa 0) := B.jv 0 rfl K8 pb
 have v1 {p : Pos} : JE X (.Name "told" p) (aa 1) := B.jv 1 rfl K9 CJ
 have v2 {p : Pos} : JE X (.Name "fewer" p) (aa 2) := B.jv 2 rfl La QJ
 (aH (B.br 1 rfl Ai rfl (tR rfl (by nofun) (by nofun) vB wK (B.gl _ IW) T.pv PyProof.Rows.boot_list (ah rfl v0 av))) (aH (B.br 2 rfl Aj rfl (ba rfl (by nofun) (AN T) a9 (B.room.mono (by decide)) (B.gl _ zR) T.vN T.lI.kp T.jz (ah rfl v1 av))) (aH (B.Dh (bj B.ne v2 v1) (aH (B.br 1 rfl Ai rfl v2) (aL (B.br 2 rfl Aj rfl (ba rfl (by nofun) (AN T) a9 (B.room.mono (by decide)) (B.gl _ zR) T.vN T.lI.kp T.jz (ah rfl v1 av)))))) (aL (a8 v1)))))
theorem A1 (T : Tx K mg) : bp P w K mg base (bE P w) 6 T.a_ordered T.sT ["rows"] (bN K mg 1 (fM jE 3 1)) := cA rfl rfl T.lN Oq fun {X} h1 h2 h3 h4 h5 B hF aI => by subst h3 h4; exact MG T B hF aI
theorem Ll : bZ ["_law_rows", "_law_found", "_law_places_here", "_law_row", "_law_some"] ["_law_rows", "_law_found"] (af dX) := ⟨rfl, rfl, rfl, by nofun, rfl, by nofun, by nofun⟩
theorem Jp {X : Cx} (T : Tx X.K X.mg) (B : Bd X ["_law_rows", "_law_found", "_law_places_here", "_law_row", "_law_some"] (af dX) 0) (hF : cx X) (aI : X.env.scope = af dX) : JB X (aW dX) kE :=
 have v0 {p : Pos} : JE X (.Name "_law_rows" p) (aa 0) := B.jv 0 rfl HV sr
 have v1 {p : Pos} : JE X (.Name "_law_found" p) (aa 1) := B.jv 1 rfl HW oI
 have v2 {p : Pos} : JE X (.Name "_law_places_here" p) (aa 2) := B.jv 2 rfl HX vk
 have v4 {p : Pos} : JE X (.Name "_law_some" p) (aa 4) := B.jv 4 rfl Ia AK
 (aH (B.br 2 rfl HY rfl (cH av)) (aH (B.jU (iN v0) (B.dA 3 rfl HZ) (aH (wL (i := 4) (by rw [B.hN]; exact B.nd) (by rw [B.hN]; rfl) (by rw [aI]; decide +kernel) B.calm (N' := ["_law_place", "_law_row", "_law_places_here", "_law_found"]) (Bd.cap B.hN aI (by nofun)) (oQ (B.gl _ GH) T.kP rfl (ah rfl (dz rfl (by nofun) (by nofun) gg gn (B.gl _ GZ) T.fW PySem.boot_len (ah rfl v1 av)) av)) (jY B T (by nofun) (by nofun) fun {X} B T => (B.dA 0 rfl (.inl rfl))) (jZ B T (by nofun) (by nofun) fun {X} B T => (Di (eI (jI (bj B.eq (B.aj (B.jv 3 rfl (.inr (.inr rfl)) oI) (B.jv 0 rfl (.inl rfl) vK)) (B.jv 1 rfl (.inr (.inr rfl)) lL)) (eo (bj (B.W3 (by with_unfolding_all rfl)) (B.jv 0 rfl (.inl rfl) vK) (B.jv 2 rfl (.inr (.inr rfl)) vk))))))) (j0 B T (by nofun) (by nofun) fun {X} B T => (B.jv 0 rfl (.inl rfl) vK)) (sN (by rw [aI]; rfl) (by rw [aI]; decide +kernel) rfl (by nofun))) (aH (bJ (bj B.eq v4 (cH av)) (aL (a8 ny)) bI) (aL (tF rfl (lY rfl rfl PySem.F.plainAttrs_list PySem.F.slot_list_append PySem.F.type_list_append sM pA vV v2 (ah rfl (B.aj v4 ar) av))))))) (aL (a8 v2))))
theorem Lm (T : Tx K mg) : bp P w K mg base (bE P w) 1 T.a_law_places T.rY ["_law_rows", "_law_found"] (bN K mg 2 (fM kE 5 2)) := cA rfl rfl T.m7 Ll fun {X} h1 h2 h3 h4 h5 B hF aI => by subst h3 h4; exact Jp T B hF aI
theorem Kc : bZ ["_law_row"] ["_law_row"] (af iF) := ⟨rfl, rfl, rfl, by nofun, rfl, by nofun, by nofun⟩
theorem Ik {X : Cx} (T : Tx X.K X.mg) (B : Bd X ["_law_row"] (af iF) 0) (hF : cx X) (aI : X.env.scope = af iF) : JB X (aW iF) lz :=
 have v0 {p : Pos} : JE X (.Name "_law_row" p) (aa 0) := B.jv 0 rfl G0 lL
 (aL (a8 (pq (fQ B.eq (B.aj v0 ar) aO) (pk (fQ B.eq (B.aj v0 ar) aO)))))
theorem Ab (T : Tx K mg) : bp P w K mg base (bE P w) 1 T.a_law_is_part T.rH ["_law_row"] (bN K mg 1 (fM lz 1 1)) := cA rfl rfl T.lA Kc fun {X} h1 h2 h3 h4 h5 B hF aI => by subst h3 h4; exact Ik T B hF aI
theorem Ln : bZ ["_law_row"] ["_law_row"] (af iH) := ⟨rfl, rfl, rfl, by nofun, rfl, by nofun, by nofun⟩
theorem Jq {X : Cx} (T : Tx X.K X.mg) (B : Bd X ["_law_row"] (af iH) 0) (hF : cx X) (aI : X.env.scope = af iH) : JB X (aW iH) kF :=
 have v0 {p : Pos} : JE X (.Name "_law_row" p) (aa 0) := B.jv 0 rfl Ib lL
 (aH (bJ (eI (gZ (bj B.eq (B.aj v0 ar) aO) (eo (bj B.eq (B.aj v0 ar) aO)))) (aL (a8 ny)) bI) (aL (a8 (b7 (ah rfl (fQ B.eq (B.aj v0 ar) aO) (ah rfl (B.aj v0 ar) av))))))
theorem vA (T : Tx K mg) : bp P w K mg base (bE P w) 1 T.a_law_writes T.rZ ["_law_row"] (bN K mg 1 (fM kF 1 1)) := cA rfl rfl T.kG Ln fun {X} h1 h2 h3 h4 h5 B hF aI => by subst h3 h4; exact Jq T B hF aI
theorem MH : bZ ["_law_row"] ["_law_row"] (af iI) := ⟨rfl, rfl, rfl, by nofun, rfl, by nofun, by nofun⟩
theorem Kd {X : Cx} (T : Tx X.K X.mg) (B : Bd X ["_law_row"] (af iI) 0) (hF : cx X) (aI : X.env.scope = af iI) : JB X (aW iI) kH :=
 have v0 {p : Pos} : JE X (.Name "_law_row" p) (aa 0) := B.jv 0 rfl IX lL
 (aH (bJ (bj B.eq (B.aj v0 ar) aO) (aL (a8 (cH (ah rfl (b7 (ah rfl fh (ah rfl (B.aj v0 ar) av))) (ah rfl (b7 (ah rfl fh (ah rfl (B.aj v0 ar) av))) av))))) bI) (aH (bJ (eI (gZ (bj B.eq (B.aj v0 ar) aO) (gZ (bj B.eq (B.aj v0 ar) aO) (eo (bj B.eq (B.aj v0 ar) aO))))) (aL (a8 (cH (ah rfl (b7 (ah rfl (fQ B.eq (B.aj v0 ar) aO) (ah rfl (B.aj v0 ar) av))) av)))) bI) (aH (bJ (bj B.eq (B.aj v0 ar) aO) (aL (a8 (cH (ah rfl (b7 (ah rfl fh (ah rfl (B.aj v0 ar) av))) av)))) bI) (aL (a8 (cH av))))))
theorem vL (T : Tx K mg) : bp P w K mg base (bE P w) 1 T.a_law_reads T.si ["_law_row"] (bN K mg 1 (fM kH 1 1)) := cA rfl rfl T.kI MH fun {X} h1 h2 h3 h4 h5 B hF aI => by subst h3 h4; exact Kd T B hF aI
theorem Nn : bZ ["_law_one", "_law_other", "_law_first", "_law_second"] ["_law_one", "_law_other"] (af dY) := ⟨rfl, rfl, rfl, by nofun, rfl, by nofun, by nofun⟩
theorem Lo {X : Cx} (T : Tx X.K X.mg) (B : Bd X ["_law_one", "_law_other", "_law_first", "_law_second"] (af dY) 1) (hF : cx X) (aI : X.env.scope = af dY) : JB X (aW dY) jA :=
 have v0 {p : Pos} : JE X (.Name "_law_one" p) (aa 0) := B.jv 0 rfl JP vQ
 have v1 {p : Pos} : JE X (.Name "_law_other" p) (aa 1) := B.jv 1 rfl JQ vJ
 have v2 {p : Pos} : JE X (.Name "_law_first" p) (aa 2) := B.jv 2 rfl JR Mx
 have v3 {p : Pos} : JE X (.Name "_law_second" p) (aa 3) := B.jv 3 rfl JV K5
 (aH (bJ (eI (gZ (bj (B.jV (by with_unfolding_all rfl)) (B.aj v0 ar) (b7 (ah rfl aO (ah rfl aO (ah rfl aO av))))) (eo (gq rfl (ba rfl (by nofun) (Ab T) a9 (B.room.mono (by decide)) (B.gl _ zL) T.vt T.lA.kp T.lz (ah rfl v0 av)))))) (aL (bJ (eI (gZ (bj (B.jV (by with_unfolding_all rfl)) (B.aj v1 ar) (b7 (ah rfl aO (ah rfl aO (ah rfl aO av))))) (eo (gq rfl (ba rfl (by nofun) (Ab T) a9 (B.room.mono (by decide)) (B.gl _ zL) T.vt T.lA.kp T.lz (ah rfl v1 av)))))) (aL (a8 fh)) bI)) bI) (aH (B.br 2 rfl JU rfl (ba rfl (by nofun) (vA T) a9 (B.room.mono (by decide)) (B.gl _ zM) T.r6 T.kG.kp T.kF (ah rfl v0 av))) (aH (B.br 3 rfl JX rfl (ba rfl (by nofun) (vA T) a9 (B.room.mono (by decide)) (B.gl _ zM) T.r6 T.kG.kp T.kF (ah rfl v1 av))) (aH (bJ (eI (jI (bj xq v2 ny) (eo (eI (gZ (bj B.eq v2 v3) (eo (bj (B.jV (by with_unfolding_all rfl)) v2 (ba rfl (by nofun) (vL T) a9 (B.room.mono (by decide)) (B.gl _ zN) T.sj T.kI.kp T.kH (ah rfl v1 av))))))))) (aL (a8 fh)) bI) (aL (a8 (pq (fQ xq v3 ny) (pk (fQ (B.jV (by with_unfolding_all rfl)) v3 (ba rfl (by nofun) (vL T) a9 (B.room.mono (by decide)) (B.gl _ zN) T.sj T.kI.kp T.kH (ah rfl v0 av)))))))))))
theorem AO (T : Tx K mg) : bp P w K mg base (bE P w) 2 T.a_law_tied T.sF ["_law_one", "_law_other"] (bN K mg 2 (fM jA 4 2)) := cA rfl rfl T.lJ Nn fun {X} h1 h2 h3 h4 h5 B hF aI => by subst h3 h4; exact Lo T B hF aI
theorem Np : bZ ["_law_rows", "_law_found", "_law_places_here", "_law_one", "_law_other"] ["_law_rows", "_law_found"] (af c8) := ⟨rfl, rfl, rfl, by nofun, rfl, by nofun, by nofun⟩
theorem Lp {X : Cx} (T : Tx X.K X.mg) (B : Bd X ["_law_rows", "_law_found", "_law_places_here", "_law_one", "_law_other"] (af c8) 2) (hF : cx X) (aI : X.env.scope = af c8) : JB X (aW c8) kJ :=
 have v0 {p : Pos} : JE X (.Name "_law_rows" p) (aa 0) := B.jv 0 rfl JY sr
 have v1 {p : Pos} : JE X (.Name "_law_found" p) (aa 1) := B.jv 1 rfl JZ oI
 have v2 {p : Pos} : JE X (.Name "_law_places_here" p) (aa 2) := B.jv 2 rfl J0 vk
 have v3 {p : Pos} : JE X (.Name "_law_one" p) (aa 3) := B.jv 3 rfl J2 vQ
 have v4 {p : Pos} : JE X (.Name "_law_other" p) (aa 4) := B.jv 4 rfl J4 vJ
 (aH (B.br 2 rfl J1 rfl (ba rfl (by nofun) (Lm T) a9 (B.room.mono (by decide)) (B.gl _ Gk) T.Ax T.m7.kp T.kE (ah rfl v0 (ah rfl v1 av)))) (aH (bJ (bj WY v2 ny) (aL (a8 fh)) bI) (aH (B.jU (oQ (B.gl _ zU) T.kP rfl (ah rfl (dz rfl (by nofun) (by nofun) gg gn (B.gl _ z4) T.fW PySem.boot_len (ah rfl v0 av)) av)) (B.dA 3 rfl J3) (aL (B.jU (O4 (B.gl _ zU) T.kP rfl rfl (ah rfl (b4 v3 ar) (ah rfl (dz rfl (by nofun) (by nofun) gg gn (B.gl _ z4) T.fW PySem.boot_len (ah rfl v0 av)) av))) (B.dA 4 rfl J5) (aL (bJ (eI (jI (bj xK (B.aj v2 v3) (B.aj v2 v4)) (eo (gq rfl (ba rfl (by nofun) (AO T) a9 (B.room.mono (by decide)) (B.gl _ Gu) T.vO T.lJ.kp T.jA (ah rfl (B.aj v0 v3) (ah rfl (B.aj v0 v4) av))))))) (aL (a8 fh)) bI))))) (aL (a8 fh)))))
theorem Nq (T : Tx K mg) : bp P w K mg base (bE P w) 3 T.a_law_kept T.sG ["_law_rows", "_law_found"] (bN K mg 2 (fM kJ 5 2)) := cA rfl rfl T.m9 Np fun {X} h1 h2 h3 h4 h5 B hF aI => by subst h3 h4; exact Lp T B hF aI
theorem Nr : bZ ["_law_row", "_law_word"] ["_law_row"] (af gf) := ⟨rfl, rfl, rfl, by nofun, rfl, by nofun, by nofun⟩
theorem Lq {X : Cx} (T : Tx X.K X.mg) (B : Bd X ["_law_row", "_law_word"] (af gf) 0) (hF : cx X) (aI : X.env.scope = af gf) : JB X (aW gf) iK :=
 have v0 {p : Pos} : JE X (.Name "_law_row" p) (aa 0) := B.jv 0 rfl J6 lL
 have v1 {p : Pos} : JE X (.Name "_law_word" p) (aa 1) := B.jv 1 rfl J7 AJ
 (aH (B.br 1 rfl z9 rfl (B.aj v0 ar)) (aH (bJ (eI (jI (bj B.eq v1 aO) (eo (eI (gZ (bj B.eq (B.aj v0 ar) aO) (eo (bj B.eq (B.aj v0 ar) aO))))))) (aL (B.br 1 rfl z9 rfl (B.aj v0 ar))) bI) (aH (bJ (bj (B.jV (by with_unfolding_all rfl)) v1 (b7 (ah rfl aO (ah rfl aO (ah rfl aO (ah rfl aO av)))))) (aL (a8 (B.aj (cH (ah rfl ar (ah rfl ar (ah rfl ar (ah rfl ar av))))) (lY rfl rfl PySem.F.plainAttrs_list PySem.F.slot_list_index PySem.F.type_list_index (Qa B.room.units) pA Qb (cH (ah rfl aO (ah rfl aO (ah rfl aO (ah rfl aO av))))) (ah rfl v1 av))))) bI) (aL (a8 ar)))))
theorem AQ (T : Tx K mg) : bp P w K mg base (bE P w) 1 T.a_law_wait T.sH ["_law_row"] (bN K mg 1 (fM iK 2 1)) := cA rfl rfl T.lK Nr fun {X} h1 h2 h3 h4 h5 B hF aI => by subst h3 h4; exact Lq T B hF aI
theorem MI : bZ ["_law_rows", "_law_ready", "_law_begun", "_law_last", "_law_row", "_law_mine", "_law_thing"] ["_law_rows"] (af cz) := ⟨rfl, rfl, rfl, by nofun, rfl, by nofun, by nofun⟩
theorem Ke {X : Cx} (T : Tx X.K X.mg) (B : Bd X ["_law_rows", "_law_ready", "_law_begun", "_law_last", "_law_row", "_law_mine", "_law_thing"] (af cz) 1) (hF : cx X) (aI : X.env.scope = af cz) : JB X (aW cz) gQ :=
 have v0 {p : Pos} : JE X (.Name "_law_rows" p) (aa 0) := B.jv 0 rfl IY sr
 have v1 {p : Pos} : JE X (.Name "_law_ready" p) (aa 1) := B.jv 1 rfl IZ My
 have v2 {p : Pos} : JE X (.Name "_law_begun" p) (aa 2) := B.jv 2 rfl Jb Mz
 have v3 {p : Pos} : JE X (.Name "_law_last" p) (aa 3) := B.jv 3 rfl Jc Ni
 have v4 {p : Pos} : JE X (.Name "_law_row" p) (aa 4) := B.jv 4 rfl Jd lL
 have v5 {p : Pos} : JE X (.Name "_law_mine" p) (aa 5) := B.jv 5 rfl Jf Nj
 have v6 {p : Pos} : JE X (.Name "_law_thing" p) (aa 6) := B.jv 6 rfl Jh MA
 (aH (B.br 1 rfl Ja rfl Ve) (aH (B.br 2 rfl vn rfl (kR ar)) (aH (B.br 3 rfl z5 rfl ar) (aH (B.jU (iN v0) (B.dA 4 rfl Je) (aH (B.br 2 rfl vn rfl (b4 v2 ar)) (aH (B.br 5 rfl Jg rfl (ba rfl (by nofun) (vA T) a9 (B.room.mono (by decide)) (B.gl _ Gf) T.r6 T.kG.kp T.kF (ah rfl v4 av))) (aH (B.jU (iN (b4 (ba rfl (by nofun) (vL T) a9 (B.room.mono (by decide)) (B.gl _ Gm) T.sj T.kI.kp T.kH (ah rfl v4 av)) (cH (ah rfl v5 av)))) (B.dA 6 rfl Ji) (aL (B.br 2 rfl vn rfl (dz rfl (by nofun) (by nofun) (oO B.calm) o5 (B.gl _ zX) T.mq PyProof.Rows.boot_max (ah rfl v2 (ah rfl (lY rfl rfl PySem.F.plainAttrs_dict PySem.F.slot_dict_get PySem.F.type_dict_get (Se (Cw B.room)) Vf Vg v1 (ah rfl v6 (ah rfl ar av))) av)))))) (aH (bJ (bj xq v5 ny) (aL (tQ (b4 v2 (ba rfl (by nofun) (AQ T) a9 (B.room.mono (by decide)) (B.gl _ zO) T.vP T.lK.kp T.iK (ah rfl v4 av))) (B.Sf v1 v5))) bI) (aL (B.br 3 rfl z5 rfl (dz rfl (by nofun) (by nofun) (oO B.calm) o5 (B.gl _ zX) T.mq PyProof.Rows.boot_max (ah rfl v3 (ah rfl (b4 v2 (ba rfl (by nofun) (AQ T) a9 (B.room.mono (by decide)) (B.gl _ zO) T.vP T.lK.kp T.iK (ah rfl v4 av))) av)))))))))) (aL (a8 v3))))))
theorem r8 (T : Tx K mg) : bp P w K mg base (bE P w) 2 T.a_law_beats T.sk ["_law_rows"] (bN K mg 1 (fM gQ 7 1)) := cA rfl rfl T.jw MI fun {X} h1 h2 h3 h4 h5 B hF aI => by subst h3 h4; exact Ke T B hF aI
theorem Kf : bZ ["_law_found", "_law_due", "_law_k"] ["_law_found"] (af dW) := ⟨rfl, rfl, rfl, by nofun, rfl, by nofun, by nofun⟩
theorem Il {X : Cx} (T : Tx X.K X.mg) (B : Bd X ["_law_found", "_law_due", "_law_k"] (af dW) 2) (hF : cx X) (aI : X.env.scope = af dW) : JB X (aW dW) kr :=
 have v0 {p : Pos} : JE X (.Name "_law_found" p) (aa 0) := B.jv 0 rfl G1 oI
 have v1 {p : Pos} : JE X (.Name "_law_due" p) (aa 1) := B.jv 1 rfl G2 Oj
 have v2 {p : Pos} : JE X (.Name "_law_k" p) (aa 2) := B.jv 2 rfl G4 tw
 (aH (B.br 1 rfl G3 rfl (ba rfl (by nofun) (r8 T) a9 (B.room.mono (by decide)) (B.gl _ zJ) T.oK T.jw.kp T.gQ (ah rfl v0 av))) (aH (B.jU (oQ (B.gl _ Gv) T.kP rfl (ah rfl (gp (dz rfl (by nofun) (by nofun) gg gn (B.gl _ GL) T.fW PySem.boot_len (ah rfl v0 av)) ar) av)) (B.dA 2 rfl G5) (aL (bJ (nz (gq rfl (ba rfl (by nofun) (AO T) a9 (B.room.mono (by decide)) (B.gl _ Gg) T.vO T.lJ.kp T.jA (ah rfl (B.aj v0 v2) (ah rfl (B.aj v0 (b4 v2 ar)) av))))) (aL (bJ (bj pD (ba rfl (by nofun) (r8 T) a9 (B.room.mono (by decide)) (B.gl _ zJ) T.oK T.jw.kp T.gQ (ah rfl (b4 (b4 (DZ v0 Ci (Cj v2)) (cH (ah rfl (B.aj v0 (b4 v2 ar)) (ah rfl (B.aj v0 v2) av)))) (DZ v0 (Cj (b4 v2 ar)) Ci)) av)) v1) (aL (a8 fh)) bI)) bI))) (aL (a8 fh))))
theorem Kg (T : Tx K mg) : bp P w K mg base (bE P w) 3 T.a_law_is_best T.rJ ["_law_found"] (bN K mg 1 (fM kr 3 1)) := cA rfl rfl T.mY Kf fun {X} h1 h2 h3 h4 h5 B hF aI => by subst h3 h4; exact Il T B hF aI
theorem VN : bZ ["_law_script", "_law_many", "_law_boxes", "_law_slots", "_law_rows", "_law_handed", "_law_found"] ["_law_script"] (af bU) := ⟨rfl, rfl, rfl, by nofun, rfl, by nofun, by nofun⟩
theorem QL {X : Cx} (T : Tx X.K X.mg) (B : Bd X ["_law_script", "_law_many", "_law_boxes", "_law_slots", "_law_rows", "_law_handed", "_law_found"] (af bU) 6) (hF : cx X) (aI : X.env.scope = af bU) : JB X (aW bU) nN :=
 have v0 {p : Pos} : JE X (.Name "_law_script" p) (aa 0) := B.jv 0 rfl Pt vz
 have v1 {p : Pos} : JE X (.Name "_law_many" p) (aa 1) := B.jv 1 rfl Pu Nk
 have v4 {p : Pos} : JE X (.Name "_law_rows" p) (aa 4) := B.jv 4 rfl Pw sr
 have v5 {p : Pos} : JE X (.Name "_law_handed" p) (aa 5) := B.jv 5 rfl Px K6
 have v6 {p : Pos} : JE X (.Name "_law_found" p) (aa 6) := B.jv 6 rfl Pz oI
 (aH (B.br 1 rfl Bp rfl (dw (ba rfl (by nofun) (lu T) a9 (B.room.mono (by decide)) (B.gl _ mU) T.ku T.gd.kp T.fL (ah rfl v0 (ah rfl ar av))) ar)) (aH (bJ (bj B.eq (dw (ff (ba rfl (by nofun) (lu T) a9 (B.room.mono (by decide)) (B.gl _ mU) T.ku T.gd.kp T.fL (ah rfl v0 (ah rfl ar av))) ar) ar) ar) (aL (B.br 1 rfl Bp rfl (b4 ar (dw (ff (ba rfl (by nofun) (lu T) a9 (B.room.mono (by decide)) (B.gl _ mU) T.ku T.gd.kp T.fL (ah rfl v0 (ah rfl ar av))) ar) ar)))) bI) (aH (B.br 2 rfl Bq rfl (b4 ar (dw (ba rfl (by nofun) (lu T) a9 (B.room.mono (by decide)) (B.gl _ mU) T.ku T.gd.kp T.fL (ah rfl v0 (ah rfl ar av))) ar))) (aH (B.br 3 rfl Br rfl (b4 ar (dw (ff (ba rfl (by nofun) (lu T) a9 (B.room.mono (by decide)) (B.gl _ mU) T.ku T.gd.kp T.fL (ah rfl v0 (ah rfl ar av))) ar) ar))) (aH (bJ (bj B.eq (dw (ff (ba rfl (by nofun) (lu T) a9 (B.room.mono (by decide)) (B.gl _ mU) T.ku T.gd.kp T.fL (ah rfl v0 (ah rfl ar av))) ar) ar) ar) (aH (B.br 2 rfl Bq rfl ar) (aL (B.br 3 rfl Br rfl ar))) bI) (aH (wL (i := 4) (by rw [B.hN]; exact B.nd) (by rw [B.hN]; rfl) (by rw [aI]; decide +kernel) B.calm (N' := ["_law_k", "_law_boxes", "_law_slots", "_law_script"]) (Bd.cap B.hN aI (by nofun)) (oQ (B.gl _ MC) T.kP rfl (ah rfl v1 av)) (jY B T (by nofun) (by nofun) fun {X} B T => (B.dA 0 rfl (.inl rfl))) (jZ B T (by nofun) (by nofun) fun {X} B T => lZ) (j0 B T (by nofun) (by nofun) fun {X} B T => (ba rfl (by nofun) (Lc T) a9 (B.room.mono (by decide)) (B.gl _ rfl) T.As T.mZ.kp T.kz (ah rfl (b4 (ba rfl (by nofun) (lu T) a9 (B.room.mono (by decide)) (B.gl _ rfl) T.ku T.gd.kp T.fL (ah rfl (B.jv 3 rfl (.inr (.inr rfl)) vz) (ah rfl (b4 ar (B.jv 0 rfl (.inl rfl) tw)) av))) (xo ar (ff (B.jv 0 rfl (.inl rfl) tw) ar))) (ah rfl (B.jv 1 rfl (.inr (.inr rfl)) Ay) (ah rfl (B.jv 2 rfl (.inr (.inr rfl)) Az) av))))) (sN (by rw [aI]; rfl) (by rw [aI]; decide +kernel) rfl (by nofun))) (aH (B.br 5 rfl Py rfl (tR rfl (by nofun) (by nofun) vB wK (B.gl _ AL) T.pv PyProof.Rows.boot_list (ah rfl v4 av))) (aH (B.br 6 rfl PB rfl (ba rfl (by nofun) (A1 T) a9 (B.room.mono (by decide)) (B.gl _ Aa) T.vY T.lN.kp T.jE (ah rfl v5 av))) (aH (bJ (eI (gZ (nz (gq rfl (D0 O2 PyProof.Rows.boot_list (by nofun) (by nofun) rfl (B.gl _ G6) T.vI (B.gl _ AL) T.pv v6))) (gZ (bj B.ne (dz rfl (by nofun) (by nofun) gg gn (B.gl _ vR) T.fW PySem.boot_len (ah rfl v6 av)) v1) (gZ (bj B.ne v5 v4) (eo (nz (gq rfl (ba rfl (by nofun) (Nq T) a9 (B.room.mono (by decide)) (B.gl _ Jj) T.A0 T.m9.kp T.kJ (ah rfl v4 (ah rfl v6 av)))))))))) (aL (a8 fh)) bI) (aH (bJ (nz (gq rfl (dz rfl (by nofun) (by nofun) (Ob B.calm) UP (B.gl _ Ol) T.Eb PyProof.Rows.boot_all (ah rfl (o6 B.calm (N' := ["_law_row"]) (Bd.cap B.hN aI (by nofun)) (iN v6) (jY B T (by nofun) (by nofun) fun {X} B T => (B.dA 0 rfl (.inl rfl))) (jZ B T (by nofun) (by nofun) fun {X} B T => lZ) (j0 B T (by nofun) (by nofun) fun {X} B T => (D0 N9 PyProof.Rows.boot_tuple (by nofun) (by nofun) rfl (B.gl _ rfl) T.vI (B.gl _ rfl) T.CI (B.jv 0 rfl (.inl rfl) lL)))) av)))) (aL (a8 fh)) bI) (aH (bJ (eI (gZ (bj xK (ba rfl (by nofun) (r8 T) a9 (B.room.mono (by decide)) (B.gl _ zY) T.oK T.jw.kp T.gQ (ah rfl v6 av)) (ba rfl (by nofun) (r8 T) a9 (B.room.mono (by decide)) (B.gl _ zY) T.oK T.jw.kp T.gQ (ah rfl v4 av))) (eo (nz (gq rfl (ba rfl (by nofun) (Kg T) a9 (B.room.mono (by decide)) (B.gl _ GN) T.Ah T.mY.kp T.kr (ah rfl v6 av))))))) (aL (a8 fh)) bI) (aH (tF rfl (lY rfl rfl PySem.F.plainAttrs_list PySem.F.slot_list_append PySem.F.type_list_append sM pA vV v6 (ah rfl (b7 (ah rfl aO av)) av))) (aL (a8 (pq (fQ B.eq (dz rfl (by nofun) (by nofun) gg gn (B.gl _ vR) T.fW PySem.boot_len (ah rfl (ba rfl (by nofun) (A1 T) a9 (B.room.mono (by decide)) (B.gl _ Aa) T.vY T.lN.kp T.jE (ah rfl v5 av)) av)) v1) (pq (fQ B.eq (dz rfl (by nofun) (by nofun) gg gn (B.gl _ vR) T.fW PySem.boot_len (ah rfl v6 av)) (b4 v1 ar)) (pk (fQ B.eq v5 v4))))))))))))))))))
theorem VO (T : Tx K mg) : bp P w K mg base (bE P w) 7 T.a_law T.uc ["_law_script"] (bN K mg 1 (fM nN 7 1)) := cA rfl rfl T.pK VN fun {X} h1 h2 h3 h4 h5 B hF aI => by subst h3 h4; exact QL T B hF aI
end
theorem all_mk {l : PySem.W.OpenLaw} {w : World} {K : PySem.W.Frag} {h : Heap} {mg : Str -> Option Value} {fa : Addr} (KX : K.In h) (G : h.Ns mainGlobals mg) (hfa : mg "law" = some (.ref fa))
  {rl : Addr} {Kh Ki : Option Addr} {Kj : Array (Option Value)} {Kk Kl Km Kn Ac Ko : Value}
  {q5 : Addr} {Im Io : Option Addr} {Ip : Array (Option Value)} {Iq Ir Iu Iv zZ Iw : Value}
  {rK : Addr} {Lr Ls : Option Addr} {Lu : Array (Option Value)} {Lv Lw Lx Ly Al Lz : Value}
  {oG : Addr} {Kp Kq : Option Addr} {Kr : Array (Option Value)} {Ks Kt Ku Kv Ad Kw : Value}
  {rm : Addr} {Kx Ky : Option Addr} {Kz : Array (Option Value)} {KA KC KD KG Ae KH : Value}
  {qY : Addr} {G8 G9 : Option Addr} {Ha : Array (Option Value)} {Hb Hc He Hf zV Hg : Value}
  {sJ : Addr} {Ot Ou : Option Addr} {Ov : Array (Option Value)} {Ow Ox Oy Oz A2 OA : Value}
  {rf : Addr} {Iy Iz : Option Addr} {IB : Array (Option Value)} {IC ID IF IH z0 IJ : Value}
  {rL : Addr} {LA LB : Option Addr} {LC : Array (Option Value)} {LD LF LG LH Am LI : Value}
  {rM : Addr} {LJ LK : Option Addr} {LL : Array (Option Value)} {LM LN LO LP An LQ : Value}
  {rN : Addr} {LR LS : Option Addr} {LU : Array (Option Value)} {LV LW LX LY Ao LZ : Value}
  {rO : Addr} {L0 L1 : Option Addr} {L3 : Array (Option Value)} {L4 L5 L6 L7 Ap L8 : Value}
  {tx : Addr} {QM QN : Option Addr} {QO : Array (Option Value)} {QP QQ QR QS BS QU : Value}
  {r9 : Addr} {MJ MK : Option Addr} {MM : Array (Option Value)} {MN MO MP MQ AA MR : Value}
  {su : Addr} {Nt Nu : Option Addr} {Nv : Array (Option Value)} {Nw Nx Ny Nz AR NA : Value}
  {sL : Addr} {OB OC : Option Addr} {OD : Array (Option Value)} {OE OF OG OH A3 OI : Value}
  {rP : Addr} {L9 Ma : Option Addr} {Mb : Array (Option Value)} {Mc Md Me Mf Aq Mg : Value}
  {rn : Addr} {KI KJ : Option Addr} {KN : Array (Option Value)} {KO KP KQ KR Af KS : Value}
  {rQ : Addr} {Mh Mi : Option Addr} {Mj : Array (Option Value)} {Ml Mm Mn Mp Ar Mq : Value}
  {sd : Addr} {MS MT : Option Addr} {MU : Array (Option Value)} {MV MW MX MY AB MZ : Value}
  {sv : Addr} {NB NC : Option Addr} {ND : Array (Option Value)} {NE NG NH NI AS NJ : Value}
  {sx : Addr} {NK NL : Option Addr} {NM : Array (Option Value)} {NN NO NP NQ AU NR : Value}
  {sy : Addr} {NS NT : Option Addr} {NU : Array (Option Value)} {NV NW NX NY AV NZ : Value}
  {se : Addr} {M0 M1 : Option Addr} {M2 : Array (Option Value)} {M3 M4 M5 M6 AD M7 : Value}
  {rp : Addr} {KU KW : Option Addr} {KY : Array (Option Value)} {KZ K0 K1 K2 Ag K3 : Value}
  {xw : Addr} {VP Dx : Option Addr} {VQ : Array (Option Value)} {VR Dy Dz DA xy DB : Value}
  {gj : Addr}
  (a_law_cell_at : PySem.W.nsIn K mainGlobals "_law_cell_at" = some (some (.ref rl)))
  (l_law_cell_at : K.lookup rl = some ⟨Kk, Kh, .func (PySem.W.fnOf "_law_cell_at" "_law_cell_at" (b3 gc) (aW gc) (af gc) .none Kl Km Kn Ki Ac Ko), Kj⟩)
  (c_law_cell_at : PySem.W.codeIn K Ac "_law_cell_at" = true)
  (k_law_cell_at : PySem.W.keepIn K (.ref rl) = true)
  (a_law_number_by : PySem.W.nsIn K mainGlobals "_law_number_by" = some (some (.ref q5)))
  (l_law_number_by : K.lookup q5 = some ⟨Iq, Im, .func (PySem.W.fnOf "_law_number_by" "_law_number_by" (b3 iB) (aW iB) (af iB) .none Ir Iu Iv Io zZ Iw), Ip⟩)
  (c_law_number_by : PySem.W.codeIn K zZ "_law_number_by" = true)
  (k_law_number_by : PySem.W.keepIn K (.ref q5) = true)
  (a_law_row_by : PySem.W.nsIn K mainGlobals "_law_row_by" = some (some (.ref rK)))
  (l_law_row_by : K.lookup rK = some ⟨Lv, Lr, .func (PySem.W.fnOf "_law_row_by" "_law_row_by" (b3 cm) (aW cm) (af cm) .none Lw Lx Ly Ls Al Lz), Lu⟩)
  (c_law_row_by : PySem.W.codeIn K Al "_law_row_by" = true)
  (k_law_row_by : PySem.W.keepIn K (.ref rK) = true)
  (a_Timing_init : PySem.W.findIn K (.ref gj) "__init__" = some (some (.ref oG)))
  (i_Timing_init : PySem.W.isFn K (.ref oG) = true)
  (l_Timing_init : K.lookup oG = some ⟨Ks, Kp, .func (PySem.W.fnOf "__init__" "Timing.__init__" (b3 iD) (aW iD) (af iD) .none Kt Ku Kv Kq Ad Kw), Kr⟩)
  (c_Timing_init : PySem.W.codeIn K Ad "Timing.__init__" = true)
  (k_Timing_init : PySem.W.keepIn K (.ref oG) = true)
  (a_things_read : PySem.W.nsIn K mainGlobals "things_read" = some (some (.ref rm)))
  (l_things_read : K.lookup rm = some ⟨KA, Kx, .func (PySem.W.fnOf "things_read" "things_read" (b3 iE) (aW iE) (af iE) .none KC KD KG Ky Ae KH), Kz⟩)
  (c_things_read : PySem.W.codeIn K Ae "things_read" = true)
  (k_things_read : PySem.W.keepIn K (.ref rm) = true)
  (a_things_written : PySem.W.nsIn K mainGlobals "things_written" = some (some (.ref qY)))
  (l_things_written : K.lookup qY = some ⟨Hb, G8, .func (PySem.W.fnOf "things_written" "things_written" (b3 iy) (aW iy) (af iy) .none Hc He Hf G9 zV Hg), Ha⟩)
  (c_things_written : PySem.W.codeIn K zV "things_written" = true)
  (k_things_written : PySem.W.keepIn K (.ref qY) = true)
  (a_wait_of : PySem.W.nsIn K mainGlobals "wait_of" = some (some (.ref sJ)))
  (l_wait_of : K.lookup sJ = some ⟨Ow, Ot, .func (PySem.W.fnOf "wait_of" "wait_of" (b3 iL) (aW iL) (af iL) .none Ox Oy Oz Ou A2 OA), Ov⟩)
  (c_wait_of : PySem.W.codeIn K A2 "wait_of" = true)
  (k_wait_of : PySem.W.keepIn K (.ref sJ) = true)
  (a_timing_behind : PySem.W.nsIn K mainGlobals "timing_behind" = some (some (.ref rf)))
  (l_timing_behind : K.lookup rf = some ⟨IC, Iy, .func (PySem.W.fnOf "timing_behind" "timing_behind" (b3 cW) (aW cW) (af cW) .none ID IF IH Iz z0 IJ), IB⟩)
  (c_timing_behind : PySem.W.codeIn K z0 "timing_behind" = true)
  (k_timing_behind : PySem.W.keepIn K (.ref rf) = true)
  (a_timings_of : PySem.W.nsIn K mainGlobals "timings_of" = some (some (.ref rL)))
  (l_timings_of : K.lookup rL = some ⟨LD, LA, .func (PySem.W.fnOf "timings_of" "timings_of" (b3 eO) (aW eO) (af eO) .none LF LG LH LB Am LI), LC⟩)
  (c_timings_of : PySem.W.codeIn K Am "timings_of" = true)
  (k_timings_of : PySem.W.keepIn K (.ref rL) = true)
  (a_mosts_from : PySem.W.nsIn K mainGlobals "mosts_from" = some (some (.ref rM)))
  (l_mosts_from : K.lookup rM = some ⟨LM, LJ, .func (PySem.W.fnOf "mosts_from" "mosts_from" (b3 dq) (aW dq) (af dq) .none LN LO LP LK An LQ), LL⟩)
  (c_mosts_from : PySem.W.codeIn K An "mosts_from" = true)
  (k_mosts_from : PySem.W.keepIn K (.ref rM) = true)
  (a_beats_from : PySem.W.nsIn K mainGlobals "beats_from" = some (some (.ref rN)))
  (l_beats_from : K.lookup rN = some ⟨LV, LR, .func (PySem.W.fnOf "beats_from" "beats_from" (b3 dG) (aW dG) (af dG) .none LW LX LY LS Ao LZ), LU⟩)
  (c_beats_from : PySem.W.codeIn K Ao "beats_from" = true)
  (k_beats_from : PySem.W.keepIn K (.ref rN) = true)
  (a_is_outward : PySem.W.nsIn K mainGlobals "is_outward" = some (some (.ref rO)))
  (l_is_outward : K.lookup rO = some ⟨L4, L0, .func (PySem.W.fnOf "is_outward" "is_outward" (b3 iG) (aW iG) (af iG) .none L5 L6 L7 L1 Ap L8), L3⟩)
  (c_is_outward : PySem.W.codeIn K Ap "is_outward" = true)
  (k_is_outward : PySem.W.keepIn K (.ref rO) = true)
  (a_share : PySem.W.nsIn K mainGlobals "share" = some (some (.ref tx)))
  (l_share : K.lookup tx = some ⟨QP, QM, .func (PySem.W.fnOf "share" "share" (b3 gV) (aW gV) (af gV) .none QQ QR QS QN BS QU), QO⟩)
  (c_share : PySem.W.codeIn K BS "share" = true)
  (k_share : PySem.W.keepIn K (.ref tx) = true)
  (a_are_bound : PySem.W.nsIn K mainGlobals "are_bound" = some (some (.ref r9)))
  (l_are_bound : K.lookup r9 = some ⟨MN, MJ, .func (PySem.W.fnOf "are_bound" "are_bound" (b3 eZ) (aW eZ) (af eZ) .none MO MP MQ MK AA MR), MM⟩)
  (c_are_bound : PySem.W.codeIn K AA "are_bound" = true)
  (k_are_bound : PySem.W.keepIn K (.ref r9) = true)
  (a_improved : PySem.W.nsIn K mainGlobals "improved" = some (some (.ref su)))
  (l_improved : K.lookup su = some ⟨Nw, Nt, .func (PySem.W.fnOf "improved" "improved" (b3 bH) (aW bH) (af bH) .none Nx Ny Nz Nu AR NA), Nv⟩)
  (c_improved : PySem.W.codeIn K AR "improved" = true)
  (k_improved : PySem.W.keepIn K (.ref su) = true)
  (a_ordered : PySem.W.nsIn K mainGlobals "ordered" = some (some (.ref sL)))
  (l_ordered : K.lookup sL = some ⟨OE, OB, .func (PySem.W.fnOf "ordered" "ordered" (b3 eP) (aW eP) (af eP) .none OF OG OH OC A3 OI), OD⟩)
  (c_ordered : PySem.W.codeIn K A3 "ordered" = true)
  (k_ordered : PySem.W.keepIn K (.ref sL) = true)
  (a_law_places : PySem.W.nsIn K mainGlobals "_law_places" = some (some (.ref rP)))
  (l_law_places : K.lookup rP = some ⟨Mc, L9, .func (PySem.W.fnOf "_law_places" "_law_places" (b3 dX) (aW dX) (af dX) .none Md Me Mf Ma Aq Mg), Mb⟩)
  (c_law_places : PySem.W.codeIn K Aq "_law_places" = true)
  (k_law_places : PySem.W.keepIn K (.ref rP) = true)
  (a_law_is_part : PySem.W.nsIn K mainGlobals "_law_is_part" = some (some (.ref rn)))
  (l_law_is_part : K.lookup rn = some ⟨KO, KI, .func (PySem.W.fnOf "_law_is_part" "_law_is_part" (b3 iF) (aW iF) (af iF) .none KP KQ KR KJ Af KS), KN⟩)
  (c_law_is_part : PySem.W.codeIn K Af "_law_is_part" = true)
  (k_law_is_part : PySem.W.keepIn K (.ref rn) = true)
  (a_law_writes : PySem.W.nsIn K mainGlobals "_law_writes" = some (some (.ref rQ)))
  (l_law_writes : K.lookup rQ = some ⟨Ml, Mh, .func (PySem.W.fnOf "_law_writes" "_law_writes" (b3 iH) (aW iH) (af iH) .none Mm Mn Mp Mi Ar Mq), Mj⟩)
  (c_law_writes : PySem.W.codeIn K Ar "_law_writes" = true)
  (k_law_writes : PySem.W.keepIn K (.ref rQ) = true)
  (a_law_reads : PySem.W.nsIn K mainGlobals "_law_reads" = some (some (.ref sd)))
  (l_law_reads : K.lookup sd = some ⟨MV, MS, .func (PySem.W.fnOf "_law_reads" "_law_reads" (b3 iI) (aW iI) (af iI) .none MW MX MY MT AB MZ), MU⟩)
  (c_law_reads : PySem.W.codeIn K AB "_law_reads" = true)
  (k_law_reads : PySem.W.keepIn K (.ref sd) = true)
  (a_law_tied : PySem.W.nsIn K mainGlobals "_law_tied" = some (some (.ref sv)))
  (l_law_tied : K.lookup sv = some ⟨NE, NB, .func (PySem.W.fnOf "_law_tied" "_law_tied" (b3 dY) (aW dY) (af dY) .none NG NH NI NC AS NJ), ND⟩)
  (c_law_tied : PySem.W.codeIn K AS "_law_tied" = true)
  (k_law_tied : PySem.W.keepIn K (.ref sv) = true)
  (a_law_kept : PySem.W.nsIn K mainGlobals "_law_kept" = some (some (.ref sx)))
  (l_law_kept : K.lookup sx = some ⟨NN, NK, .func (PySem.W.fnOf "_law_kept" "_law_kept" (b3 c8) (aW c8) (af c8) .none NO NP NQ NL AU NR), NM⟩)
  (c_law_kept : PySem.W.codeIn K AU "_law_kept" = true)
  (k_law_kept : PySem.W.keepIn K (.ref sx) = true)
  (a_law_wait : PySem.W.nsIn K mainGlobals "_law_wait" = some (some (.ref sy)))
  (l_law_wait : K.lookup sy = some ⟨NV, NS, .func (PySem.W.fnOf "_law_wait" "_law_wait" (b3 gf) (aW gf) (af gf) .none NW NX NY NT AV NZ), NU⟩)
  (c_law_wait : PySem.W.codeIn K AV "_law_wait" = true)
  (k_law_wait : PySem.W.keepIn K (.ref sy) = true)
  (a_law_beats : PySem.W.nsIn K mainGlobals "_law_beats" = some (some (.ref se)))
  (l_law_beats : K.lookup se = some ⟨M3, M0, .func (PySem.W.fnOf "_law_beats" "_law_beats" (b3 cz) (aW cz) (af cz) .none M4 M5 M6 M1 AD M7), M2⟩)
  (c_law_beats : PySem.W.codeIn K AD "_law_beats" = true)
  (k_law_beats : PySem.W.keepIn K (.ref se) = true)
  (a_law_is_best : PySem.W.nsIn K mainGlobals "_law_is_best" = some (some (.ref rp)))
  (l_law_is_best : K.lookup rp = some ⟨KZ, KU, .func (PySem.W.fnOf "_law_is_best" "_law_is_best" (b3 dW) (aW dW) (af dW) .none K0 K1 K2 KW Ag K3), KY⟩)
  (c_law_is_best : PySem.W.codeIn K Ag "_law_is_best" = true)
  (k_law_is_best : PySem.W.keepIn K (.ref rp) = true)
  (a_law : PySem.W.nsIn K mainGlobals "law" = some (some (.ref xw)))
  (l_law : K.lookup xw = some ⟨VR, VP, .func (PySem.W.fnOf "law" "law" (b3 bU) (aW bU) (af bU) .none Dy Dz DA Dx xy DB), VQ⟩)
  (c_law : PySem.W.codeIn K xy "law" = true)
  (k_law : PySem.W.keepIn K (.ref xw) = true)
  (z_all : PySem.W.nsIn K mainGlobals "all" = some none)
  (z_any : PySem.W.nsIn K mainGlobals "any" = some none)
  (z_dict : PySem.W.nsIn K mainGlobals "dict" = some none)
  (z_isinstance : PySem.W.nsIn K mainGlobals "isinstance" = some none)
  (z_len : PySem.W.nsIn K mainGlobals "len" = some none)
  (z_list : PySem.W.nsIn K mainGlobals "list" = some none)
  (z_max : PySem.W.nsIn K mainGlobals "max" = some none)
  (z_range : PySem.W.nsIn K mainGlobals "range" = some none)
  (z_tuple : PySem.W.nsIn K mainGlobals "tuple" = some none)
  (x_Timing : PySem.W.nsIn K mainGlobals "Timing" = some (some (.ref gj)))
  (pg_Timing : PySem.W.plainGet K gj Str.empty = true) (hd_Timing : PySem.W.hasDictIn K gj = true) (po_Timing : PySem.W.plainOver K gj = true) (sa_Timing : PySem.W.findIn K (.ref gj) "__setattr__" = some (some (.builtin "object.__setattr__")))
  (mk_Timing : PySem.W.makesIn K gj = true) (kc_Timing : PySem.W.keepIn K (.ref gj) = true)
  (na_most_Timing : PySem.W.findIn K (.ref gj) "most" = some none)
  (na_next_beat_Timing : PySem.W.findIn K (.ref gj) "next_beat" = some none)
  (na_waits_Timing : PySem.W.findIn K (.ref gj) "waits" = some none)
  : ∃ fd : FuncData, (∀ (s : Shared) (v : Value), BindsTo s fd ⟨[v], []⟩ [("_law_script", v)]) /\ ∀ base : Heap, K.In base -> base.Ns mainGlobals mg -> bp l.prog w K mg base (bE l.prog w) 7 fa fd ["_law_script"] (bN K mg 1 pJ) := by
 have e := hfa.symm.trans (PySem.W.mg_of KX G a_law)
 cases e
 have gd := cB (st := gc) l_law_cell_at c_law_cell_at k_law_cell_at
 have mW := cB (st := iB) l_law_number_by c_law_number_by k_law_number_by
 have mZ := cB (st := cm) l_law_row_by c_law_row_by k_law_row_by
 have oH := cB (st := iD) l_Timing_init c_Timing_init k_Timing_init
 have kx := cB (st := iE) l_things_read c_things_read k_things_read
 have iA := cB (st := iy) l_things_written c_things_written k_things_written
 have kL := cB (st := iL) l_wait_of c_wait_of k_wait_of
 have iC := cB (st := cW) l_timing_behind c_timing_behind k_timing_behind
 have m3 := cB (st := eO) l_timings_of c_timings_of k_timings_of
 have m4 := cB (st := dq) l_mosts_from c_mosts_from k_mosts_from
 have m5 := cB (st := dG) l_beats_from c_beats_from k_beats_from
 have lF := cB (st := iG) l_is_outward c_is_outward k_is_outward
 have lU := cB (st := gV) l_share c_share k_share
 have m8 := cB (st := eZ) l_are_bound c_are_bound k_are_bound
 have lI := cB (st := bH) l_improved c_improved k_improved
 have lN := cB (st := eP) l_ordered c_ordered k_ordered
 have m7 := cB (st := dX) l_law_places c_law_places k_law_places
 have lA := cB (st := iF) l_law_is_part c_law_is_part k_law_is_part
 have kG := cB (st := iH) l_law_writes c_law_writes k_law_writes
 have kI := cB (st := iI) l_law_reads c_law_reads k_law_reads
 have lJ := cB (st := dY) l_law_tied c_law_tied k_law_tied
 have m9 := cB (st := c8) l_law_kept c_law_kept k_law_kept
 have lK := cB (st := gf) l_law_wait c_law_wait k_law_wait
 have jw := cB (st := cz) l_law_beats c_law_beats k_law_beats
 have mY := cB (st := dW) l_law_is_best c_law_is_best k_law_is_best
 have pK := cB (st := bU) l_law c_law k_law
 let T : Tx K mg := {
  a_law_cell_at := rl, rB := _, gd := gd, ku := PySem.W.mg_of KX G a_law_cell_at, fL := gd.binds (ps := ["_law_script", "_law_k"]) (fun _ _ _ _ _ _ us hl => by obtain ⟨_, _, rfl⟩ := jX us hl; rfl),
  a_law_number_by := q5, rg := _, mW := mW, z3 := PySem.W.mg_of KX G a_law_number_by, lp := mW.binds (ps := ["_law_cell"]) (fun _ _ _ _ _ _ us hl => by obtain ⟨_, rfl⟩ := eJ us hl; rfl),
  a_law_row_by := rK, rS := _, mZ := mZ, As := PySem.W.mg_of KX G a_law_row_by, kz := mZ.binds (ps := ["_law_cell", "_law_boxes", "_law_slots"]) (fun _ _ _ _ _ _ us hl => by obtain ⟨_, _, _, rfl⟩ := ES us hl; rfl),
  a_Timing_init := oG, rC := _, oH := oH, jt := oH.binds (ps := ["self"]) (fun _ _ _ _ _ _ us hl => by obtain ⟨_, rfl⟩ := eJ us hl; rfl),
  a_things_read := rm, rE := _, kx := kx, rF := PySem.W.mg_of KX G a_things_read, ko := kx.binds (ps := ["row"]) (fun _ _ _ _ _ _ us hl => by obtain ⟨_, rfl⟩ := eJ us hl; rfl),
  a_things_written := qY, qZ := _, iA := iA, mV := PySem.W.mg_of KX G a_things_written, iz := iA.binds (ps := ["row"]) (fun _ _ _ _ _ _ us hl => by obtain ⟨_, rfl⟩ := eJ us hl; rfl),
  a_wait_of := sJ, sR := _, kL := kL, sS := PySem.W.mg_of KX G a_wait_of, kK := kL.binds (ps := ["row"]) (fun _ _ _ _ _ _ us hl => by obtain ⟨_, rfl⟩ := eJ us hl; rfl),
  a_timing_behind := rf, rh := _, iC := iC, mX := PySem.W.mg_of KX G a_timing_behind, gb := iC.binds (ps := ["timing", "row"]) (fun _ _ _ _ _ _ us hl => by obtain ⟨_, _, rfl⟩ := jX us hl; rfl),
  a_timings_of := rL, rT := _, m3 := m3, Au := PySem.W.mg_of KX G a_timings_of, kB := m3.binds (ps := ["rows"]) (fun _ _ _ _ _ _ us hl => by obtain ⟨_, rfl⟩ := eJ us hl; rfl),
  a_mosts_from := rM, rV := _, m4 := m4, Av := PySem.W.mg_of KX G a_mosts_from, kC := m4.binds (ps := ["rows", "timings"]) (fun _ _ _ _ _ _ us hl => by obtain ⟨_, _, rfl⟩ := jX us hl; rfl),
  a_beats_from := rN, rW := _, m5 := m5, Aw := PySem.W.mg_of KX G a_beats_from, kD := m5.binds (ps := ["rows", "timings", "mosts", "timing", "place"]) (fun _ _ _ _ _ _ us hl => by obtain ⟨_, _, _, _, _, rfl⟩ := ET us hl; rfl),
  a_is_outward := rO, rX := _, lF := lF, vH := PySem.W.mg_of KX G a_is_outward, lC := lF.binds (ps := ["row"]) (fun _ _ _ _ _ _ us hl => by obtain ⟨_, rfl⟩ := eJ us hl; rfl),
  a_share := tx, tK := _, lU := lU, wU := PySem.W.mg_of KX G a_share, kO := lU.binds (ps := ["some", "others"]) (fun _ _ _ _ _ _ us hl => by obtain ⟨_, _, rfl⟩ := jX us hl; rfl),
  a_are_bound := r9, sh := _, m8 := m8, AH := PySem.W.mg_of KX G a_are_bound, lG := m8.binds (ps := ["one", "other"]) (fun _ _ _ _ _ _ us hl => by obtain ⟨_, _, rfl⟩ := jX us hl; rfl),
  a_improved := su, sE := _, lI := lI, vN := PySem.W.mg_of KX G a_improved, jz := lI.binds (ps := ["rows"]) (fun _ _ _ _ _ _ us hl => by obtain ⟨_, rfl⟩ := eJ us hl; rfl),
  a_ordered := sL, sT := _, lN := lN, vY := PySem.W.mg_of KX G a_ordered, jE := lN.binds (ps := ["rows"]) (fun _ _ _ _ _ _ us hl => by obtain ⟨_, rfl⟩ := eJ us hl; rfl),
  a_law_places := rP, rY := _, m7 := m7, Ax := PySem.W.mg_of KX G a_law_places, kE := m7.binds (ps := ["_law_rows", "_law_found"]) (fun _ _ _ _ _ _ us hl => by obtain ⟨_, _, rfl⟩ := jX us hl; rfl),
  a_law_is_part := rn, rH := _, lA := lA, vt := PySem.W.mg_of KX G a_law_is_part, lz := lA.binds (ps := ["_law_row"]) (fun _ _ _ _ _ _ us hl => by obtain ⟨_, rfl⟩ := eJ us hl; rfl),
  a_law_writes := rQ, rZ := _, kG := kG, r6 := PySem.W.mg_of KX G a_law_writes, kF := kG.binds (ps := ["_law_row"]) (fun _ _ _ _ _ _ us hl => by obtain ⟨_, rfl⟩ := eJ us hl; rfl),
  a_law_reads := sd, si := _, kI := kI, sj := PySem.W.mg_of KX G a_law_reads, kH := kI.binds (ps := ["_law_row"]) (fun _ _ _ _ _ _ us hl => by obtain ⟨_, rfl⟩ := eJ us hl; rfl),
  a_law_tied := sv, sF := _, lJ := lJ, vO := PySem.W.mg_of KX G a_law_tied, jA := lJ.binds (ps := ["_law_one", "_law_other"]) (fun _ _ _ _ _ _ us hl => by obtain ⟨_, _, rfl⟩ := jX us hl; rfl),
  a_law_kept := sx, sG := _, m9 := m9, A0 := PySem.W.mg_of KX G a_law_kept, kJ := m9.binds (ps := ["_law_rows", "_law_found"]) (fun _ _ _ _ _ _ us hl => by obtain ⟨_, _, rfl⟩ := jX us hl; rfl),
  a_law_wait := sy, sH := _, lK := lK, vP := PySem.W.mg_of KX G a_law_wait, iK := lK.binds (ps := ["_law_row"]) (fun _ _ _ _ _ _ us hl => by obtain ⟨_, rfl⟩ := eJ us hl; rfl),
  a_law_beats := se, sk := _, jw := jw, oK := PySem.W.mg_of KX G a_law_beats, gQ := jw.binds (ps := ["_law_rows"]) (fun _ _ _ _ _ _ us hl => by obtain ⟨_, rfl⟩ := eJ us hl; rfl),
  a_law_is_best := rp, rJ := _, mY := mY, Ah := PySem.W.mg_of KX G a_law_is_best, kr := mY.binds (ps := ["_law_found"]) (fun _ _ _ _ _ _ us hl => by obtain ⟨_, rfl⟩ := eJ us hl; rfl),
  a_law := fa, uc := _, pK := pK, XJ := PySem.W.mg_of KX G a_law, nN := pK.binds (ps := ["_law_script"]) (fun _ _ _ _ _ _ us hl => by obtain ⟨_, rfl⟩ := eJ us hl; rfl),
  Eb := PySem.W.mg_none_of KX G z_all,
  Ec := PySem.W.mg_none_of KX G z_any,
  Dv := PySem.W.mg_none_of KX G z_dict,
  vI := PySem.W.mg_none_of KX G z_isinstance,
  fW := PySem.W.mg_none_of KX G z_len,
  pv := PySem.W.mg_none_of KX G z_list,
  mq := PySem.W.mg_none_of KX G z_max,
  kP := PySem.W.mg_none_of KX G z_range,
  CI := PySem.W.mg_none_of KX G z_tuple,
  kN := gj, cN := x_Timing, sU := PySem.W.mg_of KX G x_Timing,
  du := ⟨pg_Timing, hd_Timing, po_Timing, sa_Timing⟩,
  mk_Timing := ⟨mk_Timing, a_Timing_init, i_Timing_init, kc_Timing⟩,
  ls := na_most_Timing,
  kn := na_next_beat_Timing,
  lq := na_waits_Timing }
 exact ⟨PySem.W.fnOf "law" "law" (b3 bU) (aW bU) (af bU) .none Dy Dz DA Dx xy DB, fun s v => .of_eq rfl, fun base _ _ => VO T⟩
theorem QV {l : PySem.W.OpenLaw} {q : Program} {loose : List Str} {XP : (Str -> Option Value) -> Heap -> Prop} {YP : World -> Heap -> Prop} {d : DefRec} {K : Params -> PySem.W.Frag} (good : ∀ ns : List Int, ns.length <= 63 -> ∃ ph', pJ [.fl (ns.map W.int)] [] = .ok (.bl true) ph') (hn : l.most = some 63) (mK : d.params.defaults = [])
  (hY : ∀ (w : World) (h : Heap), YP w h -> (K w.params).In h)
  (F : ∀ (w : World) (mg : Str -> Option Value) (fa : Addr) (h : Heap), (K w.params).In h -> h.Ns mainGlobals mg -> mg d.name = some (.ref fa) -> ∃ fd : FuncData, (∀ (s : Shared) (u : Value), BindsTo s fd ⟨[u], []⟩ [("_law_script", u)]) /\ ∀ base : Heap, (K w.params).In base -> base.Ns mainGlobals mg -> bp l.prog w (K w.params) mg base (bE l.prog w) 7 fa fd ["_law_script"] (bN (K w.params) mg 1 pJ)) :
  PySem.W.WalkO q loose XP YP l.row.toRowW d [] (fun f vs => PySem.call f vs) := RY 7 good hn mK ⟨rfl, by decide, by decide⟩ hY F
open PySem L2
theorem jG {m : EM} {σ : aE} {ph ph' : PH} {i : Nat} {ws : List W} (h : m σ ph = .ok (.ref i) ph') (hi : ph'[i]? = some (.lst ws)) : di m σ ph = .ok (ws, fun p => decide (p[i]? = some (.lst ws))) ph' := by
 unfold di
 rw [ai h]
 unfold lift xZ
 simp only [hi]
theorem DC {a b : Int} (h1 : -(2 ^ 64) < b) (h2 : b < 2 ^ 64) : mulC a b = true := by
 unfold mulC
 rw [decide_eq_true h1, decide_eq_true h2]
 simp
theorem wW (ns : List Int) (k : Nat) (ph : PH) : c6 [.fl (ns.map W.int), .int (k : Int)] ph = .ok (.int (ns.getD k 0)) ph := by
 unfold c6 fL
 try simp only [bB, Nat.reduceSub, List.reduceReplicate, List.set_cons_zero, List.set_cons_succ, if_true, if_false, ↓reduceIte, String.reduceEq, reduceCtorEq, YY]
 by_cases h : k < ns.length
 ·have e : bL (ns.map W.int) (k : Int) = some (.int (ns.getD k 0)) := by
   rw [wG _ _ (by simpa using h)]; simp [h]
  rw [ixF e]
  simp [h, aw, gC, ap]
 ·have e : ns.getD k 0 = 0 := by simp [Nat.le_of_not_lt h]
  simp [h, aw, gC, ap, e]
theorem xA (ns : List Int) (ph : PH) : c6 [.fl (ns.map W.int), .int 0] ph = .ok (.int (ns.getD 0 0)) ph := wW ns 0 ph
theorem xB (ns : List Int) (ph : PH) : c6 [.fl (ns.map W.int), .int 1] ph = .ok (.int (ns.getD 1 0)) ph := wW ns 1 ph
theorem PC (c : Int) (ph : PH) : ∃ v ph', vm [.int c] ph = .ok (.int v) ph' /\ Ex ph ph' := by
 unfold vm lp
 try simp only [bB, Nat.reduceSub, List.reduceReplicate, List.set_cons_zero, List.set_cons_succ, if_true, if_false, ↓reduceIte, String.reduceEq, reduceCtorEq, dZ (show (4 : Int) ≠ 0 by decide), dZ (show (8 : Int) ≠ 0 by decide), dZ (show (4294967296 : Int) ≠ 0 by decide), dZ (show (100003 : Int) ≠ 0 by decide), dZ (show (19 : Int) ≠ 0 by decide), gu (show (4 : Int) ≠ 0 by decide) (by decide), xQ (DC (a := c.fdiv 4) (b := 48271) (by decide) (by decide))]
 cases decide (c.fmod 4 = 3) with
 | true =>
  simp only [if_true]
  rw [jH _ _ _ (small (by simp))]
  have q := lH (c.fdiv 4) 8 (by decide)
  have : ∃ n : Int, bL [W.int 2147483647, W.int (-2147483648), W.int 65536, W.int (-1), W.int 46341, W.int (-65537), W.int 1, W.int 0] ((c.fdiv 4).fmod 8) = some (.int n) := by
   obtain ⟨w, hw, e⟩ := VC [W.int 2147483647, W.int (-2147483648), W.int 65536, W.int (-1), W.int 46341, W.int (-65537), W.int 1, W.int 0] ((c.fdiv 4).fmod 8) q.1 q.2
   rw [e]
   have : ∃ n : Int, w = .int n := by
    simp only [List.mem_cons, List.not_mem_nil, or_false] at hw
    rcases hw with rfl | rfl | rfl | rfl | rfl | rfl | rfl | rfl <;> exact ⟨_, rfl⟩
   obtain ⟨n, rfl⟩ := this
   exact ⟨n, rfl⟩
  obtain ⟨n, hn⟩ := this
  rw [ai (lT (aZ _ _) hn)]
  exact ⟨_, _, rfl, Ex.one _ _⟩
 | false =>
  simp only [Bool.false_eq_true, if_false]
  cases decide (c.fmod 4 = 2) with
  | true => exact ⟨_, _, rfl, Ex.refl _⟩
  | false =>
   simp only [Bool.false_eq_true, if_false]
   cases decide (c.fmod 4 = 1) with
   | true => exact ⟨_, _, rfl, Ex.refl _⟩
   | false => exact ⟨_, _, rfl, Ex.refl _⟩
inductive Wd where
 | sum | less | times | part | below | alike
 deriving DecidableEq
def Wd.S : Wd -> String
 | .sum => "sum" | .less => "less" | .times => "times" | .part => "part" | .below => "below" | .alike => "alike"
inductive Rw where
 | put (b n : Int) | mv (a b : Int) | pull (b s : Int) | push (s b : Int) | take (b : Int) | tell (b : Int) | turn | dd (d : Int) (w : Wd) (a b : Int)
 deriving DecidableEq
def Rw.W : Rw -> W
 | .put b n => .tup [.str "put", .int b, .int n]
 | .mv a b => .tup [.str "move", .int a, .int b]
 | .pull b s => .tup [.str "pull", .int b, .int s]
 | .push s b => .tup [.str "push", .int s, .int b]
 | .take b => .tup [.str "take", .int b]
 | .tell b => .tup [.str "tell", .int b]
 | .turn => .tup [.str "turn"]
 | .dd d w a b => .tup [.str "do", .int d, .str (Str.ofString w.S), .int a, .int b]
abbrev Th := Bool × Int
def Rw.rd : Rw -> List Th
 | .dd _ _ a b => [(true, a), (true, b)]
 | .tell b => [(true, b)]
 | .mv _ b => [(true, b)]
 | .push _ b => [(true, b)]
 | .pull _ s => [(false, s)]
 | _ => []
def Rw.wr : Rw -> List Th
 | .tell _ => []
 | .turn => []
 | .push s _ => [(false, s)]
 | .put b _ => [(true, b)]
 | .mv a _ => [(true, a)]
 | .pull b _ => [(true, b)]
 | .take b => [(true, b)]
 | .dd d _ _ _ => [(true, d)]
theorem k7 {e : EM} {i : Nat} {b : SM} {σ : aE} {ph ph1 : PH} {w : W} (h : e σ ph = .ok w ph1) : aq (aC e (gN i)) b σ ph = b (σ.set i (some w)) ph1 := by
 show ap (ap (e σ) _) _ ph = _
 rw [e9, ai h]
 rfl
theorem EU {t : TM} {a c b : SM} {σ : aE} {ph ph1 ph2 : PH} {w : W} (ht : t σ ph = .ok true ph1) (ha : a σ ph1 = .ok (.rt w) ph2) : aq (aU t a c) b σ ph = .ok (.rt w) ph2 := by
 show ap (ap (t σ) _) _ ph = _
 rw [e9, ai ht, if_pos rfl, ai ha]
 rfl
theorem Y3 {t : TM} {a b : SM} {σ : aE} {ph ph1 : PH} (ht : t σ ph = .ok false ph1) : aq (aU t a aX) b σ ph = b σ ph1 := by
 show ap (ap (t σ) _) _ ph = _
 rw [e9, ai ht]
 rfl
abbrev w6 : List W := [W.str "sum", W.str "less", W.str "times", W.str "part", W.str "below", W.str "alike"]
abbrev r4 (o1 o2 o3 v : Int) : List W := [Rw.W (.put o1 v), Rw.W (.mv o1 o2), Rw.W (.pull o1 o3), Rw.W (.push o3 o1)]
abbrev r3 (o1 : Int) : List W := [Rw.W (.take o1), Rw.W (.tell o1), Rw.W .turn]
theorem VS (c bx sl : Int) (hb : 0 < bx) (hs : 0 < sl) (ph : PH) : ∃ (r : Rw) (ph' : PH), lB [.int c, .int bx, .int sl] ph = .ok r.W ph' /\ Ex ph ph' := by
 unfold lB
 rw [EK]
 simp only [Nat.reduceSub, List.reduceReplicate]
 suffices key : ∃ (r : Rw) (ph' : PH), kz [some (.int c), some (.int bx), some (.int sl), none, none, none, none, none, none, none] ph = Out.ok (Fl.rt r.W) ph' /\ Ex ph ph' by
  obtain ⟨r, ph', k1, k2⟩ := key
  exact ⟨r, ph', by rw [ai k1]; rfl, k2⟩
 have mR : bx ≠ 0 := by omega
 have qu : sl ≠ 0 := by omega
 unfold kz
 rw [k7 (w := .int (c.fmod 12)) (ph1 := ph) (by try simp only [bB, Nat.reduceSub, List.reduceReplicate, List.set_cons_zero, List.set_cons_succ, if_true, if_false, ↓reduceIte, String.reduceEq, reduceCtorEq, dZ (show (12 : Int) ≠ 0 by decide)])]
 simp only [List.set_cons_zero, List.set_cons_succ]
 rw [k7 (w := .int (((c.fdiv 12) * 48271).fmod 2147483647)) (ph1 := ph) (by try simp only [bB, Nat.reduceSub, List.reduceReplicate, List.set_cons_zero, List.set_cons_succ, if_true, if_false, ↓reduceIte, String.reduceEq, reduceCtorEq, dZ (show (2147483647 : Int) ≠ 0 by decide), gu (show (12 : Int) ≠ 0 by decide) (by decide), xQ (DC (a := c.fdiv 12) (b := 48271) (by decide) (by decide))])]
 simp only [List.set_cons_zero, List.set_cons_succ]
 have qk := lH c 12 (by decide)
 generalize c.fmod 12 = k at qk
 generalize ((c.fdiv 12) * 48271).fmod 2147483647 = more
 rw [k7 (w := .int (more.fmod bx)) (ph1 := ph) (by try simp only [bB, Nat.reduceSub, List.reduceReplicate, List.set_cons_zero, List.set_cons_succ, if_true, if_false, ↓reduceIte, String.reduceEq, reduceCtorEq, dZ mR])]
 simp only [List.set_cons_zero, List.set_cons_succ]
 rw [k7 (w := .int ((more.fdiv 9).fmod bx)) (ph1 := ph) (by try simp only [bB, Nat.reduceSub, List.reduceReplicate, List.set_cons_zero, List.set_cons_succ, if_true, if_false, ↓reduceIte, String.reduceEq, reduceCtorEq, dZ mR, gu (show (9 : Int) ≠ 0 by decide) (by decide)])]
 simp only [List.set_cons_zero, List.set_cons_succ]
 rw [k7 (w := .int ((more.fdiv 81).fmod sl)) (ph1 := ph) (by try simp only [bB, Nat.reduceSub, List.reduceReplicate, List.set_cons_zero, List.set_cons_succ, if_true, if_false, ↓reduceIte, String.reduceEq, reduceCtorEq, dZ qu, gu (show (81 : Int) ≠ 0 by decide) (by decide)])]
 simp only [List.set_cons_zero, List.set_cons_succ]
 generalize more.fmod bx = o1
 generalize (more.fdiv 9).fmod bx = o2
 generalize (more.fdiv 81).fmod sl = o3
 by_cases h5 : k < 5
 ·have q := lH (more.fdiv 486) 6 (by decide)
  have : ∃ w : Wd, bL w6 ((more.fdiv 486).fmod 6) = some (.str (Str.ofString w.S)) := by
   generalize (more.fdiv 486).fmod 6 = d at q
   have : d = 0 \/ d = 1 \/ d = 2 \/ d = 3 \/ d = 4 \/ d = 5 := by omega
   rcases this with rfl | rfl | rfl | rfl | rfl | rfl
   ·exact ⟨.sum, rfl⟩
   ·exact ⟨.less, rfl⟩
   ·exact ⟨.times, rfl⟩
   ·exact ⟨.part, rfl⟩
   ·exact ⟨.below, rfl⟩
   ·exact ⟨.alike, rfl⟩
  obtain ⟨w, hw⟩ := this
  refine ⟨.dd o1 w o2 ((more.fdiv 2916).fmod bx), _, EU (ph1 := ph) (ph2 := ph ++ [.lst w6]) (by try simp only [bB, Nat.reduceSub, List.reduceReplicate, List.set_cons_zero, List.set_cons_succ, if_true, if_false, ↓reduceIte, String.reduceEq, reduceCtorEq, decide_eq_true h5]) ?_, Ex.one _ _⟩
  rw [k7 (w := .str (Str.ofString w.S)) (ph1 := ph ++ [.lst w6]) (by
   try simp only [bB, Nat.reduceSub, List.reduceReplicate, List.set_cons_zero, List.set_cons_succ, if_true, if_false, ↓reduceIte, String.reduceEq, reduceCtorEq, dZ (show (6 : Int) ≠ 0 by decide), gu (show (486 : Int) ≠ 0 by decide) (by decide)]
   rw [jH _ _ _ (small (by simp)), lT (aZ _ _) hw])]
  simp only [List.set_cons_zero, List.set_cons_succ]
  try simp only [bB, Nat.reduceSub, List.reduceReplicate, List.set_cons_zero, List.set_cons_succ, if_true, if_false, ↓reduceIte, String.reduceEq, reduceCtorEq, dZ mR, gu (show (2916 : Int) ≠ 0 by decide) (by decide)]
  rfl
 ·rw [Y3 (ph1 := ph) (by try simp only [bB, Nat.reduceSub, List.reduceReplicate, List.set_cons_zero, List.set_cons_succ, if_true, if_false, ↓reduceIte, String.reduceEq, reduceCtorEq, decide_eq_false h5])]
  obtain ⟨v, ph1, e1, x1⟩ := PC (more.fdiv 9) ph
  rw [k7 (w := .ref ph1.length) (ph1 := ph1 ++ [.lst (r4 o1 o2 o3 v)]) (by
   try simp only [bB, Nat.reduceSub, List.reduceReplicate, List.set_cons_zero, List.set_cons_succ, if_true, if_false, ↓reduceIte, String.reduceEq, reduceCtorEq, gu (show (9 : Int) ≠ 0 by decide) (by decide)]
   rw [ai e1]
   ac_nf
   rw [tU _ _ (small (by simp))]
   rfl)]
  simp only [List.set_cons_zero, List.set_cons_succ]
  rw [k7 (w := .ref (ph1 ++ [PO.lst (r4 o1 o2 o3 v)] ++ [PO.lst (r3 o1)]).length) (ph1 := ph1 ++ [PO.lst (r4 o1 o2 o3 v)] ++ [PO.lst (r3 o1)] ++ [.lst ((r4 o1 o2 o3 v) ++ (r3 o1))]) (by
   ac_nf
   rw [jH _ _ _ (small (by simp))]
   exact lS ((Ex.one _ _).get (aZ _ _)) (aZ _ _) (small (by simp)))]
  simp only [List.set_cons_zero, List.set_cons_succ]
  have : ∃ r : Rw, bL ((r4 o1 o2 o3 v) ++ (r3 o1)) (k - 5) = some r.W := by
   have : k = 5 \/ k = 6 \/ k = 7 \/ k = 8 \/ k = 9 \/ k = 10 \/ k = 11 := by omega
   rcases this with rfl | rfl | rfl | rfl | rfl | rfl | rfl
   ·exact ⟨.put o1 v, rfl⟩
   ·exact ⟨.mv o1 o2, rfl⟩
   ·exact ⟨.pull o1 o3, rfl⟩
   ·exact ⟨.push o3 o1, rfl⟩
   ·exact ⟨.take o1, rfl⟩
   ·exact ⟨.tell o1, rfl⟩
   ·exact ⟨.turn, rfl⟩
  obtain ⟨r, hr⟩ := this
  have fin : ∀ (H : PH) (i : Nat) (ws : List W), H[i]? = some (.lst ws) -> bL ws (k - 5) = some r.W -> aN (ae aj (aa 9) (ae dj (aa 3) (eC (.int (5))))) [some (.int c), some (.int bx), some (.int sl), some (.int k), some (.int more), some (.int o1), some (.int o2), some (.int o3), none, some (.ref i)] H = .ok (.rt r.W) H := by
   intro H i ws h1 h2
   ac_nf
   rw [ai (lT h1 h2)]
   rfl
  exact ⟨r, _, fin _ _ _ (aZ _ _) hr, ((x1.trans (Ex.one _ _)).trans (Ex.one _ _)).trans (Ex.one _ _)⟩
def tS (b : Bool) : Str := if b then "box" else "slot"
def tW (t : Th) : W := .tup [.str (tS t.1), .int t.2]
def Rw.wt : Rw -> Int
 | .pull _ _ => 3
 | .take _ => 2
 | .dd _ .times _ _ => 3
 | .dd _ .part _ _ => 5
 | _ => 1
theorem xC (r : Rw) (ph : PH) : kq [r.W] ph = .ok (.ref ph.length) (ph ++ [.lst (r.rd.map tW)]) := by
 cases r <;> with_unfolding_all rfl
theorem oR (r : Rw) (ph : PH) : f7 [r.W] ph = .ok (.ref ph.length) (ph ++ [.lst (r.wr.map tW)]) := by
 cases r <;> with_unfolding_all rfl
theorem xD (r : Rw) (ph : PH) : lM [r.W] ph = .ok (.int r.wt) ph := by
 cases r with
 | dd d w a b => cases w <;> with_unfolding_all rfl
 | _ => with_unfolding_all rfl
abbrev Wm := List (Th × Int)
def cQ (m : Wm) (t : Th) (w : Int) : Wm := if (m.any fun p => decide (p.1 = t)) = true then m.map (fun p => if p.1 = t then (p.1, w) else p) else m ++ [(t, w)]
def i0 : Wm -> Wm -> Wm
 | m, [] => m
 | m, p :: r => i0 (cQ m p.1 p.2) r
def kv (p : Th × Int) : W × W := (tW p.1, .int p.2)
theorem DD {a b : Bool} (h : tS a = tS b) : a = b := by
 cases a <;> cases b <;> first | rfl | exact absurd (jK.mp h) (by decide)
theorem tX {a b : Th} : tW a = tW b ↔ a = b := by
 constructor
 ·intro h
  unfold tW at h
  injection h with h
  injection h with h1 h2
  injection h1 with h1
  injection h2 with h2 _
  injection h2 with h2
  exact Prod.ext (DD h1) h2
 ·rintro rfl; rfl
theorem VT (m : Wm) (t : Th) (w : Int) : cu (m.map kv) (tW t) (.int w) = (cQ m t w).map kv := by
 unfold cu cQ
 have e : ((m.map kv).any fun p => decide (p.1 = tW t)) = m.any fun p => decide (p.1 = t) := by
  rw [List.any_map]
  congr 1
  funext p
  simp only [Function.comp_def, kv, tX]
 rw [e]
 split
 ·rw [List.map_map, List.map_map]
  apply List.map_congr_left
  intro p _
  simp only [Function.comp_def, kv, tX]
  by_cases h : p.1 = t
  ·simp [h, kv]
  ·simp [h, kv]
 ·simp [kv]
theorem CK (m : Wm) (t : Th) : fi (m.map kv) (tW t) = true := by
 unfold fi
 have : ((m.map kv).all fun p => fv p.1) = true := by
  rw [List.all_map, List.all_eq_true]
  intro p _
  rfl
 rw [this]
 have : (uy (tW t)).isSome = true := rfl
 rw [this]
 simp
def lk (m : Wm) (t : Th) : Int := ((m.find? fun p => decide (p.1 = t)).map (·.2)).getD 0
theorem VU (m : Wm) (t : Th) : (bP (m.map kv) (tW t)).getD (.int 0) = .int (lk m t) := by
 unfold bP lk
 rw [List.find?_map]
 have : ((fun p : W × W => decide (p.1 = tW t)) ∘ kv) = fun p : Th × Int => decide (p.1 = t) := by
  funext p
  simp only [Function.comp_def, kv, tX]
 rw [this]
 cases m.find? fun p => decide (p.1 = t) <;> rfl
theorem wX (m : Wm) (t : Th) (w : Int) : (cQ m t w).length <= m.length + 1 := by
 unfold cQ
 split <;> simp
theorem BU : ∀ (L m : Wm), (i0 m L).length <= m.length + L.length
 | [], m => by simp [i0]
 | p :: L, m => by
  have h1 := BU L (cQ m p.1 p.2)
  have h2 := wX m p.1 p.2
  simp only [i0, List.length_cons]
  omega
theorem DE : ∀ (L m : Wm), m.length + L.length <= sizeLine -> kU (m.map kv) (L.map kv) = some ((i0 m L).map kv)
 | [], m, _ => rfl
 | p :: L, m, hz => by
  rw [List.map_cons]
  unfold kU
  simp only [List.length_cons] at hz
  have hk : fi (m.map kv) (kv p).1 = true := CK m p.1
  rw [if_pos ⟨hk, by rw [List.length_map]; omega⟩]
  show kU (cu (m.map kv) (tW p.1) (.int p.2)) (L.map kv) = _
  rw [VT]
  have h2 := wX m p.1 p.2
  exact DE L (cQ m p.1 p.2) (by omega)
theorem pd {m : Wm} {t : Th} {w : Int} {s : Th} {v : Int} : (s, v) ∈ cQ m t w ↔ (s = t /\ v = w) \/ (s ≠ t /\ (s, v) ∈ m) := by
 unfold cQ
 split
 ·rename_i h
  rw [List.any_eq_true] at h
  obtain ⟨q, hq, u3⟩ := h
  have u3 : q.1 = t := of_decide_eq_true u3
  rw [List.mem_map]
  constructor
  ·rintro ⟨p, hp, e⟩
   by_cases u4 : p.1 = t
   ·rw [if_pos u4] at e
    cases e
    exact .inl ⟨u4, rfl⟩
   ·rw [if_neg u4] at e
    cases e
    exact .inr ⟨u4, hp⟩
  ·rintro (⟨rfl, rfl⟩ | ⟨h1, h2⟩)
   ·exact ⟨q, hq, by rw [if_pos u3, u3]⟩
   ·exact ⟨(s, v), h2, by rw [if_neg h1]⟩
 ·rename_i h
  rw [List.mem_append, List.mem_singleton]
  constructor
  ·rintro (h1 | h1)
   ·refine .inr ⟨?_, h1⟩
    rintro rfl
    exact h (List.any_eq_true.mpr ⟨_, h1, decide_eq_true rfl⟩)
   ·cases h1; exact .inl ⟨rfl, rfl⟩
  ·rintro (⟨rfl, rfl⟩ | ⟨_, h2⟩)
   ·exact .inr rfl
   ·exact .inl h2
def Fn (m : Wm) : Prop := ∀ t w w', (t, w) ∈ m -> (t, w') ∈ m -> w = w'
theorem BV : ∀ {L m : Wm} {s : Th} {v : Int}, Fn (m ++ L) -> ((s, v) ∈ i0 m L ↔ (s, v) ∈ m \/ (s, v) ∈ L)
  | [], m, s, v, _ => by simp [i0]
  | p :: L, m, s, v, hf => by
    have hp : ∀ {s v}, (s, v) ∈ cQ m p.1 p.2 ↔ (s, v) ∈ m \/ (s, v) = p := by
      intro s v
      rw [pd]
      constructor
      · rintro (⟨rfl, rfl⟩ | ⟨_, h⟩)
        · exact .inr rfl
        · exact .inl h
      · rintro (h | rfl)
        · by_cases e : s = p.1
          · subst e
            exact .inl ⟨rfl, hf p.1 v p.2 (by simp [h]) (by simp)⟩
          · exact .inr ⟨e, h⟩
        · exact .inl ⟨rfl, rfl⟩
    have zl : Fn (cQ m p.1 p.2 ++ L) := by
      intro t w w' h h'
      refine hf t w w' ?_ ?_
      · rw [List.mem_append, hp] at h
        rcases h with (h | h) | h <;> simp [h]
      · rw [List.mem_append, hp] at h'
        rcases h' with (h | h) | h <;> simp [h]
    show (s, v) ∈ i0 (cQ m p.1 p.2) L ↔ _
    rw [BV zl, hp, List.mem_cons]
    constructor
    · rintro ((h | h) | h) <;> simp [h]
    · rintro (h | h | h) <;> simp [h]
theorem gW (m : Wm) (t : Th) : (∃ w, (t, w) ∈ m /\ lk m t = w) \/ ((∀ w, (t, w) ∉ m) /\ lk m t = 0) := by
 unfold lk
 cases h : m.find? fun p => decide (p.1 = t) with
 | none =>
  refine .inr ⟨fun w hw => ?_, rfl⟩
  have := List.find?_eq_none.mp h (t, w) hw
  simp at this
 | some p =>
  have h1 := List.mem_of_find?_eq_some h
  have h2 := List.find?_some h
  have h2 : p.1 = t := of_decide_eq_true h2
  refine .inl ⟨p.2, ?_, rfl⟩
  rw [<- h2]; exact h1
def eB (m : Wm) (ts : List Th) : Int := jb (ts.map (lk m) ++ [0])
theorem S0 (m : Wm) (ts : List Th) : 0 <= eB m ts := CG (by simp)
theorem BW {m : Wm} {ts : List Th} {t : Th} (h : t ∈ ts) : lk m t <= eB m ts := CG (by
 rw [List.mem_append]
 exact .inl (List.mem_map.mpr ⟨t, h, rfl⟩))
theorem PD (m : Wm) (ts : List Th) : eB m ts = 0 \/ ∃ t ∈ ts, eB m ts = lk m t := by
 have := QA (ns := ts.map (lk m) ++ [0]) (by simp)
 rw [List.mem_append, List.mem_map] at this
 rcases this with ⟨t, ht, e⟩ | h
 ·exact .inr ⟨t, ht, e.symm⟩
 ·exact .inl (List.mem_singleton.mp h)
def olds (m : Wm) (st : Int) : Wm := m.map fun p => (p.1, p.2 - st - 1)
def news (r : Rw) : Wm := r.wr.map fun t => (t, r.wt - 1)
def nextM (m : Wm) (st : Int) (r : Rw) : Wm := i0 [] ((olds m st ++ news r).filter fun p => decide (0 < p.2))
theorem xE (r : Rw) : 1 <= r.wt := by
 cases r with
 | dd d w a b => cases w <;> simp [Rw.wt]
 | _ => simp [Rw.wt]
theorem ud {m : Wm} {st : Int} {r : Rw} {s : Th} {v : Int} : (s, v) ∈ (olds m st ++ news r).filter (fun p => decide (0 < p.2)) ↔ 0 < v /\ ((∃ w, (s, w) ∈ m /\ v = w - st - 1) \/ (s ∈ r.wr /\ v = r.wt - 1)) := by
 rw [List.mem_filter, List.mem_append]
 unfold olds news
 rw [List.mem_map, List.mem_map]
 constructor
 ·rintro ⟨h1, h2⟩
  refine ⟨of_decide_eq_true h2, ?_⟩
  rcases h1 with ⟨p, hp, e⟩ | ⟨t, ht, e⟩
  ·cases e; exact .inl ⟨p.2, hp, rfl⟩
  ·cases e; exact .inr ⟨ht, rfl⟩
 ·rintro ⟨h1, h2⟩
  refine ⟨?_, decide_eq_true h1⟩
  rcases h2 with ⟨w, hw, rfl⟩ | ⟨hs, rfl⟩
  ·exact .inl ⟨(s, w), hw, rfl⟩
  ·exact .inr ⟨s, hs, rfl⟩
theorem b6 {e : EM} {i : Nat} {b : SM} {σ : aE} {ph ph1 : PH} {w : W} (h : e σ ph = .ok w ph1) : aq (aC e (gN i)) b σ ph = b (σ.set i (some w)) ph1 := by
 rw [cX, Cz]
 simp only [e9]
 rw [ai h]
 rfl
theorem pe {c f : Str} {o v : EM} {b : SM} {σ : aE} {ph ph1 ph2 : PH} {y : W} {p : Nat} {fs : List (Str × W)} (hv : v σ ph = .ok y ph1) (ho : o σ ph1 = .ok (.ref p) ph2) (hp : ph2[p]? = some (.obj c fs)) (hz : fs.length < 1000) :
  aq (fA c f o v) b σ ph = b σ (ph2.set p (.obj c (dI f y fs))) := by
 rw [cX, BN]
 simp only [e9]
 rw [ai hv, ai ho, ai (CF hp hz)]
 rfl
theorem XM {c f : Str} {o v : EM} {σ : aE} {ph ph1 ph2 : PH} {y : W} {p : Nat} {fs : List (Str × W)} (hv : v σ ph = .ok y ph1) (ho : o σ ph1 = .ok (.ref p) ph2) (hp : ph2[p]? = some (.obj c fs)) (hz : fs.length < 1000) :
  fA c f o v σ ph = .ok (.nx σ) (ph2.set p (.obj c (dI f y fs))) := by
 rw [BN, ai hv, ai ho, ai (CF hp hz)]
 rfl
theorem BX {e : EM} {b : SM} {σ : aE} {ph ph1 : PH} {w : W} (h : e σ ph = .ok w ph1) : aq (fV e) b σ ph = b σ ph1 := by
 rw [cX, BK]
 simp only [e9]
 rw [ai h]
 rfl
theorem iT {ph H : PH} {i : Nat} (h : Ex ph H) (hi : ph.length <= i) (o : PO) : Ex ph (H.set i o) := by
 obtain ⟨m, rfl⟩ := h
 refine ⟨m.set (i - ph.length) o, ?_⟩
 rw [List.set_append_right _ _ hi]
def eM (nb : Int) (d : Nat) (most : Int) : List (Str × W) := [("next_beat", .int nb), ("waits", .ref d), ("most", .int most)]
def cM (nb : Int) (d : Nat) (most : Int) : PO := .obj "Timing" (eM nb d most)
theorem pL (nb : Int) (d : Nat) (most : Int) : (eM nb d most).lookup ("next_beat" : Str) = some (W.int nb) := by rfl
theorem ue (nb : Int) (d : Nat) (most : Int) : (eM nb d most).lookup ("waits" : Str) = some (W.ref d) := by rfl
theorem uf (nb : Int) (d : Nat) (most : Int) : (eM nb d most).lookup ("most" : Str) = some (W.int most) := by rfl
theorem ne1 : ¬ Str.ofString "next_beat" = Str.ofString "waits" := fun e => absurd (jK.mp e) (by decide)
theorem ne2 : ¬ Str.ofString "next_beat" = Str.ofString "most" := fun e => absurd (jK.mp e) (by decide)
theorem ne3 : ¬ Str.ofString "waits" = Str.ofString "most" := fun e => absurd (jK.mp e) (by decide)
theorem VV (nb x : Int) (d : Nat) (most : Int) : dI "next_beat" (.int x) (eM nb d most) = eM x d most := by
 simp only [eM, dI, if_true]
theorem VW (nb : Int) (d e : Nat) (most : Int) : dI "waits" (.ref e) (eM nb d most) = eM nb e most := by
 simp only [eM, dI, ne1, if_false, if_true]
theorem VX (nb x : Int) (d : Nat) (most : Int) : dI "most" (.int x) (eM nb d most) = eM nb d x := by
 simp only [eM, dI, ne2, ne3, if_false, if_true]
structure k8 (ph : PH) (i : Nat) (nb : Int) (m : Wm) (most : Int) (d : Nat) : Prop where
 ob : ph[i]? = some (cM nb d most)
 dc : ph[d]? = some (.aQ (m.map kv))
theorem k8.ex {ph H : PH} {i d : Nat} {nb most : Int} {m : Wm} (h : k8 ph i nb m most d) (x : Ex ph H) : k8 H i nb m most d := ⟨x.get h.ob, x.get h.dc⟩
theorem VY (ph : PH) : lw [.ref ph.length] (ph ++ [.obj "Timing" []]) = .ok .az (ph ++ [cM 0 (ph.length + 1) 0] ++ [.aQ []]) := by
 unfold lw jt
 rw [k6]
 have k : (aq (fA "Timing" "next_beat" (aa 0) (eC (.int (0)))) (aq (fA "Timing" "waits" (aa 0) ux) (fA "Timing" "most" (aa 0) (eC (.int (0)))))) (some (.ref ph.length) :: List.replicate (1 - 1) none) (ph ++ [.obj "Timing" []]) = .ok (.nx [some (.ref ph.length)]) (ph ++ [cM 0 (ph.length + 1) 0] ++ [.aQ []]) := by
  rw [pe (y := .int 0) (ph1 := ph ++ [.obj "Timing" []]) (ph2 := ph ++ [.obj "Timing" []]) rfl rfl (aZ _ _) (by decide)]
  have e1 : (ph ++ [PO.obj "Timing" []]).set ph.length (.obj "Timing" (dI "next_beat" (.int 0) [])) = ph ++ [.obj "Timing" [("next_beat", .int 0)]] := by simp [dI]
  rw [e1]
  have g1 : (ph ++ [PO.obj "Timing" [("next_beat", W.int 0)]] ++ [PO.aQ []])[ph.length]? = some (.obj "Timing" [("next_beat", .int 0)]) := (Ex.one _ _).get (aZ _ _)
  rw [pe (y := .ref (ph.length + 1)) (ph1 := ph ++ [.obj "Timing" [("next_beat", .int 0)]] ++ [.aQ []]) (ph2 := ph ++ [.obj "Timing" [("next_beat", .int 0)]] ++ [.aQ []]) (by
   rw [CC, SG]; simp) rfl g1 (by decide)]
  have e2 : (ph ++ [PO.obj "Timing" [("next_beat", W.int 0)]] ++ [PO.aQ []]).set ph.length (.obj "Timing" (dI "waits" (.ref (ph.length + 1)) [("next_beat", .int 0)])) = ph ++ [.obj "Timing" [("next_beat", .int 0), ("waits", .ref (ph.length + 1))]] ++ [.aQ []] := by
   simp [dI, ne1]
  rw [e2]
  have g2 : (ph ++ [PO.obj "Timing" [("next_beat", W.int 0), ("waits", W.ref (ph.length + 1))]] ++ [PO.aQ []])[ph.length]? = some (.obj "Timing" [("next_beat", .int 0), ("waits", .ref (ph.length + 1))]) := (Ex.one _ _).get (aZ _ _)
  rw [XM (y := .int 0) rfl rfl g2 (by simp)]
  simp [dI, ne2, ne3, cM, eM]
 rw [ai k]
 rfl
theorem Ed (σ : aE) (ph : PH) : jc "Timing" lw σ ph = .ok (.ref ph.length) (ph ++ [cM 0 (ph.length + 1) 0] ++ [.aQ []]) := SJ (VY ph)
abbrev S5 (tm : Nat) (r : Rw) (a b c : Option W) : aE := [some (.ref tm), some r.W, a, b, c]
theorem xF (r : Rw) : (r.rd ++ r.wr).length <= 10 := by cases r <;> simp [Rw.rd, Rw.wr]
theorem nE (r : Rw) : r.wr.length <= 1 := by cases r <;> simp [Rw.wr]
theorem S1 {ph : PH} {tm d : Nat} {nb most : Int} {m : Wm} (h : k8 ph tm nb m most d) (r : Rw) (a b c : Option W) :
  ∃ ph', (bg nL (ab (ae addW (cZ (di (ae addW (aB kq (ab (aa 1) ag)) (aB f7 (ab (aa 1) ag)))) [none, some 0] (gN 0) df (cI k4 k5 (cC "Timing" "waits" (aa 1)) (ab (aa 0) (ab (eC (.int (0))) ag)))) (bQ (ab (eC (.int (0))) ag))) ag)) (S5 tm r a b c) ph = .ok (.int (eB m (r.rd ++ r.wr))) ph' /\ Ex ph ph' := by
 have e1 : ae addW (aB kq (ab (aa 1) ag)) (aB f7 (ab (aa 1) ag)) (S5 tm r a b c) ph = .ok (.ref (ph.length + 1 + 1)) (ph ++ [.lst (r.rd.map tW)] ++ [.lst (r.wr.map tW)] ++ [.lst ((r.rd ++ r.wr).map tW)]) := by
  ac_nf
  rw [ai (xC r ph), ai (oR r _), lS ((Ex.one _ _).get (aZ _ _)) (aZ _ _) (small (by have := xF r; simp at this ⊢; omega))]
  simp
 have hg : (ph ++ [PO.lst (r.rd.map tW)] ++ [PO.lst (r.wr.map tW)] ++ [PO.lst ((r.rd ++ r.wr).map tW)])[ph.length + 1 + 1]? = some (.lst ((r.rd ++ r.wr).map tW)) := by
  have e : (ph ++ [PO.lst (r.rd.map tW)] ++ [PO.lst (r.wr.map tW)]).length = ph.length + 1 + 1 := by simp
  rw [<- e]
  exact aZ _ _
 have x1 : Ex ph (ph ++ [PO.lst (r.rd.map tW)] ++ [PO.lst (r.wr.map tW)] ++ [PO.lst ((r.rd ++ r.wr).map tW)]) := ((Ex.one _ _).trans (Ex.one _ _)).trans (Ex.one _ _)
 generalize hq : ph ++ [PO.lst (r.rd.map tW)] ++ [PO.lst (r.wr.map tW)] ++ [PO.lst ((r.rd ++ r.wr).map tW)] = q at e1 hg x1
 have h1 := h.ex x1
 obtain ⟨p1, c1, x2⟩ := lP (cap := [none, some 0]) (g := gN 0) (c := df) (e := cI k4 k5 (cC "Timing" "waits" (aa 1)) (ab (aa 0) (ab (eC (.int (0))) ag))) (r.rd ++ r.wr) tW (jG e1 hg) (fun ph' x => decide_eq_true (x.get hg)) (small (by have := xF r; omega)) (fun t => some (.int (lk m t))) (fun σ => ∃ o, σ = [o, some (.ref tm)]) ⟨_, rfl⟩ (by
  rintro t ht σ H ⟨o, rfl⟩ hx
  refine ⟨_, rfl, ⟨_, rfl⟩, true, H, rfl, Ex.refl _, .inr ⟨rfl, .int (lk m t), H, ?_, Ex.refl _, rfl⟩⟩
  have h2 := h1.ex hx
  show cI k4 k5 (cC "Timing" "waits" (aa 1)) (ab (aa 0) (ab (eC (.int (0))) ag)) [some (tW t), some (.ref tm)] H = _
  try simp only [bB, Nat.reduceSub, List.reduceReplicate, List.set_cons_zero, List.set_cons_succ, if_true, if_false, ↓reduceIte, String.reduceEq, reduceCtorEq, iO]
  rw [ai (fO h2.ob (ue _ _ _)), ai (SK h2.dc), SN h2.dc (CK m t), VU])
 rw [nk] at x2
 have x3 : Ex q p1 := (Ex.one _ _).trans x2
 refine ⟨p1 ++ [.lst [.int 0]] ++ [.lst (((r.rd ++ r.wr).map (lk m) ++ [0]).map W.int)], ?_, ((x1.trans x3).trans (Ex.one _ _)).trans (Ex.one _ _)⟩
 ac_nf
 rw [ai c1]
 rw [jH _ _ _ (small (by simp))]
 have g1 : (p1 ++ [PO.lst [.int 0]])[q.length]? = some (.lst ((r.rd ++ r.wr).map fun t => W.int (lk m t))) := (Ex.one _ _).get (x2.get (aZ _ _))
 rw [ai (lS g1 (aZ _ _) (small (by have := xF r; simp at this ⊢; omega)))]
 have e2 : ((r.rd ++ r.wr).map fun t => W.int (lk m t)) ++ [W.int 0] = ((r.rd ++ r.wr).map (lk m) ++ [0]).map W.int := by simp [Function.comp_def]
 rw [e2, Qz (aZ _ _) (by simp)]
 rfl
def cT (q : Th × Int) : W := .tup [tW q.1, .int q.2]
theorem QW (L : Wm) : (L.filterMap fun q => if 0 < q.2 then some (cT q) else none) = (L.filter fun q => decide (0 < q.2)).map cT := by
 induction L with
 | nil => rfl
 | cons q L ih =>
  rw [List.filterMap_cons, List.filter_cons]
  by_cases h : 0 < q.2
  ·simp only [h, if_true, decide_true, List.map_cons, ih]
  ·simp only [h, if_false, decide_false, Bool.false_eq_true, ih]
theorem QX (L : Wm) : bf nM (L.map cT) = some (L.map kv) := gU nM cT kv (fun _ => rfl) L
theorem QY {ph : PH} {tm d : Nat} {nb most : Int} {m : Wm} (h : k8 ph tm nb m most d) (hm : m.length <= 1000) (r : Rw) :
  ∃ p d' ph', eN [.ref tm, r.W] ph = .ok (.ref p) ph' /\ Ex ph ph' /\ k8 ph' p (nb + eB m (r.rd ++ r.wr) + 1) (nextM m (eB m (r.rd ++ r.wr)) r) (max most (nb + eB m (r.rd ++ r.wr) + r.wt)) d' := by
 obtain ⟨ph1, e1, x1⟩ := S1 h r none none none
 generalize fF : eB m (r.rd ++ r.wr) = st at e1
 have h1 := h.ex x1
 unfold eN
 rw [mF]
 simp only [Nat.reduceSub, List.reduceReplicate]
 suffices key : ∃ p d' ph', gb [some (.ref tm), some r.W, none, none, none] ph = Out.ok (Fl.rt (.ref p)) ph' /\ Ex ph ph' /\ k8 ph' p (nb + st + 1) (nextM m st r) (max most (nb + st + r.wt)) d' by
  obtain ⟨p, d', ph', k1, k2, k3⟩ := key
  exact ⟨p, d', ph', by rw [ai k1]; rfl, k2, k3⟩
 unfold gb
 rw [b6 e1]
 simp only [List.set_cons_zero, List.set_cons_succ]
 rw [b6 (Ed _ ph1)]
 simp only [List.set_cons_zero, List.set_cons_succ]
 have x2 : Ex ph1 (ph1 ++ [cM 0 (ph1.length + 1) 0] ++ [PO.aQ []]) := (Ex.one _ _).trans (Ex.one _ _)
 have g2 : (ph1 ++ [cM 0 (ph1.length + 1) 0] ++ [PO.aQ []])[ph1.length]? = some (cM 0 (ph1.length + 1) 0) := (Ex.one _ _).get (aZ _ _)
 generalize ph1 ++ [cM 0 (ph1.length + 1) 0] ++ [PO.aQ []] = ph2 at x2 g2
 have l2 : ph1.length < ph2.length := (List.getElem?_eq_some_iff.mp g2).1
 have h2 := h1.ex x2
 rw [pe (y := .int (nb + st + 1)) (ph1 := ph2) (ph2 := ph2) (by
  try simp only [bB, Nat.reduceSub, List.reduceReplicate, List.set_cons_zero, List.set_cons_succ, if_true, if_false, ↓reduceIte, String.reduceEq, reduceCtorEq, iO]
  rw [ai (fO h2.ob (pL _ _ _))]
  ac_nf) rfl g2 (by simp [eM])]
 rw [VV]
 have x3 := iT x2 (Nat.le_refl _) (cM (nb + st + 1) (ph1.length + 1) 0)
 have g3 : (ph2.set ph1.length (cM (nb + st + 1) (ph1.length + 1) 0))[ph1.length]? = some (cM (nb + st + 1) (ph1.length + 1) 0) := List.getElem?_set_self l2
 have l3 : (ph2.set ph1.length (cM (nb + st + 1) (ph1.length + 1) 0)).length = ph2.length := List.length_set ..
 show ∃ p d' ph', aq _ _ _ (ph2.set ph1.length (cM (nb + st + 1) (ph1.length + 1) 0)) = _ /\ _
 generalize ph2.set ph1.length (cM (nb + st + 1) (ph1.length + 1) 0) = dm at x3 g3 l3
 have h3 := h1.ex x3
 have mx : (if nb + st + r.wt > most then nb + st + r.wt else most) = max most (nb + st + r.wt) := by split <;> omega
 rw [pe (y := .int (max most (nb + st + r.wt))) (ph1 := dm) (ph2 := dm) (by
  try simp only [bB, Nat.reduceSub, List.reduceReplicate, List.set_cons_zero, List.set_cons_succ, if_true, if_false, ↓reduceIte, String.reduceEq, reduceCtorEq, iO]
  rw [ai (fO h3.ob (uf _ _ _))]
  try simp only [bB, Nat.reduceSub, List.reduceReplicate, List.set_cons_zero, List.set_cons_succ, if_true, if_false, ↓reduceIte, String.reduceEq, reduceCtorEq, iO]
  rw [ai (fO h3.ob (pL _ _ _))]
  ac_nf
  rw [ai (xD r dm)]
  ac_nf
  rw [mx]) rfl g3 (by simp [eM])]
 rw [VX]
 generalize max most (nb + st + r.wt) = M
 have x4 := iT x3 (Nat.le_refl _) (cM (nb + st + 1) (ph1.length + 1) M)
 have g4 : (dm.set ph1.length (cM (nb + st + 1) (ph1.length + 1) M))[ph1.length]? = some (cM (nb + st + 1) (ph1.length + 1) M) := List.getElem?_set_self (by omega)
 have l4 : (dm.set ph1.length (cM (nb + st + 1) (ph1.length + 1) M)).length = ph2.length := by rw [List.length_set]; exact l3
 show ∃ p d' ph', aq _ _ _ (dm.set ph1.length (cM (nb + st + 1) (ph1.length + 1) M)) = _ /\ _
 generalize dm.set ph1.length (cM (nb + st + 1) (ph1.length + 1) M) = cK at x4 g4 l4
 have h4 := h1.ex x4
 rw [b6 (w := .ref cK.length) (ph1 := cK ++ [.lst (m.map fun q => cT (q.1, q.2 - st - 1))]) (Pm (m := cC "Timing" "waits" (aa 0)) (i := d) m kv (fun q => cT (q.1, q.2 - st - 1)) (by
  try simp only [bB, Nat.reduceSub, List.reduceReplicate, List.set_cons_zero, List.set_cons_succ, if_true, if_false, ↓reduceIte, String.reduceEq, reduceCtorEq, iO]
  rw [fO h4.ob (ue _ _ _)]) h4.dc (small (by omega)) (fun σ => ∃ a b, σ = [a, b, some (.int st)]) ⟨_, _, rfl⟩ (by
  rintro q hq σ H ⟨a, b, rfl⟩
  refine ⟨[some (tW q.1), some (.int q.2), some (.int st)], rfl, ⟨_, _, rfl⟩, ?_⟩
  ac_nf
  rfl))]
 simp only [List.set_cons_zero, List.set_cons_succ]
 have x5 : Ex cK (cK ++ [PO.lst (m.map fun q => cT (q.1, q.2 - st - 1))]) := Ex.one _ _
 have g5 := aZ cK (PO.lst (m.map fun q => cT (q.1, q.2 - st - 1)))
 generalize cK ++ [PO.lst (m.map fun q => cT (q.1, q.2 - st - 1))] = gI at x5 g5
 have w6 : aB f7 (ab (aa 1) ag) [some (.ref tm), some r.W, some (.int st), some (.ref ph1.length), some (.ref cK.length)] gI = .ok (.ref gI.length) (gI ++ [.lst (r.wr.map tW)]) := by
  ac_nf
  rw [oR]
 obtain ⟨lh, c7, x7⟩ := lP (cap := [none, some 1]) (g := gN 0) (c := df) (e := bK (ab (aa 0) (ab (ae dj (aB lM (ab (aa 1) ag)) (eC (.int (1)))) ag))) r.wr tW (jG w6 (aZ _ _)) (fun ph' x => decide_eq_true (x.get (aZ _ _))) (small (by have := nE r; omega)) (fun t => some (cT (t, r.wt - 1))) (fun σ => ∃ o, σ = [o, some r.W]) ⟨_, rfl⟩ (by
  rintro t ht σ H ⟨o, rfl⟩ hx
  refine ⟨_, rfl, ⟨_, rfl⟩, true, H, rfl, Ex.refl _, .inr ⟨rfl, cT (t, r.wt - 1), H, ?_, Ex.refl _, rfl⟩⟩
  show bK (ab (aa 0) (ab (ae dj (aB lM (ab (aa 1) ag)) (eC (.int (1)))) ag)) [some (tW t), some r.W] H = _
  ac_nf
  rw [ai (xD r H)]
  ac_nf
  rfl)
 rw [nk] at x7
 have FP : Ex gI lh := ((Ex.one _ _).trans (Ex.one _ _)).trans x7
 have g7 : lh[cK.length]? = some (.lst (m.map fun q => cT (q.1, q.2 - st - 1))) := FP.get g5
 have g7' := x7.get (aZ _ _)
 have e8 : (m.map fun q => cT (q.1, q.2 - st - 1)) ++ (r.wr.map fun t => cT (t, r.wt - 1)) = (olds m st ++ news r).map cT := by
  unfold olds news
  rw [List.map_append, List.map_map, List.map_map]
  rfl
 have Y4 : (olds m st ++ news r).length <= 2000 := by
  unfold olds news
  rw [List.length_append, List.length_map, List.length_map]
  have := nE r
  omega
 rw [BX (w := .az) (ph1 := lh.set cK.length (.lst ((olds m st ++ news r).map cT))) (by
  ac_nf
  rw [ai (o9 g5), ai c7, Oh g7 g7' (small (by have := nE r; simp; omega)), e8])]
 have x8 : Ex cK (lh.set cK.length (.lst ((olds m st ++ news r).map cT))) := iT (x5.trans FP) (Nat.le_refl _) _
 have g8 : (lh.set cK.length (PO.lst ((olds m st ++ news r).map cT)))[cK.length]? = some (.lst ((olds m st ++ news r).map cT)) := List.getElem?_set_self (List.getElem?_eq_some_iff.mp g7).1
 generalize lh.set cK.length (PO.lst ((olds m st ++ news r).map cT)) = yX at x8 g8
 have i8 : aa 4 [some (.ref tm), some r.W, some (.int st), some (.ref ph1.length), some (.ref cK.length)] yX = .ok (.ref cK.length) yX := rfl
 obtain ⟨ll, c9, x9⟩ := lP (cap := [none, none]) (g := nY 2 [(gN 0), (gN 1)]) (c := eT (ae jl (aa 1) (eC (.int (0))))) (e := bK (ab (aa 0) (ab (aa 1) ag))) (olds m st ++ news r) cT (jG i8 g8) (fun ph' x => decide_eq_true (x.get g8)) (small (by omega)) (fun q => if 0 < q.2 then some (cT q) else none) (fun σ => ∃ a b, σ = [a, b]) ⟨_, _, rfl⟩ (by
  rintro q hq σ H ⟨a, b, rfl⟩ hx
  refine ⟨[some (tW q.1), some (.int q.2)], rfl, ⟨_, _, rfl⟩, decide (0 < q.2), H, ?_, Ex.refl _, ?_⟩
  ·ac_nf
  ·by_cases h0 : 0 < q.2
   ·refine .inr ⟨decide_eq_true h0, cT q, H, ?_, Ex.refl _, by rw [if_pos h0]⟩
    ac_nf
    rfl
   ·exact .inl ⟨decide_eq_false h0, by rw [if_neg h0]⟩)
 rw [QW] at x9
 have g9 := x9.get (aZ _ _)
 have aaq : ((olds m st ++ news r).filter fun q => decide (0 < q.2)).length <= 2000 := Nat.le_trans (List.length_filter_le _ _) Y4
 have f9 := DE ((olds m st ++ news r).filter fun q => decide (0 < q.2)) [] (small (by simp only [List.length_nil]; omega))
 have FQ : Ex cK (ll ++ [PO.aQ ((nextM m st r).map kv)]) := ((x8.trans (Ex.one _ _)).trans x9).trans (Ex.one _ _)
 have FR := FQ.get g4
 rw [pe (y := .ref ll.length) (ph1 := ll ++ [.aQ ((nextM m st r).map kv)]) (ph2 := ll ++ [.aQ ((nextM m st r).map kv)]) (by
  ac_nf
  rw [ai c9, Qy g9 (QX _) f9]
  rfl) rfl FR (by simp [eM])]
 rw [VW]
 have l10 := (List.getElem?_eq_some_iff.mp FR).1
 refine ⟨ph1.length, ll.length, (ll ++ [PO.aQ ((nextM m st r).map kv)]).set ph1.length (cM (nb + st + 1) ll.length M), rfl, (x1.trans (iT (x4.trans FQ) (Nat.le_refl _) _)), ⟨List.getElem?_set_self l10, ?_⟩⟩
 have ne : ph1.length ≠ ll.length := by
  have := (List.getElem?_eq_some_iff.mp g9).1
  have := x8.len
  omega
 rw [List.getElem?_set_ne ne]
 exact aZ _ _
structure Tm where
 nb : Int
 m : Wm
 most : Int
def Tm.st (t : Tm) (r : Rw) : Int := eB t.m (r.rd ++ r.wr)
def Tm.go (t : Tm) (r : Rw) : Tm := ⟨t.nb + t.st r + 1, nextM t.m (t.st r) r, max t.most (t.nb + t.st r + r.wt)⟩
def Tm.run (t : Tm) (rs : List Rw) : Tm := rs.foldl Tm.go t
def bS : Tm := ⟨0, [], 0⟩
def bt (rs : List Rw) : Int := (bS.run rs).most
structure Tm.ok (t : Tm) (n : Nat) : Prop where
 fn : Fn t.m
 nd : (t.m.map (·.1)).Nodup
 nb : 0 <= t.nb
 mo : 0 <= t.most
 sz : t.m.length <= n
theorem QZ (m : Wm) (t : Th) (w : Int) (h : (m.map (·.1)).Nodup) : ((cQ m t w).map (·.1)).Nodup := by
 unfold cQ
 split
 ·have : (m.map fun p => if p.1 = t then (p.1, w) else p).map (·.1) = m.map (·.1) := by
   rw [List.map_map]
   apply List.map_congr_left
   intro p _
   simp only [Function.comp_apply]
   split <;> rfl
  rw [this]; exact h
 ·rename_i hn
  rw [List.map_append, List.nodup_append]
  refine ⟨h, by simp, ?_⟩
  intro a ha b hb e
  simp at hb
  subst hb
  subst e
  obtain ⟨p, hp, e⟩ := List.mem_map.mp ha
  exact hn (List.any_eq_true.mpr ⟨p, hp, decide_eq_true e⟩)
theorem Bs : ∀ (L m : Wm), (m.map (·.1)).Nodup -> ((i0 m L).map (·.1)).Nodup
 | [], m, h => h
 | p :: L, m, h => Bs L _ (QZ m p.1 p.2 h)
theorem Fn.zu {m : Wm} (hf : Fn m) {r : Rw} {t : Th} (ht : t ∈ r.wr) {w : Int} (hw : (t, w) ∈ m) : w <= eB m (r.rd ++ r.wr) := by
 have h1 := BW (m := m) (ts := r.rd ++ r.wr) (t := t) (by simp [ht])
 rcases gW m t with ⟨w', qN, e⟩ | ⟨hn, _⟩
 ·have := hf t w w' hw qN
  omega
 ·exact absurd hw (hn w)
theorem Fn.L {m : Wm} (hf : Fn m) (r : Rw) : Fn ((olds m (eB m (r.rd ++ r.wr)) ++ news r).filter fun p => decide (0 < p.2)) := by
 intro t w w' h1 h2
 rw [ud] at h1 h2
 obtain ⟨p1, h1⟩ := h1
 obtain ⟨p2, h2⟩ := h2
 rcases h1 with ⟨u, hu, rfl⟩ | ⟨hs, rfl⟩ <;> rcases h2 with ⟨u', uW, rfl⟩ | ⟨qu, rfl⟩
 ·rw [hf t u u' hu uW]
 ·have := hf.zu qu hu; omega
 ·have := hf.zu hs uW; omega
 ·rfl
theorem oY {m : Wm} (hf : Fn m) {r : Rw} {s : Th} {v : Int} : (s, v) ∈ nextM m (eB m (r.rd ++ r.wr)) r ↔ 0 < v /\ ((∃ w, (s, w) ∈ m /\ v = w - eB m (r.rd ++ r.wr) - 1) \/ (s ∈ r.wr /\ v = r.wt - 1)) := by
 unfold nextM
 rw [BV (by simpa using hf.L r), ud]
 simp
theorem Q0 (m : Wm) (st : Int) (r : Rw) : (nextM m st r).length <= m.length + 1 := by
 have h1 := BU ((olds m st ++ news r).filter fun p => decide (0 < p.2)) []
 have h2 := List.length_filter_le (fun p : Th × Int => decide (0 < p.2)) (olds m st ++ news r)
 have h3 : (olds m st ++ news r).length <= m.length + 1 := by
  unfold olds news
  rw [List.length_append, List.length_map, List.length_map]
  have := nE r
  omega
 unfold nextM
 simp only [List.length_nil, Nat.zero_add] at h1
 omega
theorem Tm.u5 (t : Tm) (r : Rw) : 0 <= t.st r := S0 _ _
theorem Tm.ok.go {t : Tm} {n : Nat} (h : t.ok n) (r : Rw) : (t.go r).ok (n + 1) := by
 have := t.u5 r
 have := h.nb
 have := h.mo
 have := xE r
 refine ⟨fun s w w' h1 h2 => ?_, Bs _ _ (by simp), by show 0 <= t.nb + t.st r + 1; omega, by show 0 <= max t.most _; omega, ?_⟩
 ·have e1 := (oY h.fn).mp h1
  have e2 := (oY h.fn).mp h2
  exact h.fn.L r s w w' (ud.mpr e1) (ud.mpr e2)
 ·have := Q0 t.m (t.st r) r
  have := h.sz
  show (nextM t.m (t.st r) r).length <= n + 1
  omega
theorem Tm.ok.mono {t : Tm} {n k : Nat} (h : t.ok n) (hk : n <= k) : t.ok k := ⟨h.fn, h.nd, h.nb, h.mo, Nat.le_trans h.sz hk⟩
theorem qO : bS.ok 0 := ⟨fun _ _ _ h => by simp [bS] at h, by simp [bS], Int.le_refl _, Int.le_refl _, by simp [bS]⟩
theorem Tm.BY (t : Tm) (r : Rw) (rs : List Rw) : t.run (r :: rs) = (t.go r).run rs := rfl
theorem Tm.oN (t : Tm) (rs qs : List Rw) : t.run (rs ++ qs) = (t.run rs).run qs := by unfold Tm.run; rw [List.foldl_append]
theorem Tm.ok.run : ∀ {rs : List Rw} {t : Tm} {n : Nat}, t.ok n -> (t.run rs).ok (n + rs.length)
 | [], t, n, h => h
 | r :: rs, t, n, h => by
  have := Tm.ok.run (rs := rs) (h.go r)
  rw [Tm.BY, List.length_cons, show n + (rs.length + 1) = n + 1 + rs.length by omega]
  exact this
def Sm (a b : Wm) : Prop := ∀ s v, (s, v) ∈ a ↔ (s, v) ∈ b
theorem Sm.lk {a b : Wm} (h : Sm a b) (fb : Fn b) (t : Th) : lk a t = lk b t := by
 rcases gW a t with ⟨w, hw, e⟩ | ⟨hn, e⟩
 ·rcases gW b t with ⟨w', qN, e'⟩ | ⟨j6, e'⟩
  ·rw [e, e', fb t w w' ((h t w).mp hw) qN]
  ·exact absurd ((h t w).mp hw) (j6 w)
 ·rcases gW b t with ⟨w', qN, e'⟩ | ⟨j6, e'⟩
  ·exact absurd ((h t w').mpr qN) (hn w')
  ·rw [e, e']
theorem Sm.st {t u : Tm} (h : Sm t.m u.m) (fu : Fn u.m) (r : Rw) : t.st r = u.st r := by
 unfold Tm.st eB
 congr 2
 apply List.map_congr_left
 intro x _
 exact h.lk fu x
theorem Sm.go {t u : Tm} (h : Sm t.m u.m) (ft : Fn t.m) (fu : Fn u.m) (r : Rw) : Sm (t.go r).m (u.go r).m := by
 intro s v
 have e := h.st fu r
 show (s, v) ∈ nextM t.m (t.st r) r ↔ (s, v) ∈ nextM u.m (u.st r) r
 have e1 : t.st r = eB t.m (r.rd ++ r.wr) := rfl
 have e2 : u.st r = eB u.m (r.rd ++ r.wr) := rfl
 rw [e1, e2, oY ft, oY fu, <- e1, <- e2, e]
 constructor
 ·rintro ⟨h1, ⟨w, hw, q⟩ | q⟩
  ·exact ⟨h1, .inl ⟨w, (h s w).mp hw, q⟩⟩
  ·exact ⟨h1, .inr q⟩
 ·rintro ⟨h1, ⟨w, hw, q⟩ | q⟩
  ·exact ⟨h1, .inl ⟨w, (h s w).mpr hw, q⟩⟩
  ·exact ⟨h1, .inr q⟩
def mf : Tm -> List Rw -> Int
 | _, [] => 0
 | t, r :: rs => max (mf (t.go r) rs) ((t.go r).nb - 1 + r.wt)
theorem CL : ∀ (rs : List Rw) (t : Tm), 0 <= t.most -> (t.run rs).most = max t.most (mf t rs)
 | [], t, h => by show t.most = max t.most 0; omega
 | r :: rs, t, h => by
  have h1 : 0 <= (t.go r).most := by show 0 <= max t.most _; omega
  rw [Tm.BY, CL rs _ h1]
  show max (max t.most (t.nb + t.st r + r.wt)) (mf (t.go r) rs) = max t.most (max (mf (t.go r) rs) (t.nb + t.st r + 1 - 1 + r.wt))
  rw [Int.add_sub_cancel, Int.max_assoc, Int.max_comm (mf (t.go r) rs)]
theorem BZ : ∀ (rs : List Rw) {t u : Tm} {n : Nat}, rs ≠ [] -> t.ok n -> u.ok n -> Sm t.m u.m -> mf t rs - t.nb = mf u rs - u.nb
 | [], t, u, n, h, _, _, _ => absurd rfl h
 | r :: rs, t, u, n, _, ht, hu, hs => by
  have e := hs.st hu.fn r
  have h1 := ht.go r
  have h2 := hu.go r
  have w := xE r
  have s1 := t.u5 r
  have n1 := ht.nb
  have n2 := hu.nb
  have a1 : (t.go r).nb = t.nb + t.st r + 1 := rfl
  have a2 : (u.go r).nb = u.nb + u.st r + 1 := rfl
  show max (mf (t.go r) rs) ((t.go r).nb - 1 + r.wt) - t.nb = max (mf (u.go r) rs) ((u.go r).nb - 1 + r.wt) - u.nb
  cases rs with
  | nil =>
   show max 0 _ - _ = max 0 _ - _
   omega
  | cons q qs =>
   have ih := BZ (q :: qs) (by simp) h1 h2 (hs.go ht.fn hu.fn r)
   omega
theorem joined {t u : Tm} {n : Nat} {rs : List Rw} (hr : rs ≠ []) (ht : t.ok n) (hu : u.ok n) (hs : Sm t.m u.m) : max t.most (mf u rs + t.nb - u.nb) = (t.run rs).most := by
 rw [CL rs t ht.mo]
 have := BZ rs hr ht hu hs
 have e : mf u rs + t.nb - u.nb = mf t rs := by omega
 rw [e]
theorem Q1 {m : Wm} (t : Th) : (∃ v, (t, v) ∈ m /\ bP (m.map kv) (tW t) = some (.int v)) \/ ((∀ v, (t, v) ∉ m) /\ bP (m.map kv) (tW t) = none) := by
 induction m with
 | nil => exact .inr ⟨by simp, rfl⟩
 | cons p m ih =>
  have hd : bP ((p :: m).map kv) (tW t) = if p.1 = t then some (.int p.2) else bP (m.map kv) (tW t) := by
   unfold bP
   rw [List.map_cons, List.find?_cons]
   have : decide ((kv p).1 = tW t) = decide (p.1 = t) := by
    rw [decide_eq_decide]; exact tX
   rw [this]
   by_cases e : p.1 = t
   ·rw [decide_eq_true e, if_pos e]; rfl
   ·rw [decide_eq_false e, if_neg e]
  by_cases e : p.1 = t
  ·rw [if_pos e] at hd
   exact .inl ⟨p.2, by rw [<- e]; simp, hd⟩
  ·rw [if_neg e] at hd
   rcases ih with ⟨v, h1, h2⟩ | ⟨h1, h2⟩
   ·exact .inl ⟨v, by simp [h1], by rw [hd, h2]⟩
   ·refine .inr ⟨fun v hv => ?_, by rw [hd, h2]⟩
    rcases List.mem_cons.mp hv with q | q
    ·exact e (by rw [<- q])
    ·exact h1 v q
theorem XN (ph : PH) (b : Wm) (p : Th × Int) : ∃ c, jo ph (b.map kv) (kv p) = some c /\ (c = true -> p ∈ b) := by
 unfold jo
 show ∃ c, (match bP (b.map kv) (tW p.1) with | none => some false | some y => bO ph (.int p.2) y) = some c /\ _
 rcases Q1 (m := b) p.1 with ⟨v, h1, h2⟩ | ⟨h1, h2⟩
 ·rw [h2]
  refine ⟨decide (p.2 = v), ?_, fun h => ?_⟩
  ·show bO ph (.int p.2) (.int v) = _
   unfold bO dat
   simp only [PyData.eqv]
   rfl
  ·have : p.2 = v := of_decide_eq_true h
   rw [show p = (p.1, p.2) from rfl, this]; exact h1
 ·rw [h2]
  exact ⟨false, rfl, fun h => by cases h⟩
theorem DF (ph : PH) (b : Wm) : ∀ a : Wm, ∃ bs, bf (jo ph (b.map kv)) (a.map kv) = some bs /\ (bs.all id = true -> ∀ p ∈ a, p ∈ b)
 | [] => ⟨[], rfl, fun _ p hp => by simp at hp⟩
 | p :: a => by
  obtain ⟨c, e1, k1⟩ := XN ph b p
  obtain ⟨bs, e2, k2⟩ := DF ph b a
  refine ⟨c :: bs, ?_, fun h q hq => ?_⟩
  ·rw [List.map_cons]; unfold bf; rw [e1, e2]
  ·rw [List.all_cons, Bool.and_eq_true] at h
   rcases List.mem_cons.mp hq with rfl | hq
   ·exact k1 h.1
   ·exact k2 h.2 q hq
theorem CM (m : Wm) : (m.map kv).all (fun p => fv p.1) = true := by
 rw [List.all_eq_true]
 intro p hp
 obtain ⟨q, _, rfl⟩ := List.mem_map.mp hp
 rfl
theorem sub_len {α : Type} : ∀ {a b : List α}, a.Nodup -> (∀ x ∈ a, x ∈ b) -> b.length <= a.length -> ∀ x ∈ b, x ∈ a
 | [], b, _, _, hl, x, hx => by
  have : b = [] := List.length_eq_zero_iff.mp (by simpa using hl)
  rw [this] at hx; exact hx
 | y :: a, b, ha, hs, hl, x, hx => by
  obtain ⟨b1, b2, rfl⟩ := List.append_of_mem (hs y (by simp))
  rw [List.nodup_cons] at ha
  have sub : ∀ z ∈ a, z ∈ b1 ++ b2 := fun z hz => by
   have h := hs z (by simp [hz])
   rw [List.mem_append, List.mem_cons] at h
   rcases h with h | rfl | h
   ·simp [h]
   ·exact absurd hz ha.1
   ·simp [h]
  have := sub_len ha.2 sub (by simp at hl ⊢; omega)
  rw [List.mem_append, List.mem_cons] at hx
  rcases hx with h | rfl | h
  ·exact List.mem_cons_of_mem _ (this x (by simp [h]))
  ·simp
  ·exact List.mem_cons_of_mem _ (this x (by simp [h]))
theorem AE {α β : Type} (f : α -> β) : ∀ {l : List α}, (l.map f).Nodup -> l.Nodup
 | [], _ => by simp
 | x :: l, h => by
  rw [List.map_cons, List.nodup_cons] at h
  rw [List.nodup_cons]
  exact ⟨fun hx => h.1 (List.mem_map_of_mem hx), AE f h.2⟩
theorem S2 (ph : PH) (a b : Wm) (na : (a.map (·.1)).Nodup) : ∃ c, iZ ph (a.map kv) (b.map kv) = some c /\ (c = true -> Sm a b) := by
 unfold iZ
 rw [CM, CM, if_pos (by simp)]
 by_cases hl : (a.map kv).length = (b.map kv).length
 ·rw [if_pos hl]
  obtain ⟨bs, e1, k1⟩ := DF ph b a
  rw [e1]
  refine ⟨bs.all id, rfl, fun h s v => ⟨fun q => k1 h _ q, fun q => ?_⟩⟩
  have nd : a.Nodup := AE _ na
  exact sub_len nd (k1 h) (by simpa using Nat.le_of_eq hl.symm) _ q
 ·rw [if_neg hl]
  exact ⟨false, rfl, fun h => by cases h⟩
def TA (ph : PH) (i : Nat) (t : Tm) : Prop := ∃ d, k8 ph i t.nb t.m t.most d
theorem TA.ex {a b : PH} {i : Nat} {t : Tm} (h : TA a i t) (x : Ex a b) : TA b i t := let ⟨d, h⟩ := h; ⟨d, h.ex x⟩
theorem A4 {ph : PH} {i j : Nat} {o p q : PO} (hi : ph[i]? = some o) (hj : ph[j]? = some p) (h : o ≠ p) : (ph.set j q)[i]? = some o := by
 rw [List.getElem?_set_ne (fun e => by subst e; rw [hi] at hj; exact h (Option.some.inj hj))]; exact hi
theorem TA.set {a : PH} {i L : Nat} {t : Tm} {ws ws' : List W} (h : TA a i t) (hL : a[L]? = some (.lst ws)) : TA (a.set L (.lst ws')) i t := by
 obtain ⟨d, h⟩ := h
 exact ⟨d, A4 h.ob hL (by unfold cM; simp), A4 h.dc hL (by simp)⟩
theorem oZ {ph : PH} {tm n : Nat} {t : Tm} (h : TA ph tm t) (hk : t.ok n) (hn : n <= 1000) (r : Rw) : ∃ p ph', eN [.ref tm, r.W] ph = .ok (.ref p) ph' /\ Ex ph ph' /\ TA ph' p (t.go r) := by
 obtain ⟨d, h⟩ := h
 obtain ⟨p, d', ph', e, x, q⟩ := QY h (Nat.le_trans hk.sz hn) r
 exact ⟨p, ph', e, x, d', q⟩
theorem Ee (σ : aE) (ph : PH) : ∃ ph', jc "Timing" lw σ ph = .ok (.ref ph.length) ph' /\ Ex ph ph' /\ TA ph' ph.length bS := by
 refine ⟨_, Ed σ ph, (Ex.one _ _).trans (Ex.one _ _), ph.length + 1, (Ex.one _ _).get (aZ _ _), ?_⟩
 have := aZ (ph ++ [cM 0 (ph.length + 1) 0]) (PO.aQ [])
 rw [List.length_append, List.length_singleton] at this
 exact this
theorem wa {α : Type} (ws : List α) (w : α) : bL (ws ++ [w]) (-1) = some w := by
 unfold bL cF
 rw [if_neg (by decide), if_pos (by simp; omega)]
 simp
 have : (-1 + ((ws.length : Int) + 1)).toNat = ws.length := by omega
 rw [this]
 simp
theorem dv {ph : PH} {i k : Nat} {ws : List W} {w : W} (h : ph[i]? = some (.lst ws)) (hk : ws[k]? = some w) : lift (aj (.ref i) (.int (k : Int))) ph = .ok w ph :=
 lT h (by rw [wG _ _ (List.getElem?_eq_some_iff.mp hk).1]; exact hk)
def TL (ph : PH) (T : Nat) (rs : List Rw) (k : Nat) : Prop := ∃ ts : List Nat, ph[T]? = some (.lst (ts.map W.ref)) /\ ts.length = k + 1 /\ ∀ (j : Nat) i, ts[j]? = some i -> TA ph i (bS.run (rs.take j))
theorem TL.ex {a b : PH} {T k : Nat} {rs : List Rw} (h : TL a T rs k) (x : Ex a b) : TL b T rs k := by
 obtain ⟨ts, h1, h2, h3⟩ := h
 exact ⟨ts, x.get h1, h2, fun j i e => (h3 j i e).ex x⟩
theorem PJ {ph : PH} {l : Nat} {rs : List Rw} (hl : ph[l]? = some (.lst (rs.map Rw.W))) (hz : rs.length <= 100) : ∃ T ph', vD [.ref l] ph = .ok (.ref T) ph' /\ Ex ph ph' /\ TL ph' T rs rs.length := by
  unfold vD
  rw [k6]
  simp only [Nat.reduceSub, List.reduceReplicate]
  suffices key : ∃ T ph', kB [some (.ref l), none, none] ph = Out.ok (Fl.rt (.ref T)) ph' /\ Ex ph ph' /\ TL ph' T rs rs.length by
    obtain ⟨T, ph', k1, k2⟩ := key
    exact ⟨T, ph', by rw [ai k1]; rfl, k2⟩
  unfold kB
  obtain ⟨ph1, e1, x1, t1⟩ := Ee [some (.ref l), none, none] ph
  rw [b6 (w := .ref ph1.length) (ph1 := ph1 ++ [.lst [.ref ph.length]]) (by
    ac_nf
    rw [ai e1]
    ac_nf
    rw [tU _ _ (small (by simp))])]
  simp only [List.set_cons_zero, List.set_cons_succ]
  generalize hT : ph1.length = T
  have x2 : Ex ph1 (ph1 ++ [PO.lst [.ref ph.length]]) := Ex.one _ _
  have g2 : (ph1 ++ [PO.lst [.ref ph.length]])[T]? = some (.lst ([ph.length].map W.ref)) := by rw [<- hT]; exact aZ _ _
  generalize ph1 ++ [PO.lst [.ref ph.length]] = ph2 at x2 g2
  have fZ := x1.get hl
  have fY := x2.get fZ
  rw [cX]
  obtain ⟨ao, H, e, hI⟩ := jF (chk := fun p => decide (p[l]? = some (.lst (rs.map Rw.W)))) (g := gN 2) (b := fV (cI cL fc (aa 1) (ab (aB eN (ab (ae aj (aa 1) (eU eD (eC (.int (1))))) (ab (aa 2) ag))) ag)))
    (fun k σ H => ∃ o, σ = [some (.ref l), some (.ref T), o] /\ Ex ph1 H /\ TL H T rs k) (rs.map Rw.W) [some (.ref l), some (.ref T), none] ph2
    (fun k σ H hI => by obtain ⟨_, _, x, _⟩ := hI; exact decide_eq_true (x.get fZ))
    (fun k w σ H hk hI => by
      obtain ⟨o, rfl, x, ts, a1, a2, a3⟩ := hI
      rw [List.getElem?_map] at hk
      cases hr : rs[k]? with
      | none => rw [hr] at hk; cases hk
      | some r =>
        rw [hr] at hk
        cases hk
        have zw := (List.getElem?_eq_some_iff.mp hr).1
        have dP : ts ≠ [] := by intro z; rw [z] at a2; simp at a2
        obtain ⟨us, u, hu⟩ : ∃ us u, ts = us ++ [u] := ⟨ts.dropLast, ts.getLast dP, (List.dropLast_concat_getLast dP).symm⟩
        have zx : us.length = k := by rw [hu] at a2; simp at a2; exact a2
        have ta : TA H u (bS.run (rs.take k)) := a3 k u (by rw [hu, <- zx]; simp)
        have ok := qO.run (rs := rs.take k)
        obtain ⟨p, H', e1, x3, t3⟩ := oZ ta ok (by rw [List.length_take]; omega) r
        have u6 := x3.get a1
        refine ⟨[some (.ref l), some (.ref T), some r.W], H, rfl, .nx [some (.ref l), some (.ref T), some r.W], H'.set T (.lst (ts.map W.ref ++ [.ref p])), ?_, _, .inl rfl, some r.W, rfl, iT (x.trans x3) (Nat.le_of_eq hT) _, ts ++ [p], ?_, ?_, ?_⟩
        · ac_nf
          rw [ai (o9 a1), ai (lT a1 (by rw [hu, List.map_append]; exact wa _ _)), ai e1]
          ac_nf
          rw [ai (sC u6 (by rw [List.length_map]; exact Nat.lt_of_lt_of_le (by omega) (small (n := 1000) (by omega))) _)]
          rfl
        · rw [List.getElem?_set_self (List.getElem?_eq_some_iff.mp u6).1, List.map_append]; rfl
        · simp [a2]
        · intro j i hj
          by_cases qp : j < ts.length
          · rw [List.getElem?_append_left qp] at hj
            exact ((a3 j i hj).ex x3).set u6
          · have Y5 := (List.getElem?_eq_some_iff.mp hj).1
            simp at Y5
            have : j = ts.length := by omega
            subst this
            simp at hj
            subst hj
            rw [a2, List.take_add_one, hr]
            have := t3.set (ws' := ts.map W.ref ++ [.ref p]) u6
            rw [Option.toList_some, Tm.oN]
            exact this)
    ⟨none, rfl, x2, [ph.length], g2, rfl, fun j i hj => by
      cases j with
      | zero => simp at hj; subst hj; exact t1.ex x2
      | succ j => simp at hj⟩
  obtain ⟨o, rfl, x, tl⟩ := hI
  rw [List.length_map] at tl
  refine ⟨T, H, ?_, x1.trans x, tl⟩
  have ef : b9 (di (aa 0)) (gN 2) (fV (cI cL fc (aa 1) (ab (aB eN (ab (ae aj (aa 1) (eU eD (eC (.int (1))))) (ab (aa 2) ag))) ag))) [some (.ref l), some (.ref T), none] ph2 = .ok (.nx [some (.ref l), some (.ref T), o]) H := by
    unfold b9
    rw [ai (jG (m := aa 0) (show aa 0 [some (.ref l), some (.ref T), none] ph2 = .ok (.ref l) ph2 from rfl) fY)]
    exact e
  rw [ai ef]
  ac_nf
def ML (ph : PH) (M : Nat) (rs : List Rw) : Prop := ∃ ms : List Int, ph[M]? = some (.lst (ms.map W.int)) /\ ∀ j : Nat, j <= rs.length -> ms[j]? = some (mf (bS.run (rs.take j)) (rs.drop j))
theorem ML.ex {a b : PH} {M : Nat} {rs : List Rw} (h : ML a M rs) (x : Ex a b) : ML b M rs := by
 obtain ⟨ms, h1, h2⟩ := h
 exact ⟨ms, x.get h1, h2⟩
theorem XO {rs : List Rw} {j : Nat} {r : Rw} (h : rs[j]? = some r) : mf (bS.run (rs.take j)) (rs.drop j) = max (mf (bS.run (rs.take (j + 1))) (rs.drop (j + 1))) ((bS.run (rs.take (j + 1))).nb - 1 + r.wt) := by
 obtain ⟨hl, hr⟩ := List.getElem?_eq_some_iff.mp h
 rw [List.drop_eq_getElem_cons hl, hr, List.take_add_one, h, Option.toList_some, Tm.oN]
 rfl
noncomputable def ug : SM := (aq (aC (ae dj (cC "Timing" "next_beat" (ae aj (aa 1) (ae addW (aa 3) (eC (.int (1)))))) (eC (.int (1)))) (gN 4)) (aC (bg fg (ab (ae aj (aa 2) (ae addW (aa 3) (eC (.int (1))))) (ab (ae addW (aa 4) (aB lM (ab (ae aj (aa 0) (aa 3)) ag))) ag))) (iX (aa 2) (aa 3))))
theorem S3 {ph : PH} {l T : Nat} {rs : List Rw} (hl : ph[l]? = some (.lst (rs.map Rw.W))) (hT : TL ph T rs rs.length) (hz : rs.length <= 100) : ∃ M ph', vE [.ref l, .ref T] ph = .ok (.ref M) ph' /\ Ex ph ph' /\ ML ph' M rs := by
  unfold vE
  rw [mF]
  simp only [Nat.reduceSub, List.reduceReplicate]
  suffices key : ∃ M ph', kC [some (.ref l), some (.ref T), none, none, none] ph = Out.ok (Fl.rt (.ref M)) ph' /\ Ex ph ph' /\ ML ph' M rs by
    obtain ⟨M, ph', k1, k2⟩ := key
    exact ⟨M, ph', by rw [ai k1]; rfl, k2⟩
  unfold kC
  obtain ⟨ts, t1, t2, t3⟩ := hT
  obtain ⟨ph1, c1, x1⟩ := lP (cap := [none]) (g := gN 0) (c := df) (e := eC (.int (0))) (σ := [some (.ref l), some (.ref T), none, none, none]) ts W.ref (jG (m := aa 1) (show aa 1 [some (.ref l), some (.ref T), none, none, none] ph = .ok (.ref T) ph from rfl) t1) (fun ph' x => decide_eq_true (x.get t1)) (small (by omega)) (fun _ => some (.int 0)) (fun σ => ∃ o, σ = [o]) ⟨_, rfl⟩ (by
    rintro t ht σ H ⟨o, rfl⟩ hx
    exact ⟨_, rfl, ⟨_, rfl⟩, true, H, rfl, Ex.refl _, .inr ⟨rfl, .int 0, H, rfl, Ex.refl _, rfl⟩⟩)
  rw [nk] at x1
  have e0 : (ts.map fun _ => W.int 0) = (ts.map fun _ => (0 : Int)).map W.int := by rw [List.map_map]; rfl
  rw [e0] at x1
  rw [b6 c1]
  simp only [List.set_cons_zero, List.set_cons_succ]
  generalize hM : ph.length = M at x1
  have g1 : ph1[M]? = some (.lst ((ts.map fun _ => (0 : Int)).map W.int)) := x1.get (by rw [<- hM]; exact aZ _ _)
  have xp : Ex ph ph1 := (Ex.one _ _).trans x1
  rw [cX]
  have n1 := Int.ofNat_lt.mpr (Nat.lt_of_le_of_lt hz (by decide : 100 < 1000))
  obtain ⟨ao, H, e, hI⟩ := jF (chk := fun _ => true) (g := gN 3) (b := ug)
    (fun k σ H => ∃ o o', σ = [some (.ref l), some (.ref T), some (.ref M), o, o'] /\ Ex ph H /\ ∃ ms : List Int, H[M]? = some (.lst (ms.map W.int)) /\ ms.length = rs.length + 1 /\ ∀ j : Nat, j <= rs.length -> rs.length <= j + k -> ms[j]? = some (mf (bS.run (rs.take j)) (rs.drop j)))
    (jd ((rs.length : Int) - 1) ((rs.length : Int) - 1 - -1).toNat) [some (.ref l), some (.ref T), some (.ref M), none, none] ph1
    (fun _ _ _ _ => rfl)
    (fun k w σ H hk hI => by
      obtain ⟨o, o', rfl, x, ms, a1, a2, a3⟩ := hI
      obtain ⟨qP, rfl⟩ := QD hk
      have qP : k < rs.length := by omega
      obtain ⟨p, hp⟩ : ∃ p : Nat, p + k + 1 = rs.length := ⟨rs.length - 1 - k, by omega⟩
      have ep : (rs.length : Int) - 1 - (k : Int) = (p : Int) := by omega
      rw [ep]
      have hpl : p < rs.length := by omega
      obtain ⟨r, hr⟩ : ∃ r, rs[p]? = some r := ⟨rs[p], List.getElem?_eq_getElem hpl⟩
      obtain ⟨ti, lm⟩ : ∃ i, ts[p + 1]? = some i := ⟨ts[p + 1]'(by omega), List.getElem?_eq_getElem _⟩
      obtain ⟨d, ta⟩ := (t3 (p + 1) ti lm).ex x
      have am := a3 (p + 1) (by omega) (by omega)
      have yo : (rs.map Rw.W)[p]? = some r.W := by rw [List.getElem?_map, hr]; rfl
      have qQ : (ts.map W.ref)[p + 1]? = some (.ref ti) := by rw [List.getElem?_map, lm]; rfl
      have zy : (ms.map W.int)[p + 1]? = some (.int (mf (bS.run (rs.take (p + 1))) (rs.drop (p + 1)))) := by rw [List.getElem?_map, am]; rfl
      have c1 : ((p : Int) + 1) = ((p + 1 : Nat) : Int) := by omega
      refine ⟨[some (.ref l), some (.ref T), some (.ref M), some (.int (p : Int)), o'], H, rfl, .nx [some (.ref l), some (.ref T), some (.ref M), some (.int (p : Int)), some (.int ((bS.run (rs.take (p + 1))).nb - 1))], H.set M (.lst ((ms.set p (mf (bS.run (rs.take p)) (rs.drop p))).map W.int)), ?_, _, .inl rfl, _, _, rfl, iT x (Nat.le_of_eq hM) _, ms.set p (mf (bS.run (rs.take p)) (rs.drop p)), ?_, ?_, ?_⟩
      · unfold ug
        try simp only [bB, Nat.reduceSub, List.reduceReplicate, List.set_cons_zero, List.set_cons_succ, if_true, if_false, ↓reduceIte, String.reduceEq, reduceCtorEq, iO]
        rw [c1, ai (dv (x.get t1) qQ), ai (fO ta.ob (pL _ _ _))]
        ac_nf
        rw [ai (dv a1 zy), ai (dv (x.get hl) yo), ai (xD r H)]
        ac_nf
        rw [ai (wm a1 (j := p) (by unfold cF; rw [if_pos (by omega), if_pos (by rw [List.length_map]; omega)]; simp) _)]
        have mx : ∀ a b : Int, (if b > a then b else a) = max a b := fun a b => by split <;> omega
        rw [mx, XO hr, <- List.map_set]
        rfl
      · exact List.getElem?_set_self (List.getElem?_eq_some_iff.mp a1).1
      · rw [List.length_set]; exact a2
      · intro j h1 h2
        by_cases hj : j = p
        · subst hj
          rw [List.getElem?_set_self (by omega)]
        · rw [List.getElem?_set_ne (Ne.symm hj)]
          exact a3 j h1 (by omega))
    ⟨none, none, rfl, xp, _, g1, by simp [t2], fun j h1 h2 => by
      have : j = rs.length := by omega
      subst this
      rw [List.drop_length, List.getElem?_map]
      obtain ⟨i, hi⟩ : ∃ i, ts[rs.length]? = some i := ⟨ts[rs.length]'(by omega), List.getElem?_eq_getElem _⟩
      rw [hi]
      rfl⟩
  obtain ⟨o, o', rfl, x, ms, a1, a2, a3⟩ := hI
  rw [QE] at a3
  refine ⟨M, H, ?_, x, ms, a1, fun j h1 => a3 j h1 (by omega)⟩
  have ef : b9 (qH (ab (ae dj (bg cb (ab (aa 0) ag)) (eC (.int (1)))) (ab (eU eD (eC (.int (1)))) (ab (eU eD (eC (.int (1)))) ag)))) (gN 3) ug [some (.ref l), some (.ref T), some (.ref M), none, none] ph1 = .ok (.nx [some (.ref l), some (.ref T), some (.ref M), o, o']) H := by
    unfold b9
    rw [ai (VM (i := (rs.length : Int) - 1) (j := -1) (ph' := ph1) (by
      ac_nf
      rw [ai (gk (xp.get hl)), List.length_map]
      ac_nf) (by omega) (by omega) (by decide) (by decide))]
    exact e
  unfold ug at ef
  rw [ai ef]
  ac_nf
theorem VZ {ph : PH} {l T M tm p n : Nat} {rs : List Rw} {t : Tm} (hl : ph[l]? = some (.lst (rs.map Rw.W))) (hT : TL ph T rs rs.length) (hM : ML ph M rs) (ht : TA ph tm t) (hk : t.ok n) (hp : p <= rs.length) (hz : rs.length <= 100) (hn : n <= 200) :
    ∃ ph', rR [.ref l, .ref T, .ref M, .ref tm, .int (p : Int)] ph = .ok (.int (t.run (rs.drop p)).most) ph' /\ Ex ph ph' := by
  unfold rR
  rw [EQ]
  simp only [Nat.reduceSub, List.reduceReplicate]
  suffices key : ∃ ph', kD [some (.ref l), some (.ref T), some (.ref M), some (.ref tm), some (.int (p : Int))] ph = Out.ok (Fl.rt (.int (t.run (rs.drop p)).most)) ph' /\ Ex ph ph' by
    obtain ⟨ph', k1, k2⟩ := key
    exact ⟨ph', by rw [ai k1]; rfl, k2⟩
  unfold kD
  obtain ⟨ts, t1, t2, t3⟩ := hT
  obtain ⟨ms, m1, m2⟩ := hM
  obtain ⟨ao, H, e, hD⟩ := Bn (t := cE (eT (ae gK (aa 4) (bg cb (ab (aa 0) ag)))) (eT (ae mQ (cC "Timing" "waits" (aa 3)) (cC "Timing" "waits" (ae aj (aa 1) (aa 4))))))
    (b := aq (aC (aB eN (ab (aa 3) (ab (ae aj (aa 0) (aa 4)) ag))) (gN 3)) (aC (ae uB (aa 4) (eC (.int (1)))) (gN 4)))
    (fun k σ H => ∃ (cU q n' : Nat) (t' : Tm), σ = [some (.ref l), some (.ref T), some (.ref M), some (.ref cU), some (.int (q : Int))] /\ Ex ph H /\ TA H cU t' /\ t'.ok n' /\ q <= rs.length /\ q + k = rs.length /\ n' + k <= 300 /\ (t'.run (rs.drop q)).most = (t.run (rs.drop p)).most)
    (fun σ H => ∃ (cU q n' : Nat) (t' : Tm), σ = [some (.ref l), some (.ref T), some (.ref M), some (.ref cU), some (.int (q : Int))] /\ Ex ph H /\ TA H cU t' /\ t'.ok n' /\ q <= rs.length /\ (t'.run (rs.drop q)).most = (t.run (rs.drop p)).most /\ (q < rs.length -> Sm t'.m (bS.run (rs.take q)).m))
    (by
      rintro k σ H ⟨cU, q, n', t', rfl, x, ta, ok, hq, hk, j6, hm⟩
      by_cases oz : q < rs.length
      · obtain ⟨ti, lm⟩ : ∃ i, ts[q]? = some i := ⟨ts[q]'(by omega), List.getElem?_eq_getElem _⟩
        obtain ⟨d, td⟩ := ta
        obtain ⟨d2, u7⟩ := (t3 q ti lm).ex x
        have qQ : (ts.map W.ref)[q]? = some (.ref ti) := by rw [List.getElem?_map, lm]; rfl
        obtain ⟨c, ec, kc⟩ := S2 H t'.m (bS.run (rs.take q)).m ok.nd
        have et : cE (eT (ae gK (aa 4) (bg cb (ab (aa 0) ag)))) (eT (ae mQ (cC "Timing" "waits" (aa 3)) (cC "Timing" "waits" (ae aj (aa 1) (aa 4))))) [some (.ref l), some (.ref T), some (.ref M), some (.ref cU), some (.int (q : Int))] H = .ok (!c) H := by
          ac_nf
          rw [ai (gk (x.get hl)), List.length_map]
          try simp only [bB, Nat.reduceSub, List.reduceReplicate, List.set_cons_zero, List.set_cons_succ, if_true, if_false, ↓reduceIte, String.reduceEq, reduceCtorEq, decide_eq_true (Int.ofNat_lt.mpr oz), iO]
          rw [ai (fO td.ob (ue _ _ _))]
          ac_nf
          rw [ai (dv (x.get t1) qQ), ai (fO u7.ob (ue _ _ _)), ai (SQ td.dc u7.dc ec)]
          ac_nf
        cases hc : c with
        | true =>
          rw [hc] at et
          exact .inl ⟨H, et, cU, q, n', t', rfl, x, ⟨d, td⟩, ok, hq, hm, fun _ => kc hc⟩
        | false =>
          rw [hc] at et
          obtain ⟨r, hr⟩ : ∃ r, rs[q]? = some r := ⟨rs[q], List.getElem?_eq_getElem oz⟩
          have yo : (rs.map Rw.W)[q]? = some r.W := by rw [List.getElem?_map, hr]; rfl
          obtain ⟨p2, H2, e2, x2, t2'⟩ := oZ ⟨d, td⟩ ok (by omega) r
          refine .inr ⟨H, et, .nx [some (.ref l), some (.ref T), some (.ref M), some (.ref p2), some (.int ((q + 1 : Nat) : Int))], H2, ?_, _, .inl rfl, k - 1, by omega, p2, q + 1, n' + 1, t'.go r, rfl, x.trans x2, t2', ok.go r, by omega, by omega, by omega, ?_⟩
          · ac_nf
            rw [ai (dv (x.get hl) yo)]
            rw [ai e2]
            try simp only [bB, Nat.reduceSub, List.reduceReplicate, List.set_cons_zero, List.set_cons_succ, if_true, if_false, ↓reduceIte, String.reduceEq, reduceCtorEq, VL]
            rfl
          · rw [<- hm, List.drop_eq_getElem_cons oz, (List.getElem?_eq_some_iff.mp hr).2]
            rfl
      · refine .inl ⟨H, ?_, cU, q, n', t', rfl, x, ta, ok, hq, hm, fun z => absurd z oz⟩
        ac_nf
        rw [ai (gk (x.get hl)), List.length_map]
        have : ¬ ((q : Int) < (rs.length : Int)) := by omega
        try simp only [bB, Nat.reduceSub, List.reduceReplicate, List.set_cons_zero, List.set_cons_succ, if_true, if_false, ↓reduceIte, String.reduceEq, reduceCtorEq, decide_eq_false this])
    (rs.length - p) [some (.ref l), some (.ref T), some (.ref M), some (.ref tm), some (.int (p : Int))] ph ⟨tm, p, n, t, rfl, Ex.refl _, ht, hk, hp, by omega, by omega, rfl⟩
  obtain ⟨cU, q, n', t', rfl, x, ta, ok, hq, hm, hs⟩ := hD
  rw [cX, ai e]
  refine ⟨H, ?_, x⟩
  obtain ⟨d, td⟩ := ta
  ac_nf
  rw [ai (gk (x.get hl)), List.length_map]
  ac_nf
  by_cases oz : q = rs.length
  · subst oz
    try simp only [bB, Nat.reduceSub, List.reduceReplicate, List.set_cons_zero, List.set_cons_succ, if_true, if_false, ↓reduceIte, String.reduceEq, reduceCtorEq, decide_eq_true (rfl : (rs.length : Int) = (rs.length : Int)), iO]
    rw [ai (fO td.ob (uf _ _ _)), <- hm, List.drop_length]
    rfl
  · have cS : q < rs.length := by omega
    have dP : ¬ ((q : Int) = (rs.length : Int)) := by omega
    obtain ⟨ti, lm⟩ : ∃ i, ts[q]? = some i := ⟨ts[q]'(by omega), List.getElem?_eq_getElem _⟩
    obtain ⟨d2, u7⟩ := (t3 q ti lm).ex x
    have qQ : (ts.map W.ref)[q]? = some (.ref ti) := by rw [List.getElem?_map, lm]; rfl
    have zy : (ms.map W.int)[q]? = some (.int (mf (bS.run (rs.take q)) (rs.drop q))) := by rw [List.getElem?_map, m2 q hq]; rfl
    try simp only [bB, Nat.reduceSub, List.reduceReplicate, List.set_cons_zero, List.set_cons_succ, if_true, if_false, ↓reduceIte, String.reduceEq, reduceCtorEq, decide_eq_false dP, iO]
    rw [ai (fO td.ob (uf _ _ _))]
    ac_nf
    rw [ai (dv (x.get m1) zy), ai (fO td.ob (pL _ _ _))]
    ac_nf
    rw [ai (dv (x.get t1) qQ), ai (fO u7.ob (pL _ _ _))]
    ac_nf
    have mx : ∀ a b : Int, (if b > a then b else a) = max a b := fun a b => by split <;> omega
    have hj := joined (t := t') (u := bS.run (rs.take q)) (n := n' + 300) (rs := rs.drop q) (by intro z; have := congrArg List.length z; simp at this; omega) (ok.mono (by omega)) ((qO.run (rs := rs.take q)).mono (by rw [List.length_take]; omega)) (hs cS)
    rw [mx, hj, hm]
def Rw.out : Rw -> Bool
 | .take _ => true
 | .tell _ => true
 | .turn => true
 | .dd _ .part _ _ => true
 | _ => false
theorem Ef (r : Rw) (ph : PH) : vF [r.W] ph = .ok (.bl r.out) ph := by
 cases r with
 | dd d w a b => cases w <;> with_unfolding_all rfl
 | _ => with_unfolding_all rfl
def tD (t : Th) : PyData := .tuple [.str (tS t.1), .int t.2]
theorem DG (a b : Th) : PyData.eqv (tD a) (tD b) = decide (a = b) := by
 unfold tD
 rw [Dt, t8, pH]
 obtain ⟨a1, a2⟩ := a
 obtain ⟨b1, b2⟩ := b
 have : (tS a1 = tS b1) ↔ a1 = b1 := ⟨DD, fun e => by rw [e]⟩
 simp [this]
theorem DH (ph : PH) (t : Th) : dat ph 40 (tW t) = some (tD t) := by
 have h : PyData.strOk (tS t.1) = true := by unfold tS; split <;> exact so _
 unfold tW dat
 simp only [bf, dat, h, if_true, Option.map_some]
 rfl
theorem XQ {ph : PH} {i : Nat} {us : List Th} (h : ph[i]? = some (.lst (us.map tW))) (t : Th) : lift (cD (tW t) (.ref i)) ph = .ok (.bl (decide (t ∈ us))) ph := by
 rw [CB h (gU (dat ph 40) tW tD (fun t => DH ph t) us) (DH ph t)]
 congr 2
 induction us with
 | nil => simp
 | cons u us ih =>
  have ih' : ((us.map tD).any fun e => PyData.eqv e (tD t)) = decide (t ∈ us) := by
   clear h ih
   induction us with
   | nil => simp
   | cons v us ih => rw [List.map_cons, List.any_cons, ih, DG]; simp [eq_comm]
  rw [List.map_cons, List.any_cons, ih', DG]
  simp [eq_comm]
def ez (ts us : List Th) : Bool := ts.any fun t => decide (t ∈ us)
theorem CN {ph : PH} {a b : Nat} {ts us : List Th} (ha : ph[a]? = some (.lst (ts.map tW))) (hb : ph[b]? = some (.lst (us.map tW))) (hz : ts.length <= 1000) : ∃ ph', nr [.ref a, .ref b] ph = .ok (.bl (ez ts us)) ph' /\ Ex ph ph' := by
 unfold nr kO
 obtain ⟨ph1, c1, x1⟩ := lP (cap := [none, some 1]) (g := gN 0) (c := df) (e := ae cD (aa 0) (aa 1)) (σ := [some (.ref a), some (.ref b)]) ts tW (jG (m := aa 0) (show aa 0 [some (.ref a), some (.ref b)] ph = .ok (.ref a) ph from rfl) ha) (fun ph' x => decide_eq_true (x.get ha)) (small (by omega)) (fun t => some (.bl (decide (t ∈ us)))) (fun σ => ∃ o, σ = [o, some (.ref b)]) ⟨_, rfl⟩ (by
  rintro t ht σ H ⟨o, rfl⟩ hx
  refine ⟨_, rfl, ⟨_, rfl⟩, true, H, rfl, Ex.refl _, .inr ⟨rfl, .bl (decide (t ∈ us)), H, ?_, Ex.refl _, rfl⟩⟩
  show ae cD (aa 0) (aa 1) [some (tW t), some (.ref b)] H = _
  ac_nf
  rw [XQ (hx.get hb)])
 rw [nk] at x1
 have e0 : (ts.map fun t => W.bl (decide (t ∈ us))) = (ts.map fun t => decide (t ∈ us)).map W.bl := by rw [List.map_map]; rfl
 rw [e0] at x1
 refine ⟨ph1, ?_, (Ex.one _ _).trans x1⟩
 rw [mF]
 simp only [Nat.reduceSub, List.reduceReplicate]
 ac_nf
 rw [ai c1]
 rw [ai (SE (x1.get (aZ _ _)))]
 ac_nf
 unfold ez
 rw [List.any_map]
 rfl
def bound (x y : Rw) : Bool := (x.out && y.out) || (ez x.wr (y.rd ++ y.wr) || ez y.wr x.rd)
theorem DI (r : Rw) : r.rd.length <= 2 := by cases r <;> simp [Rw.rd]
theorem S4 (x y : Rw) (ph : PH) : ∃ ph', oJ [x.W, y.W] ph = .ok (.bl (bound x y)) ph' /\ Ex ph ph' := by
 unfold oJ lG bound
 ac_nf
 rw [ai (Ef x ph)]
 have rest : ∃ ph', (ap (f7 [x.W]) fun a => ap (kq [y.W]) fun x_1 => ap (f7 [y.W]) fun y_1 => ap (lift (addW x_1 y_1)) fun w => ap (nr [a, w]) fun w_1 => ap (lift (mD w_1)) fun c => if c = true then aw (.bl true) else ap (f7 [y.W]) fun a => ap (kq [x.W]) fun a_1 => ap (nr [a, a_1]) fun w => aw w) ph = .ok (.bl (ez x.wr (y.rd ++ y.wr) || ez y.wr x.rd)) ph' /\ Ex ph ph' := by
  rw [ai (oR x ph), ai (xC y _), ai (oR y _)]
  have lx := nE x
  have ly := nE y
  have lr := DI y
  generalize h1 : ph ++ [PO.lst (x.wr.map tW)] = p1
  have x1 : Ex ph p1 := by rw [<- h1]; exact Ex.one _ _
  have g1 : p1[ph.length]? = some (.lst (x.wr.map tW)) := by rw [<- h1]; exact aZ _ _
  generalize h2 : p1 ++ [PO.lst (y.rd.map tW)] = p2
  have x2 : Ex p1 p2 := by rw [<- h2]; exact Ex.one _ _
  have g2 : p2[p1.length]? = some (.lst (y.rd.map tW)) := by rw [<- h2]; exact aZ _ _
  generalize h3 : p2 ++ [PO.lst (y.wr.map tW)] = p3
  have x3 : Ex p2 p3 := by rw [<- h3]; exact Ex.one _ _
  have g3 : p3[p2.length]? = some (.lst (y.wr.map tW)) := by rw [<- h3]; exact aZ _ _
  rw [ai (lS (x3.get g2) g3 (small (by simp; omega))), <- List.map_append]
  generalize h4 : p3 ++ [PO.lst ((y.rd ++ y.wr).map tW)] = p4
  have x4 : Ex p3 p4 := by rw [<- h4]; exact Ex.one _ _
  have g4 : p4[p3.length]? = some (.lst ((y.rd ++ y.wr).map tW)) := by rw [<- h4]; exact aZ _ _
  obtain ⟨p5, e5, x5⟩ := CN (x4.get (x3.get (x2.get g1))) g4 (by omega)
  rw [ai e5]
  ac_nf
  have xa : Ex ph p5 := (((x1.trans x2).trans x3).trans x4).trans x5
  cases hs : ez x.wr (y.rd ++ y.wr) with
  | true => exact ⟨p5, rfl, xa⟩
  | false =>
   simp only [Bool.false_eq_true, if_false, Bool.false_or]
   rw [ai (oR y p5), ai (xC x _)]
   obtain ⟨p6, e6, x6⟩ := CN (ph := p5 ++ [.lst (y.wr.map tW)] ++ [.lst (x.rd.map tW)]) ((Ex.one _ _).get (aZ _ _)) (aZ _ _) (by omega)
   rw [ai e6]
   exact ⟨p6, rfl, xa.trans (((Ex.one _ _).trans (Ex.one _ _)).trans x6)⟩
 cases hx : x.out with
 | false =>
  ac_nf
  exact rest
 | true =>
  ac_nf
  rw [ai (Ef y ph)]
  ac_nf
  cases hy : y.out with
  | true => exact ⟨ph, rfl, Ex.refl _⟩
  | false => exact rest
inductive Sw (a : List Rw) : List Rw -> Prop where
 | refl : Sw a a
 | step {p q : List Rw} {x y : Rw} : Sw a (p ++ x :: y :: q) -> bound x y = false -> Sw a (p ++ y :: x :: q)
theorem Sw.trans {a b c : List Rw} (h : Sw a b) (k : Sw b c) : Sw a c := by
 induction k with
 | refl => exact h
 | step _ hb ih => exact .step ih hb
theorem Sw.len {a b : List Rw} (h : Sw a b) : b.length = a.length := by
 induction h with
 | refl => rfl
 | step _ _ ih => rw [<- ih]; simp
def k9 (rs : List Rw) : Prop := ∀ (p q : List Rw) (x y : Rw), rs = p ++ x :: y :: q -> bound x y = false -> bt rs <= bt (p ++ y :: x :: q)
theorem yp {rs : List Rw} {k : Nat} (h : k + 1 < rs.length) : rs = rs.take k ++ rs[k] :: rs[k + 1] :: rs.drop (k + 2) := by
 rw [show rs[k] :: rs[k + 1] :: rs.drop (k + 2) = rs.drop k by rw [List.drop_eq_getElem_cons (show k < rs.length by omega), List.drop_eq_getElem_cons h], List.take_append_drop]
noncomputable def p9 : SM := (aq (aC (ae aj (aa 3) (aa 6)) (gN 7)) (aq (aC (ae aj (aa 3) (ae addW (aa 6) (eC (.int (1))))) (gN 8)) (aq (aC (aB eN (ab (aB eN (ab (aa 5) (ab (aa 8) ag))) (ab (aa 7) ag))) (gN 9)) (aq (aC (aB rR (ab (aa 0) (ab (aa 1) (ab (aa 2) (ab (aa 9) (ab (ae addW (aa 6) (eC (.int (2)))) ag)))))) (gN 10)) (aq (aU (cE (eT (ae gK (aa 10) (aa 4))) (eA (ck (aB oJ (ab (aa 7) (ab (aa 8) ag)))))) (aq (aC (aa 8) (iX (aa 3) (aa 6))) (aq (aC (aa 7) (iX (aa 3) (ae addW (aa 6) (eC (.int (1)))))) (aC (aa 10) (gN 4)))) aX) (aC (aB eN (ab (aa 5) (ab (ae aj (aa 3) (aa 6)) ag))) (gN 5)))))))
abbrev jq (l T M D : Nat) (f : Int) (tm : Nat) (a b c d e : Option W) : aE := [some (.ref l), some (.ref T), some (.ref M), some (.ref D), some (.int f), some (.ref tm), a, b, c, d, e]
structure At (ph H : PH) (rs : List Rw) (D tm k : Nat) (f : Int) (tl : List Rw) : Prop where
 ex : Ex ph H
 u9 : H[D]? = some (.lst (tl.map Rw.W))
 ln : tl.length = rs.length
 dr : tl.drop (k + 1) = rs.drop (k + 1)
 ta : TA H tm (bS.run (tl.take k))
 fe : f = bt tl
 sw : Sw rs tl
 best : (tl = rs /\ ∀ j (h : j + 1 < rs.length), j < k -> bound rs[j] rs[j + 1] = false -> bt rs <= bt (rs.take j ++ rs[j + 1] :: rs[j] :: rs.drop (j + 2))) \/ bt tl < bt rs
theorem S6 (p q : List Rw) (x y : Rw) : ((p ++ x :: y :: q).set p.length y).set (p.length + 1) x = p ++ y :: x :: q := by
 rw [List.set_append_right _ _ (Nat.le_refl _), List.set_append_right _ _ (Nat.le_add_right _ 1), Nat.sub_self, Nat.add_sub_cancel_left]
 rfl
theorem S8 {tl : List Rw} {k : Nat} (h : k + 1 < tl.length) : (tl.set k tl[k + 1]).set (k + 1) tl[k] = tl.take k ++ tl[k + 1] :: tl[k] :: tl.drop (k + 2) := by
 have e := S6 (tl.take k) (tl.drop (k + 2)) tl[k] tl[k + 1]
 rw [<- yp h, List.length_take, Nat.min_eq_left (Nat.le_of_lt (Nat.lt_of_succ_lt h))] at e
 exact e
theorem Q2 {ph H : PH} {l T M D tm k : Nat} {rs : List Rw} {f : Int} {tl : List Rw} (hl : ph[l]? = some (.lst (rs.map Rw.W))) (hT : TL ph T rs rs.length) (hM : ML ph M rs) (hz : rs.length <= 50) (hD : ph.length <= D) (hk : k + 1 < rs.length) (h : At ph H rs D tm k f tl) (a b c d : Option W) :
  ∃ f' cU a' b' c' d' H' c5, p9 (jq l T M D f tm (some (.int (k : Int))) a b c d) H = .ok (.nx (jq l T M D f' cU (some (.int (k : Int))) a' b' c' d')) H' /\ At ph H' rs D cU (k + 1) f' c5 := by
 have k1 : k < tl.length := by have := h.ln; omega
 have k2 : k + 1 < tl.length := by have := h.ln; omega
 have r1 : (tl.map Rw.W)[k]? = some tl[k].W := by rw [List.getElem?_map, List.getElem?_eq_getElem k1]; rfl
 have r2 : (tl.map Rw.W)[k + 1]? = some tl[k + 1].W := by rw [List.getElem?_map, List.getElem?_eq_getElem k2]; rfl
 have c1 : ((k : Int) + 1) = ((k + 1 : Nat) : Int) := by omega
 have c2 : ((k : Int) + 2) = ((k + 2 : Nat) : Int) := by omega
 generalize hx : tl[k] = x at r1
 generalize hy : tl[k + 1] = y at r2
 have ok := qO.run (rs := tl.take k)
 have okl : (tl.take k).length <= 50 := by rw [List.length_take]; have := h.ln; omega
 obtain ⟨p1, H1, e1, x1, t1⟩ := oZ h.ta ok (by omega) y
 obtain ⟨p2, H2, e2, x2, t2⟩ := oZ t1 (ok.go y) (by omega) x
 have qR := (h.ex.trans x1).trans x2
 obtain ⟨H3, e3, x3⟩ := VZ (p := k + 2) (qR.get hl) (hT.ex qR) (hM.ex qR) t2 ((ok.go y).go x) (by omega) (by omega) (by omega)
 have d2 : tl.drop (k + 2) = rs.drop (k + 2) := by
  have := congrArg (List.drop 1) h.dr
  rwa [List.drop_drop, List.drop_drop] at this
 have need : (((((bS.run (tl.take k)).go y).go x).run (rs.drop (k + 2))).most) = bt (tl.take k ++ y :: x :: tl.drop (k + 2)) := by
  unfold bt
  rw [d2, Tm.oN]
  rfl
 rw [need] at e3
 generalize hn : bt (tl.take k ++ y :: x :: tl.drop (k + 2)) = nd at e3
 have mS : Ex H H3 := (x1.trans x2).trans x3
 have g3 := mS.get h.u9
 have dr1 : tl.drop (k + 1 + 1) = rs.drop (k + 1 + 1) := d2
 have fin : ∀ (g : Int) (c5 : List Rw) (H4 : PH), Ex ph H4 -> TA H4 tm (bS.run (tl.take k)) -> H4[D]? = some (.lst (c5.map Rw.W)) -> c5.length = rs.length -> c5.take k = tl.take k -> c5.drop (k + 2) = rs.drop (k + 2) -> g = bt c5 -> Sw rs c5 →
   ((c5 = rs /\ ∀ j (h : j + 1 < rs.length), j < k + 1 -> bound rs[j] rs[j + 1] = false -> bt rs <= bt (rs.take j ++ rs[j + 1] :: rs[j] :: rs.drop (j + 2))) \/ bt c5 < bt rs) →
   ∃ f' cU a' b' c' d' H' Y6, aC (aB eN (ab (aa 5) (ab (ae aj (aa 3) (aa 6)) ag))) (gN 5) (jq l T M D g tm (some (.int (k : Int))) (some x.W) (some y.W) (some (.ref p2)) (some (.int nd))) H4 = .ok (.nx (jq l T M D f' cU (some (.int (k : Int))) a' b' c' d')) H' /\ At ph H' rs D cU (k + 1) f' Y6 := by
  intro g c5 H4 hx4 ta4 g4 ln tk dr fe sw best
  have kl : k < c5.length := by omega
  have r4 : (c5.map Rw.W)[k]? = some c5[k].W := by rw [List.getElem?_map, List.getElem?_eq_getElem kl]; rfl
  obtain ⟨p5, H5, e5, x5, t5⟩ := oZ ta4 ok (by omega) c5[k]
  refine ⟨g, p5, some x.W, some y.W, some (.ref p2), some (.int nd), H5, c5, ?_, ⟨hx4.trans x5, x5.get g4, ln, dr, ?_, fe, sw, best⟩⟩
  ·ac_nf
   rw [ai (dv g4 r4), ai e5]
   ac_nf
  ·rw [List.take_add_one, List.getElem?_eq_getElem kl, Option.toList_some, Tm.oN, tk]
   exact t5
 obtain ⟨H4, e4, x4⟩ := S4 x y H3
 have key : ∃ ao H', aU (cE (eT (ae gK (aa 10) (aa 4))) (eA (ck (aB oJ (ab (aa 7) (ab (aa 8) ag)))))) (aq (aC (aa 8) (iX (aa 3) (aa 6))) (aq (aC (aa 7) (iX (aa 3) (ae addW (aa 6) (eC (.int (1)))))) (aC (aa 10) (gN 4)))) aX (jq l T M D f tm (some (.int (k : Int))) (some x.W) (some y.W) (some (.ref p2)) (some (.int nd))) H3 = .ok (.nx ao) H' /\
   ∃ f' cU a' b' c' d' d7 c5, aC (aB eN (ab (aa 5) (ab (ae aj (aa 3) (aa 6)) ag))) (gN 5) ao H' = .ok (.nx (jq l T M D f' cU (some (.int (k : Int))) a' b' c' d')) d7 /\ At ph d7 rs D cU (k + 1) f' c5 := by
  by_cases cS : nd < f
  ·cases hb : bound x y with
   | true =>
    rw [hb] at e4
    refine ⟨_, H4, ?_, fin f tl H4 (h.ex.trans (mS.trans x4)) (h.ta.ex (mS.trans x4)) (x4.get g3) h.ln rfl d2 h.fe h.sw (h.best.imp_left fun ⟨q1, q2⟩ => ⟨q1, fun j hj qS qT => ?_⟩)⟩
    ·try simp only [bB, Nat.reduceSub, List.reduceReplicate, List.set_cons_zero, List.set_cons_succ, if_true, if_false, ↓reduceIte, String.reduceEq, reduceCtorEq, decide_eq_true cS]
     rw [ai e4]
     ac_nf
    ·by_cases yq : j = k
     ·subst yq
      subst q1
      rw [hx, hy, hb] at qT
      cases qT
     ·exact q2 j hj (by omega) qT
   | false =>
    rw [hb] at e4
    have g4 := x4.get g3
    have l4 := (List.getElem?_eq_some_iff.mp g4).1
    have i1 : cF (tl.map Rw.W).length (k : Int) = some k := by unfold cF; rw [if_pos (by omega), if_pos (by rw [List.length_map]; omega)]; simp
    have i2 : cF ((tl.map Rw.W).set k y.W).length ((k + 1 : Nat) : Int) = some (k + 1) := by unfold cF; rw [List.length_set, if_pos (by omega), if_pos (by rw [List.length_map]; omega)]; simp
    have g5 : (H4.set D (.lst ((tl.map Rw.W).set k y.W)))[D]? = some (.lst ((tl.map Rw.W).set k y.W)) := List.getElem?_set_self l4
    have FT : ((tl.map Rw.W).set k y.W).set (k + 1) x.W = (tl.take k ++ y :: x :: tl.drop (k + 2)).map Rw.W := by
     have e := S8 k2
     rw [hx, hy] at e
     rw [<- e, List.map_set, List.map_set]
    have ct := yp k2
    rw [hx, hy] at ct
    refine ⟨_, (H4.set D (.lst ((tl.map Rw.W).set k y.W))).set D (.lst (((tl.map Rw.W).set k y.W).set (k + 1) x.W)), ?_, fin nd (tl.take k ++ y :: x :: tl.drop (k + 2)) _ ?_ ?_ ?_ ?_ ?_ ?_ hn.symm ?_ ?_⟩
    ·try simp only [bB, Nat.reduceSub, List.reduceReplicate, List.set_cons_zero, List.set_cons_succ, if_true, if_false, ↓reduceIte, String.reduceEq, reduceCtorEq, decide_eq_true cS]
     rw [ai e4]
     ac_nf
     rw [ai (wm g4 i1 _), c1, ai (wm g5 i2 _)]
     rfl
    ·exact iT (iT (h.ex.trans (mS.trans x4)) hD _) hD _
    ·exact ((h.ta.ex (mS.trans x4)).set g4).set g5
    ·rw [FT]; exact List.getElem?_set_self (by rw [List.length_set]; exact l4)
    ·rw [<- h.ln]
     have := congrArg List.length ct
     simp at this ⊢
     omega
    ·rw [List.take_append_of_le_length (by rw [List.length_take]; omega), List.take_take, Nat.min_self]
    ·rw [<- d2, List.drop_append, List.length_take, Nat.min_eq_left (by omega), show k + 2 - k = 2 by omega, List.drop_eq_nil_of_le (by rw [List.length_take]; omega)]
     rfl
    ·exact .step (by rw [<- ct]; exact h.sw) hb
    ·right
     rw [hn]
     have := h.fe
     rcases h.best with ⟨q1, _⟩ | q
     ·rw [<- q1]; omega
     ·omega
  ·refine ⟨_, H3, ?_, fin f tl H3 (h.ex.trans mS) (h.ta.ex mS) g3 h.ln rfl d2 h.fe h.sw (h.best.imp_left fun ⟨q1, q2⟩ => ⟨q1, fun j hj qS qT => ?_⟩)⟩
   ·try simp only [bB, Nat.reduceSub, List.reduceReplicate, List.set_cons_zero, List.set_cons_succ, if_true, if_false, ↓reduceIte, String.reduceEq, reduceCtorEq, decide_eq_false cS]
   ·by_cases yq : j = k
    ·subst yq
     subst q1
     have := h.fe
     rw [<- hx, <- hy] at hn
     rw [hn]
     omega
    ·exact q2 j hj (by omega) qT
 obtain ⟨ao, H', e5, f', cU, a', b', c', d', d7, c5, e6, at6⟩ := key
 refine ⟨f', cU, a', b', c', d', d7, c5, ?_, at6⟩
 unfold p9
 rw [b6 (w := x.W) (ph1 := H) (by exact dv h.u9 r1)]
 rw [b6 (w := y.W) (ph1 := H) (by
  simp only [List.set_cons_zero, List.set_cons_succ]
  ac_nf
  rw [c1, dv h.u9 r2])]
 rw [b6 (w := .ref p2) (ph1 := H2) (by
  simp only [List.set_cons_zero, List.set_cons_succ]
  ac_nf
  rw [ai e1, e2])]
 rw [b6 (w := .int nd) (ph1 := H3) (by
  simp only [List.set_cons_zero, List.set_cons_succ]
  ac_nf
  rw [c2, e3])]
 simp only [List.set_cons_zero, List.set_cons_succ]
 rw [cX, ai e5]
 exact e6
theorem A5 {ph : PH} {l : Nat} {rs : List Rw} (hl : ph[l]? = some (.lst (rs.map Rw.W))) (hz : rs.length <= 50) : ∃ D tl ph', oM [.ref l] ph = .ok (.ref D) ph' /\ Ex ph ph' /\ ph.length <= D /\ ph'[D]? = some (.lst (tl.map Rw.W)) /\ Sw rs tl /\ ((tl = rs /\ k9 rs) \/ bt tl < bt rs) := by
 unfold oM
 rw [k6]
 simp only [Nat.reduceSub, List.reduceReplicate]
 suffices key : ∃ D tl ph', jz [some (.ref l), none, none, none, none, none, none, none, none, none, none] ph = Out.ok (Fl.rt (.ref D)) ph' /\ Ex ph ph' /\ ph.length <= D /\ ph'[D]? = some (.lst (tl.map Rw.W)) /\ Sw rs tl /\ ((tl = rs /\ k9 rs) \/ bt tl < bt rs) by
  obtain ⟨D, tl, ph', k1, k2⟩ := key
  exact ⟨D, tl, ph', by rw [ai k1]; rfl, k2⟩
 unfold jz
 obtain ⟨T, p1, e1, x1, hT⟩ := PJ hl (by omega)
 rw [b6 (w := .ref T) (ph1 := p1) (by exact e1)]
 simp only [List.set_cons_zero, List.set_cons_succ]
 have fZ := x1.get hl
 obtain ⟨M, p2, e2, x2, hM⟩ := S3 fZ hT (by omega)
 rw [b6 (w := .ref M) (ph1 := p2) (by exact e2)]
 simp only [List.set_cons_zero, List.set_cons_succ]
 have fY := x2.get fZ
 have FU := hT.ex x2
 rw [b6 (w := .ref p2.length) (ph1 := p2 ++ [.lst (rs.map Rw.W)]) (by exact wk fY)]
 simp only [List.set_cons_zero, List.set_cons_succ]
 have x3 : Ex p2 (p2 ++ [PO.lst (rs.map Rw.W)]) := Ex.one _ _
 have g3 : (p2 ++ [PO.lst (rs.map Rw.W)])[p2.length]? = some (.lst (rs.map Rw.W)) := aZ _ _
 generalize p2 ++ [PO.lst (rs.map Rw.W)] = p3 at x3 g3
 generalize hD : p2.length = D at g3
 have hf : cC "Timing" "most" (ae aj (aa 1) (eU eD (eC (.int (1))))) [some (.ref l), some (.ref T), some (.ref M), some (.ref D), none, none, none, none, none, none, none] p3 = .ok (.int (bt rs)) p3 := by
  obtain ⟨ts, t1, t2, t3⟩ := FU.ex x3
  have dP : ts ≠ [] := by intro z; rw [z] at t2; simp at t2
  obtain ⟨us, u, hu⟩ : ∃ us u, ts = us ++ [u] := ⟨ts.dropLast, ts.getLast dP, (List.dropLast_concat_getLast dP).symm⟩
  have zx : us.length = rs.length := by rw [hu] at t2; simp at t2; exact t2
  obtain ⟨d, ta⟩ := t3 rs.length u (by rw [hu, <- zx]; simp)
  rw [List.take_length] at ta
  try simp only [bB, Nat.reduceSub, List.reduceReplicate, List.set_cons_zero, List.set_cons_succ, if_true, if_false, ↓reduceIte, String.reduceEq, reduceCtorEq, iO]
  rw [ai (lT t1 (by rw [hu, List.map_append]; exact wa _ _)), fO ta.ob (uf _ _ _)]
  rfl
 rw [b6 hf]
 simp only [List.set_cons_zero, List.set_cons_succ]
 obtain ⟨p4, e4, x4, t4⟩ := Ee [some (.ref l), some (.ref T), some (.ref M), some (.ref D), some (.int (bt rs)), none, none, none, none, none, none] p3
 rw [b6 e4]
 simp only [List.set_cons_zero, List.set_cons_succ]
 rw [cX]
 have zz := x4.get (x3.get fY)
 obtain ⟨ao, H, e, hI⟩ := jF (chk := fun _ => true) (g := gN 6) (b := p9)
  (fun k σ H => ∃ f tm a b c d e tl, σ = jq l T M D f tm a b c d e /\ At p2 H rs D tm k f tl)
  (eS 0 ((rs.length : Int) - 1).toNat) (jq l T M D (bt rs) p3.length none none none none none) p4
  (fun _ _ _ _ => rfl)
  (fun k w σ H hk hI => by
   obtain ⟨f, tm, a, b, c, d, e, tl, rfl, mT⟩ := hI
   obtain ⟨qP, rfl⟩ := tu hk
   rw [Int.zero_add]
   obtain ⟨f', cU, a', b', c', d', H', c5, e1, at2⟩ := Q2 fY FU hM hz (Nat.le_of_eq hD) (by omega) mT b c d e
   exact ⟨_, H, rfl, _, H', e1, _, .inl rfl, f', cU, _, a', b', c', d', c5, rfl, at2⟩)
  ⟨bt rs, p3.length, _, _, _, _, _, rs, rfl, ⟨x3.trans x4, x4.get g3, rfl, rfl, t4, rfl, .refl, .inl ⟨rfl, fun j _ hj => absurd hj (Nat.not_lt_zero _)⟩⟩⟩
 obtain ⟨f, tm, a, b, c, d, e', tl, rfl, mT⟩ := hI
 rw [Qv] at mT
 refine ⟨D, tl, H, ?_, (x1.trans x2).trans mT.ex, ?_, mT.u9, mT.sw, mT.best.imp_left fun ⟨q1, q2⟩ => ⟨q1, ?_⟩⟩
 ·have ef : b9 (eY (ab (ae dj (bg cb (ab (aa 0) ag)) (eC (.int (1)))) ag)) (gN 6) p9 (jq l T M D (bt rs) p3.length none none none none none) p4 = .ok (.nx (jq l T M D f tm a b c d e')) H := by
   unfold b9
   rw [ai (tV (j := (rs.length : Int) - 1) (ph' := p4) (by
    ac_nf
    rw [ai (gk zz), List.length_map]
    ac_nf) (by omega) (by omega))]
   exact e
  unfold p9 at ef
  rw [ai ef]
  ac_nf
 ·have := x1.len
  have := x2.len
  omega
 ·intro p q x y er hb
  have l1 : p.length + 1 < rs.length := by rw [er]; simp
  have gx : rs[p.length] = x := by simp [er]
  have gy : rs[p.length + 1] = y := by simp [er]
  have tk : rs.take p.length = p := by rw [er]; simp
  have dp : rs.drop (p.length + 2) = q := by
   rw [er, List.drop_append]
   simp
  have := q2 p.length l1 (by omega) (by rw [gx, gy]; exact hb)
  rw [gx, gy, tk, dp] at this
  exact this
def Rw.D : Rw -> PyData
 | .put b n => .tuple [.str "put", .int b, .int n]
 | .mv a b => .tuple [.str "move", .int a, .int b]
 | .pull b s => .tuple [.str "pull", .int b, .int s]
 | .push s b => .tuple [.str "push", .int s, .int b]
 | .take b => .tuple [.str "take", .int b]
 | .tell b => .tuple [.str "tell", .int b]
 | .turn => .tuple [.str "turn"]
 | .dd d w a b => .tuple [.str "do", .int d, .str (Str.ofString w.S), .int a, .int b]
theorem wY (ph : PH) (n : Nat) (r : Rw) : dat ph (n + 2) r.W = some r.D := by
 cases r <;> simp [Rw.W, Rw.D, dat, bf, so]
theorem V0 {a b : Wd} : a.S = b.S ↔ a = b := by cases a <;> cases b <;> simp [Wd.S]
theorem CO (a b : Rw) : PyData.eqv a.D b.D = decide (a = b) := by
  cases a <;> cases b <;> first
  | with_unfolding_all rfl
  | (simp only [Rw.D]
     show PyData.eqvAll _ _ = _
     simp [PyData.eqvAll, pH, t8, jK, V0])
theorem wz : ∀ (a b : List Rw), PyData.eqvAll (a.map Rw.D) (b.map Rw.D) = decide (a = b)
 | [], [] => by simp [PyData.eqvAll]
 | [], _ :: _ => by simp [PyData.eqvAll]
 | _ :: _, [] => by simp [PyData.eqvAll]
 | x :: a, y :: b => by
  rw [List.map_cons, List.map_cons]
  unfold PyData.eqvAll
  rw [CO, wz a b]
  simp
theorem tB {ph : PH} {i : Nat} {a : List Rw} (h : ph[i]? = some (.lst (a.map Rw.W))) : dat ph 40 (.ref i) = some (.list (a.map Rw.D)) := by
 unfold dat
 simp only [h]
 rw [gU (dat ph 39) Rw.W Rw.D (fun r => wY ph 37 r)]
 rfl
theorem CP {ph : PH} {i j : Nat} {a b : List Rw} (hi : ph[i]? = some (.lst (a.map Rw.W))) (hj : ph[j]? = some (.lst (b.map Rw.W))) : lift (d9 (.ref i) (.ref j)) ph = .ok (.bl (!decide (a = b))) ph := by
 apply Ea
 unfold bO
 rw [tB hi, tB hj]
 show some (PyData.eqvAll _ _) = _
 rw [wz]
theorem Y7 (rs : List Rw) : 0 <= bt rs := (qO.run (rs := rs)).mo
theorem Bt {ph : PH} {l : Nat} {rs : List Rw} (hl : ph[l]? = some (.lst (rs.map Rw.W))) (hz : rs.length <= 50) : ∃ D tl ph', nc [.ref l] ph = .ok (.ref D) ph' /\ Ex ph ph' /\ ph.length <= D /\ ph'[D]? = some (.lst (tl.map Rw.W)) /\ Sw rs tl /\ bt tl <= bt rs /\ k9 tl := by
  unfold nc
  rw [k6]
  simp only [Nat.reduceSub, List.reduceReplicate]
  suffices key : ∃ D tl ph', jE [some (.ref l), none, none] ph = Out.ok (Fl.rt (.ref D)) ph' /\ Ex ph ph' /\ ph.length <= D /\ ph'[D]? = some (.lst (tl.map Rw.W)) /\ Sw rs tl /\ bt tl <= bt rs /\ k9 tl by
    obtain ⟨D, tl, ph', k1, k2⟩ := key
    exact ⟨D, tl, ph', by rw [ai k1]; rfl, k2⟩
  unfold jE
  rw [b6 (w := .ref ph.length) (ph1 := ph ++ [.lst (rs.map Rw.W)]) (by exact wk hl)]
  simp only [List.set_cons_zero, List.set_cons_succ]
  have x1 : Ex ph (ph ++ [PO.lst (rs.map Rw.W)]) := Ex.one _ _
  have g1 : (ph ++ [PO.lst (rs.map Rw.W)])[ph.length]? = some (.lst (rs.map Rw.W)) := aZ _ _
  generalize ph ++ [PO.lst (rs.map Rw.W)] = p1 at x1 g1
  obtain ⟨D, tl, p2, e2, x2, hD, g2, sw, al⟩ := A5 g1 hz
  rw [b6 (w := .ref D) (ph1 := p2) (by exact e2)]
  simp only [List.set_cons_zero, List.set_cons_succ]
  obtain ⟨ao, H, e, A, B, ta, rfl, xx, hA, gA, swA, leA, best⟩ := Bn (t := eT (ae d9 (aa 2) (aa 1))) (b := aq (aC (aa 2) (gN 1)) (aC (aB oM (ab (aa 1) ag)) (gN 2)))
    (fun k σ H => ∃ A B ta tb, σ = [some (.ref l), some (.ref A), some (.ref B)] /\ Ex ph H /\ ph.length <= A /\ ph.length <= B /\ H[A]? = some (.lst (ta.map Rw.W)) /\ H[B]? = some (.lst (tb.map Rw.W)) /\ Sw rs ta /\ bt ta <= bt rs /\ Sw ta tb /\ ((tb = ta /\ k9 ta) \/ bt tb < bt ta) /\ (bt ta).toNat <= k)
    (fun σ H => ∃ A B ta, σ = [some (.ref l), some (.ref A), some (.ref B)] /\ Ex ph H /\ ph.length <= A /\ H[A]? = some (.lst (ta.map Rw.W)) /\ Sw rs ta /\ bt ta <= bt rs /\ k9 ta)
    (by
      rintro k σ H ⟨A, B, ta, tb, rfl, x, hA, hB, gA, gB, s1, le, s2, al, hk⟩
      by_cases he : tb = ta
      · refine .inl ⟨H, ?_, A, B, ta, rfl, x, hA, gA, s1, le, ?_⟩
        · ac_nf
          rw [ai (CP gB gA)]
          try simp only [bB, Nat.reduceSub, List.reduceReplicate, List.set_cons_zero, List.set_cons_succ, if_true, if_false, ↓reduceIte, String.reduceEq, reduceCtorEq, decide_eq_true he]
        · rcases al with ⟨_, b⟩ | q
          · exact b
          · rw [he] at q; omega
      · have lt : bt tb < bt ta := by
          rcases al with ⟨q, _⟩ | q
          · exact absurd q he
          · exact q
        have b0 := Y7 tb
        obtain ⟨D', tc, H', e3, x3, hD', g3, s3, al3⟩ := A5 gB (by rw [s2.len, s1.len]; exact hz)
        refine .inr ⟨H, ?_, .nx [some (.ref l), some (.ref B), some (.ref D')], H', ?_, _, .inl rfl, (bt tb).toNat, by omega, B, D', tb, tc, rfl, x.trans x3, hB, by have := x.len; omega, x3.get gB, g3, s1.trans s2, by omega, s3, al3, Nat.le_refl _⟩
        · ac_nf
          rw [ai (CP gB gA)]
          try simp only [bB, Nat.reduceSub, List.reduceReplicate, List.set_cons_zero, List.set_cons_succ, if_true, if_false, ↓reduceIte, String.reduceEq, reduceCtorEq, decide_eq_false he]
        · ac_nf
          rw [ai e3]
          rfl)
    (bt rs).toNat [some (.ref l), some (.ref ph.length), some (.ref D)] p2 ⟨ph.length, D, rs, tl, rfl, x1.trans x2, Nat.le_refl _, by have := x1.len; omega, x2.get g1, g2, .refl, Int.le_refl _, sw, al, Nat.le_refl _⟩
  refine ⟨A, ta, H, ?_, xx, hA, gA, swA, leA, best⟩
  rw [cX, ai e]
  ac_nf
def lW (t : Th) : W := .tup [.bl (!t.1), .int t.2]
def bC (r : Rw) : W := match r.wr with
 | [] => .az
 | t :: _ => lW t
def lD (t : Th) : PyData := .tuple [.bool (!t.1), .int t.2]
theorem tY {a b : Th} : lW a = lW b ↔ a = b := by
 obtain ⟨a1, a2⟩ := a
 obtain ⟨b1, b2⟩ := b
 cases a1 <;> cases b1 <;> simp [lW]
theorem DJ (a b : Th) : PyData.eqv (lD a) (lD b) = decide (a = b) := by
 unfold lD
 rw [Dt, Xz, pH]
 obtain ⟨a1, a2⟩ := a
 obtain ⟨b1, b2⟩ := b
 cases a1 <;> cases b1 <;> simp
theorem pw (ph : PH) (n : Nat) (t : Th) : dat ph (n + 1) (lW t) = some (lD t) := by
 unfold lW dat
 cases n <;> simp only [bf, dat, Option.map_some] <;> rfl
theorem V1 (t : Th) : PyData.eqv (lD t) .none = false := by unfold lD PyData.eqv; rfl
theorem Eg (ph : PH) (a b : Th) : bO ph (lW a) (lW b) = some (decide (a = b)) := by
 unfold bO
 rw [pw, pw, <- DJ]
theorem DK (ph : PH) (a : Th) : bO ph (lW a) .az = some false := by
 unfold bO
 rw [pw, <- V1 a]
 rfl
theorem Eh {ph : PH} {i : Nat} {us : List Th} (h : ph[i]? = some (.lst (us.map lW))) (t : Th) : lift (cD (lW t) (.ref i)) ph = .ok (.bl (decide (t ∈ us))) ph := by
 rw [CB h (gU (dat ph 40) lW lD (fun t => pw ph 39 t) us) (pw ph 39 t)]
 congr 2
 clear h
 induction us with
 | nil => simp
 | cons v us ih => rw [List.map_cons, List.any_cons, ih, DJ]; simp [eq_comm]
def Rw.prt : Rw -> Bool
 | .dd _ .part _ _ => true
 | _ => false
theorem aah (r : Rw) (ph : PH) : rz [r.W] ph = .ok (.bl r.prt) ph := by
 cases r with
 | dd d w a b => cases w <;> with_unfolding_all rfl
 | _ => with_unfolding_all rfl
theorem wA (r : Rw) (ph : PH) : lE [r.W] ph = .ok (bC r) ph := by
 cases r <;> with_unfolding_all rfl
theorem wZ (r : Rw) (ph : PH) : iJ [r.W] ph = .ok (.ref ph.length) (ph ++ [.lst (r.rd.map lW)]) := by
 cases r <;> with_unfolding_all rfl
abbrev n4 : List W := [W.int 3, .int 5, .int 2, .int 3]
abbrev t4 : List W := [W.str "times", W.str "part", W.str "take", W.str "pull"]
theorem V2 {ph : PH} (x : String) (j : Nat) (n : Int) (z : W) (hj : ["times", "part", "take", "pull"].findIdx? (fun s => decide (s = x)) = some j) (hn : bL n4 (j : Int) = some (.int n)) :
  (aN (ae aj (bQ (ab (eC (.int (3))) (ab (eC (.int (5))) (ab (eC (.int (2))) (ab (eC (.int (3))) ag))))) (cI cL nA (bQ (ab (eC (.str "times")) (ab (eC (.str "part")) (ab (eC (.str "take")) (ab (eC (.str "pull")) ag))))) (ab (aa 1) ag)))) [some z, some (.str (Str.ofString x))] ph = .ok (.rt (.int n)) (ph ++ [.lst n4] ++ [.lst t4]) := by
 ac_nf
 rw [jH _ _ _ (small (by simp)), jH _ _ _ (small (by simp)), ai (o9 (aZ _ _))]
 have hg : (ph ++ [PO.lst n4] ++ [PO.lst t4])[(ph ++ [PO.lst n4]).length]? = some (.lst (["times", "part", "take", "pull"].map fun s => W.str (Str.ofString s))) := aZ _ _
 rw [ai (Oi x ["times", "part", "take", "pull"] hg hj), ai (lT ((Ex.one _ _).get (aZ _ _)) hn)]
 rfl
theorem CQ (r : Rw) (ph : PH) : ∃ ph', jC [r.W] ph = .ok (.int r.wt) ph' /\ Ex ph ph' := by
 have go : ∀ (x : String) (j : Nat) (n : Int), ["times", "part", "take", "pull"].findIdx? (fun s => decide (s = x)) = some j -> bL n4 (j : Int) = some (.int n) -> n = r.wt →
   (∀ rest : SM, aq (aC (ae aj (aa 0) (eC (.int (0)))) (gN 1)) (aq (aU (cE (eT (ae aV (aa 1) (eC (.str "do")))) (cO (eT (ae aV (ae aj (aa 0) (eC (.int (2)))) (eC (.str "times")))) (eT (ae aV (ae aj (aa 0) (eC (.int (2)))) (eC (.str "part")))))) (aC (ae aj (aa 0) (eC (.int (2)))) (gN 1)) aX) rest) [some r.W, none] ph = rest [some r.W, some (.str (Str.ofString x))] ph) →
   eT (ae cD (aa 1) (bK (ab (eC (.str "times")) (ab (eC (.str "part")) (ab (eC (.str "take")) (ab (eC (.str "pull")) ag)))))) [some r.W, some (.str (Str.ofString x))] ph = .ok true ph -> ∃ ph', jC [r.W] ph = .ok (.int r.wt) ph' /\ Ex ph ph' := fun x j n hj hn e h1 h2 => by
  refine ⟨_, ?_, (Ex.one ph (.lst n4)).trans (Ex.one _ (.lst t4))⟩
  have k1 : iK [some r.W, none] ph = .ok (.rt (.int r.wt)) (ph ++ [.lst n4] ++ [.lst t4]) := by
   unfold iK
   rw [h1, <- e]
   exact EU h2 (V2 x j n r.W hj hn)
  unfold jC
  rw [k6]
  show ap (iK [some r.W, none]) gC ph = _
  rw [ai k1]
  rfl
 cases r with
 | dd d w a b =>
  cases w with
  | times => exact go "times" 0 3 (by decide) rfl rfl (fun _ => by with_unfolding_all rfl) (by with_unfolding_all rfl)
  | part => exact go "part" 1 5 (by decide) rfl rfl (fun _ => by with_unfolding_all rfl) (by with_unfolding_all rfl)
  | _ => exact ⟨ph, by with_unfolding_all rfl, Ex.refl _⟩
 | take b => exact go "take" 2 2 (by decide) rfl rfl (fun _ => by with_unfolding_all rfl) (by with_unfolding_all rfl)
 | pull b s => exact go "pull" 3 3 (by decide) rfl rfl (fun _ => by with_unfolding_all rfl) (by with_unfolding_all rfl)
 | _ => exact ⟨ph, by with_unfolding_all rfl, Ex.refl _⟩
theorem lQ (r : Rw) : r.wr = [] \/ ∃ t, r.wr = [t] := by cases r <;> simp [Rw.wr]
theorem CS (t : Th) : mm (lW t) = false := rfl
noncomputable def uD (i : Nat) : TM := (cO (eT (ae cD (ae aj (aa i) (eC (.int (0)))) (bK (ab (eC (.str "take")) (ab (eC (.str "tell")) (ab (eC (.str "turn")) ag)))))) (ck (aB rz (ab (aa i) ag))))
theorem DL {i : Nat} {σ : aE} (r : Rw) (h : σ[i]? = some (some r.W)) (ph : PH) : uD i σ ph = .ok r.out ph := by
 have key : uD 0 [some r.W] ph = .ok r.out ph := by
  cases r with
  | dd d w a b => cases w <;> with_unfolding_all rfl
  | _ => with_unfolding_all rfl
 rw [<- key]
 unfold uD cO eT ck ae aB ab
 rw [Sj h, xv]
 rfl
theorem XR (x y : Rw) (a : Option W) (ph : PH) : ∃ ph', aN (gz (ae fy (aa 3) (eC .az)) (ae cD (aa 3) (aB iJ (ab (aa 0) ag)))) [some x.W, some y.W, a, some (bC y)] ph = .ok (.rt (.bl (ez y.wr x.rd))) ph' /\ Ex ph ph' := by
 unfold bC
 rcases lQ y with h | ⟨t, h⟩
 ·refine ⟨ph, ?_, Ex.refl _⟩
  simp only [h]
  ac_nf
  rfl
 ·refine ⟨_, ?_, Ex.one ph (.lst (x.rd.map lW))⟩
  simp only [h]
  try simp only [bB, Nat.reduceSub, List.reduceReplicate, List.set_cons_zero, List.set_cons_succ, if_true, if_false, ↓reduceIte, String.reduceEq, reduceCtorEq, CS]
  rw [ai (wZ x ph), ai (Eh (aZ _ _) t)]
  simp [ez, aw]
noncomputable def uE : TM := (cE (eT (ae fy (aa 2) (eC .az))) (cO (eT (ae aV (aa 2) (aa 3))) (eT (ae cD (aa 2) (aB iJ (ab (aa 1) ag))))))
theorem V3 (x y : Rw) (ph : PH) : ∃ ph', uE [some x.W, some y.W, some (bC x), some (bC y)] ph = .ok (ez x.wr (y.rd ++ y.wr)) ph' /\ Ex ph ph' := by
 unfold uE
 rcases lQ x with h | ⟨t, h⟩
 ·refine ⟨ph, ?_, Ex.refl _⟩
  have : bC x = .az := by unfold bC; rw [h]
  rw [this, h]
  ac_nf
  rfl
 ·have e1 : bC x = lW t := by unfold bC; rw [h]
  rw [e1, h]
  have e2 : ∃ b, bO ph (lW t) (bC y) = some b /\ (b = true ↔ t ∈ y.wr) := by
   unfold bC
   rcases lQ y with hy | ⟨u, hy⟩
   ·simp only [hy]
    exact ⟨false, DK ph t, by simp⟩
   ·simp only [hy]
    exact ⟨_, Eg ph t u, by simp⟩
  obtain ⟨b, e2, hb⟩ := e2
  try simp only [bB, Nat.reduceSub, List.reduceReplicate, List.set_cons_zero, List.set_cons_succ, if_true, if_false, ↓reduceIte, String.reduceEq, reduceCtorEq, CS]
  rw [ai (ub e2)]
  cases b with
  | true =>
   refine ⟨ph, ?_, Ex.refl _⟩
   have : t ∈ y.wr := hb.mp rfl
   ac_nf
   simp [ez, this]
  | false =>
   refine ⟨_, ?_, Ex.one ph (.lst (y.rd.map lW))⟩
   have : ¬ t ∈ y.wr := fun z => absurd (hb.mpr z) (by decide)
   ac_nf
   rw [ai (wZ y ph), ai (Eh (aZ _ _) t)]
   ac_nf
   simp [ez, this]
theorem DM (x y : Rw) (ph : PH) : ∃ ph', jB [x.W, y.W] ph = .ok (.bl (bound x y)) ph' /\ Ex ph ph' := by
 unfold jB
 rw [mF]
 simp only [Nat.reduceSub, List.reduceReplicate]
 suffices key : ∃ ph', jA [some x.W, some y.W, none, none] ph = Out.ok (Fl.rt (.bl (bound x y))) ph' /\ Ex ph ph' by
  obtain ⟨ph', k1, k2⟩ := key
  exact ⟨ph', by rw [ai k1]; rfl, k2⟩
 have rest : ∃ ph', (aq (aC (aB lE (ab (aa 0) ag)) (gN 2)) (aq (aC (aB lE (ab (aa 1) ag)) (gN 3)) (aq (aU uE (aN (eC (.bl true))) aX) (aN (gz (ae fy (aa 3) (eC .az)) (ae cD (aa 3) (aB iJ (ab (aa 0) ag)))))))) [some x.W, some y.W, none, none] ph = Out.ok (Fl.rt (.bl (ez x.wr (y.rd ++ y.wr) || ez y.wr x.rd))) ph' /\ Ex ph ph' := by
  rw [b6 (w := bC x) (ph1 := ph) (by exact wA _ _)]
  simp only [List.set_cons_zero, List.set_cons_succ]
  rw [b6 (w := bC y) (ph1 := ph) (by exact wA _ _)]
  simp only [List.set_cons_zero, List.set_cons_succ]
  obtain ⟨p1, e1, x1⟩ := V3 x y ph
  rw [cX, iS, e9, ai e1]
  cases ez x.wr (y.rd ++ y.wr) with
  | true => exact ⟨p1, rfl, x1⟩
  | false =>
   obtain ⟨p2, e2, x2⟩ := XR x y (some (bC x)) p1
   exact ⟨p2, e2, x1.trans x2⟩
 unfold jA
 unfold uE at rest
 have o0 := DL x (i := 0) (σ := [some x.W, some y.W, none, none]) rfl ph
 have o1 := DL y (i := 1) (σ := [some x.W, some y.W, none, none]) rfl ph
 unfold uD at o0 o1
 rw [cX, iS, e9, ai o0]
 unfold bound
 cases hx : x.out with
 | false => exact rest
 | true =>
  simp only [if_true]
  rw [iS, e9, ai o1]
  cases hy : y.out with
  | true => exact ⟨ph, rfl, Ex.refl _⟩
  | false => exact rest
def cV (p : Th × Int) : W × W := (lW p.1, .int p.2)
theorem V4 (m : Wm) (t : Th) (w : Int) : cu (m.map cV) (lW t) (.int w) = (cQ m t w).map cV := by
 unfold cu cQ
 have e : ((m.map cV).any fun p => decide (p.1 = lW t)) = m.any fun p => decide (p.1 = t) := by
  rw [List.any_map]
  congr 1
  funext p
  simp only [Function.comp_def, cV, tY]
 rw [e]
 split
 ·rw [List.map_map, List.map_map]
  apply List.map_congr_left
  intro p _
  simp only [Function.comp_def, cV, tY]
  by_cases h : p.1 = t
  ·simp [h, cV]
  ·simp [h, cV]
 ·simp [cV]
theorem V5 (m : Wm) (t : Th) : (bP (m.map cV) (lW t)).getD (.int 0) = .int (lk m t) := by
 unfold bP lk
 rw [List.find?_map]
 have : ((fun p : W × W => decide (p.1 = lW t)) ∘ cV) = fun p : Th × Int => decide (p.1 = t) := by
  funext p
  simp only [Function.comp_def, cV, tY]
 rw [this]
 cases m.find? fun p => decide (p.1 = t) <;> rfl
theorem S9 (m : Wm) : (bP (m.map cV) .az).getD (.int 0) = .int 0 := by
 rw [show bP (m.map cV) .az = none from ?_]
 ·rfl
 ·unfold bP
  rw [List.find?_eq_none.mpr fun p hp => by
   obtain ⟨q, _, rfl⟩ := List.mem_map.mp hp
   simp [cV, lW]]
  rfl
theorem Ei (ph : PH) (m : Wm) (t : Th) : fJ ph (m.map cV) (lW t) = true := by
 unfold fJ
 rw [Bool.and_eq_true, List.all_eq_true]
 refine ⟨rfl, fun p hp => ?_⟩
 obtain ⟨q, _, rfl⟩ := List.mem_map.mp hp
 rw [Bool.and_eq_true, decide_eq_true_eq]
 refine ⟨rfl, ?_⟩
 show bO ph (lW q.1) (lW t) = some (decide (lW q.1 = lW t))
 rw [Eg]
 simp only [tY]
theorem XS (ph : PH) (m : Wm) : fJ ph (m.map cV) .az = true := by
 unfold fJ
 rw [Bool.and_eq_true, List.all_eq_true]
 refine ⟨rfl, fun p hp => ?_⟩
 obtain ⟨q, _, rfl⟩ := List.mem_map.mp hp
 rw [Bool.and_eq_true, decide_eq_true_eq]
 refine ⟨rfl, ?_⟩
 show bO ph (lW q.1) .az = some (decide (lW q.1 = .az))
 rw [DK]
 simp [lW]
theorem V6 {m : Wm} (h : Fn m) (t : Th) (w : Int) : Fn (cQ m t w) := by
 intro s v v' h1 h2
 rw [pd] at h1 h2
 rcases h1 with ⟨e1, rfl⟩ | ⟨n1, h1⟩ <;> rcases h2 with ⟨e2, rfl⟩ | ⟨n2, h2⟩
 ·rfl
 ·exact absurd e1 n2
 ·exact absurd e2 n1
 ·exact h s v v' h1 h2
theorem V7 {m : Wm} (h : Fn m) (t : Th) (w : Int) (s : Th) : lk (cQ m t w) s = if s = t then w else lk m s := by
 rcases gW (cQ m t w) s with ⟨v, hv, e⟩ | ⟨hn, e⟩
 ·rw [e]
  rw [pd] at hv
  rcases hv with ⟨h1, h2⟩ | ⟨h1, h2⟩
  ·rw [if_pos h1, h2]
  ·rw [if_neg h1]
   rcases gW m s with ⟨v', j9, e'⟩ | ⟨j6, _⟩
   ·rw [e']; exact h s v v' h2 j9
   ·exact absurd h2 (j6 v)
 ·have ne : s ≠ t := fun z => hn w (by rw [pd]; exact .inl ⟨z, rfl⟩)
  rw [e, if_neg ne]
  rcases gW m s with ⟨v', j9, e'⟩ | ⟨_, e'⟩
  ·exact absurd (by rw [pd]; exact .inr ⟨ne, j9⟩) (hn v')
  ·exact e'.symm
structure LT (t : Tm) (R : Wm) : Prop where
 fn : Fn R
 eq : ∀ s, lk t.m s = max 0 (lk R s - t.nb)
def jN (t : Tm) (R : Wm) (r : Rw) : Wm := match r.wr with
 | [] => R
 | s :: _ => cQ R s (t.nb + t.st r + r.wt)
theorem Ej {m : Wm} (h : Fn m) {s : Th} {v : Int} (hv : (s, v) ∈ m) : lk m s = v := by
 rcases gW m s with ⟨v', j9, e'⟩ | ⟨j6, _⟩
 ·rw [e']; exact h s v' v j9 hv
 ·exact absurd hv (j6 v)
theorem LT.go {t : Tm} {R : Wm} {n : Nat} (h : LT t R) (ok : t.ok n) (r : Rw) : LT (t.go r) (jN t R r) := by
 have ok' := ok.go r
 have h0 := t.u5 r
 have hw := xE r
 have mn : ∀ s v, (s, v) ∈ (t.go r).m ↔ 0 < v /\ ((∃ w, (s, w) ∈ t.m /\ v = w - t.st r - 1) \/ (s ∈ r.wr /\ v = r.wt - 1)) := fun s v => oY ok.fn
 have enb : (t.go r).nb = t.nb + t.st r + 1 := rfl
 have fR : Fn (jN t R r) := by
  unfold jN
  split
  ·exact h.fn
  ·exact V6 h.fn _ _
 have lR : ∀ s, lk (jN t R r) s = if s ∈ r.wr then t.nb + t.st r + r.wt else lk R s := fun s => by
  unfold jN
  rcases lQ r with hr | ⟨u, hr⟩
  ·rw [hr]; simp
  ·rw [hr]; simp only [List.mem_singleton]; exact V7 h.fn _ _ _
 refine ⟨fR, fun s => ?_⟩
 rw [lR s, enb]
 have hs := h.eq s
 by_cases fq : s ∈ r.wr
 ·rw [if_pos fq]
  by_cases h1 : 0 < r.wt - 1
  ·rw [Ej ok'.fn ((mn s (r.wt - 1)).mpr ⟨h1, .inr ⟨fq, rfl⟩⟩)]
   omega
  ·rcases gW (t.go r).m s with ⟨v, hv, e⟩ | ⟨_, e⟩
   ·rw [mn] at hv
    obtain ⟨hp, ⟨w, qU, rfl⟩ | ⟨_, rfl⟩⟩ := hv
    ·have : w <= t.st r := ok.fn.zu fq qU
     omega
    ·omega
   ·rw [e]; omega
 ·rw [if_neg fq]
  rcases gW (t.go r).m s with ⟨v, hv, e⟩ | ⟨hn, e⟩
  ·rw [e]
   rw [mn] at hv
   obtain ⟨hp, ⟨w, qU, rfl⟩ | ⟨hz, _⟩⟩ := hv
   ·have := Ej ok.fn qU
    omega
   ·exact absurd hz fq
  ·rw [e]
   rcases gW t.m s with ⟨w, qU, e2⟩ | ⟨_, e2⟩
   ·by_cases hp : 0 < w - t.st r - 1
    ·exact absurd ((mn s _).mpr ⟨hp, .inl ⟨w, qU, rfl⟩⟩) (hn _)
    ·omega
   ·omega
def oW : Option Th -> W
 | none => .az
 | some t => lW t
def ov (R : Wm) : Option Th -> Int
 | none => 0
 | some t => lk R t
def os (r : Rw) : List (Option Th) := r.rd.map some ++ [r.wr.head?]
theorem yr (r : Rw) : r.rd.map lW ++ [bC r] = (os r).map oW := by
 unfold os bC
 rw [List.map_append, List.map_map]
 congr 1
 rcases lQ r with h | ⟨t, h⟩ <;> rw [h] <;> rfl
theorem DN {r : Rw} {t : Th} : some t ∈ os r ↔ t ∈ r.rd ++ r.wr := by
 unfold os
 rcases lQ r with h | ⟨u, h⟩ <;> rw [h] <;> simp
def mx (R : Wm) (b : Int) (l : List (Option Th)) : Int := l.foldl (fun b o => max b (ov R o)) b
theorem CT (R : Wm) : ∀ (l : List (Option Th)) (b : Int), b <= mx R b l /\ (∀ o ∈ l, ov R o <= mx R b l) /\ (mx R b l = b \/ ∃ o ∈ l, mx R b l = ov R o)
 | [], b => ⟨Int.le_refl _, fun o h => by simp at h, .inl rfl⟩
 | o :: l, b => by
  obtain ⟨h1, h2, h3⟩ := CT R l (max b (ov R o))
  have e : mx R b (o :: l) = mx R (max b (ov R o)) l := rfl
  rw [e]
  refine ⟨by omega, fun q hq => ?_, ?_⟩
  ·rcases List.mem_cons.mp hq with rfl | hq
   ·omega
   ·exact h2 q hq
  ·rcases h3 with h3 | ⟨q, hq, h3⟩
   ·rw [h3]
    rcases Int.le_total b (ov R o) with z | z
    ·exact .inr ⟨o, by simp, by omega⟩
    ·exact .inl (by omega)
   ·exact .inr ⟨q, by simp [hq], h3⟩
theorem XT {t : Tm} {R : Wm} {n : Nat} (h : LT t R) (ok : t.ok n) (r : Rw) : mx R t.nb (os r) = t.nb + t.st r := by
 obtain ⟨h1, h2, h3⟩ := CT R (os r) t.nb
 have h0 := t.u5 r
 have nb := ok.nb
 have ge : ∀ s ∈ r.rd ++ r.wr, lk t.m s <= t.st r := fun s hs => BW hs
 have up : mx R t.nb (os r) <= t.nb + t.st r := by
  rcases h3 with h3 | ⟨o, ho, h3⟩
  ·omega
  ·cases o with
   | none => rw [h3]; show (0 : Int) <= _; omega
   | some s =>
    have := ge s (DN.mp ho)
    have := h.eq s
    rw [h3]; show lk R s <= _
    omega
 have dn : t.nb + t.st r <= mx R t.nb (os r) := by
  rcases PD t.m (r.rd ++ r.wr) with e | ⟨s, hs, e⟩
  ·have : t.st r = 0 := e
   omega
  ·have e : t.st r = lk t.m s := e
   have := h2 _ (DN.mpr hs)
   have : lk R s <= mx R t.nb (os r) := this
   have := h.eq s
   omega
 omega
theorem FV (i j : Int) : (if j > i then j else i) = max i j := by split <;> omega
abbrev S7 (l D : Nat) (b m : Int) (x y z : Option W) : aE := [some (.ref l), some (.ref D), some (.int b), some (.int m), x, y, z]
theorem Ta {H : PH} {D A : Nat} {R : Wm} (l : Nat) (hD : H[D]? = some (.bM (R.map cV))) (r : Rw) (hA : H[A]? = some (.lst (r.rd.map lW ++ [bC r]))) (b m : Int) (x y z : Option W) :
    ∃ z', cP (fun p => decide (p[A]? = some (.lst (r.rd.map lW ++ [bC r])))) (gN 6) (aC (bg fg (ab (aa 2) (ab (cI jW je (aa 1) (ab (aa 6) (ab (eC (.int (0))) ag))) ag))) (gN 2)) (r.rd.map lW ++ [bC r]) (S7 l D b m x y z) H = .ok (.nx (S7 l D (mx R b (os r)) m x y z')) H := by
  obtain ⟨ao, H', e, z', rfl, rfl⟩ := jF (chk := fun p => decide (p[A]? = some (.lst (r.rd.map lW ++ [bC r])))) (g := gN 6) (b := aC (bg fg (ab (aa 2) (ab (cI jW je (aa 1) (ab (aa 6) (ab (eC (.int (0))) ag))) ag))) (gN 2))
    (fun k σ H' => ∃ z', σ = S7 l D (mx R b ((os r).take k)) m x y z' /\ H' = H) (r.rd.map lW ++ [bC r]) (S7 l D b m x y z) H
    (fun k σ H' hI => by obtain ⟨_, _, rfl⟩ := hI; exact decide_eq_true hA)
    (fun k w σ H' hk hI => by
      obtain ⟨z', rfl, rfl⟩ := hI
      rw [yr, List.getElem?_map] at hk
      cases ho : (os r)[k]? with
      | none => rw [ho] at hk; cases hk
      | some o =>
        rw [ho] at hk
        cases hk
        have hg : lift (je (.ref D) [oW o, .int 0]) H' = .ok (.int (ov R o)) H' := by
          cases o with
          | none => rw [show oW none = .az from rfl, CH hD (XS _ _), S9]; rfl
          | some t => rw [show oW (some t) = lW t from rfl, CH hD (Ei _ _ _), V5]; rfl
        refine ⟨S7 l D (mx R b ((os r).take k)) m x y (some (oW o)), H', rfl, .nx (S7 l D (mx R b ((os r).take (k + 1))) m x y (some (oW o))), H', ?_, _, .inl rfl, _, rfl, rfl⟩
        have hl := (List.getElem?_eq_some_iff.mp ho).1
        have et : (os r).take (k + 1) = (os r).take k ++ [o] := by
          rw [List.take_succ, ho]; rfl
        ac_nf
        rw [ai (SV hD)]
        ac_nf
        rw [ai hg]
        ac_nf
        rw [FV, et]
        unfold mx
        rw [List.foldl_append]
        rfl)
    ⟨z, rfl, rfl⟩
  rw [yr, List.length_map, List.take_length] at e
  rw [yr]
  exact ⟨z', e⟩
theorem Q3 {ph H : PH} {D l k : Nat} {rs : List Rw} {R : Wm} {r : Rw} (hD : H[D]? = some (.bM (R.map cV))) (FW : ph.length <= D) (hx : Ex ph H) (hr : rs[k]? = some r) (lt : LT (bS.run (rs.take k)) R) (hR : R.length <= 1000) (y z : Option W) :
  ∃ y' z' H' R', (aq (aC (ae addW (aa 2) (eC (.int (1)))) (gN 2)) (aq (aC (aB lE (ab (aa 4) ag)) (gN 5)) (aq (b9 (di (ae addW (aB iJ (ab (aa 4) ag)) (bQ (ab (aa 5) ag)))) (gN 6) (aC (bg fg (ab (aa 2) (ab (cI jW je (aa 1) (ab (aa 6) (ab (eC (.int (0))) ag))) ag))) (gN 2))) (aq (aU (eT (ae fy (aa 5) (eC .az))) (aC (ae addW (aa 2) (aB jC (ab (aa 4) ag))) (pG (aa 1) (aa 5))) aX) (aC (bg fg (ab (aa 3) (ab (ae addW (aa 2) (aB jC (ab (aa 4) ag))) ag))) (gN 3))))))
   (S7 l D ((bS.run (rs.take k)).nb - 1) (bS.run (rs.take k)).most (some r.W) y z) H = .ok (.nx (S7 l D ((bS.run (rs.take (k + 1))).nb - 1) (bS.run (rs.take (k + 1))).most (some r.W) y' z')) H' /\
   H'[D]? = some (.bM (R'.map cV)) /\ Ex ph H' /\ LT (bS.run (rs.take (k + 1))) R' /\ R'.length <= R.length + 1 := by
 have et : bS.run (rs.take (k + 1)) = (bS.run (rs.take k)).go r := by
  rw [List.take_succ, hr, Tm.oN]; rfl
 have ok := qO.run (rs := rs.take k)
 rw [et]
 generalize bS.run (rs.take k) = t at lt ok
 have ms := XT lt ok r
 rw [b6 (w := .int t.nb) (ph1 := H) (by show Out.ok (W.int (t.nb - 1 + 1)) H = _; rw [show t.nb - 1 + 1 = t.nb by omega])]
 simp only [List.set_cons_zero, List.set_cons_succ]
 rw [b6 (w := bC r) (ph1 := H) (by exact wA _ _)]
 simp only [List.set_cons_zero, List.set_cons_succ]
 have lr := DI r
 generalize h1 : H ++ [PO.lst (r.rd.map lW)] = p1
 have x1 : Ex H p1 := by rw [<- h1]; exact Ex.one _ _
 have g1 : p1[H.length]? = some (.lst (r.rd.map lW)) := by rw [<- h1]; exact aZ _ _
 generalize h2 : p1 ++ [PO.lst [bC r]] = p2
 have x2 : Ex p1 p2 := by rw [<- h2]; exact Ex.one _ _
 have g2 : p2[p1.length]? = some (.lst [bC r]) := by rw [<- h2]; exact aZ _ _
 generalize h3 : p2 ++ [PO.lst (r.rd.map lW ++ [bC r])] = p3
 have x3 : Ex p2 p3 := by rw [<- h3]; exact Ex.one _ _
 have g3 : p3[p2.length]? = some (.lst (r.rd.map lW ++ [bC r])) := by rw [<- h3]; exact aZ _ _
 have xa : Ex H p3 := (x1.trans x2).trans x3
 have ei : di (ae addW (aB iJ (ab (aa 4) ag)) (bQ (ab (aa 5) ag))) (S7 l D t.nb t.most (some r.W) (some (bC r)) z) H = .ok (r.rd.map lW ++ [bC r], fun p => decide (p[p2.length]? = some (.lst (r.rd.map lW ++ [bC r])))) p3 := by
  refine jG ?_ g3
  ac_nf
  rw [ai (wZ r H), h1, jH _ _ _ (small (by simp)), h2, lS (x2.get g1) g2 (small (by simp; omega)), h3]
 obtain ⟨z', ef⟩ := Ta l (xa.get hD) r g3 t.nb t.most (some r.W) (some (bC r)) z
 have es : b9 (di (ae addW (aB iJ (ab (aa 4) ag)) (bQ (ab (aa 5) ag)))) (gN 6) (aC (bg fg (ab (aa 2) (ab (cI jW je (aa 1) (ab (aa 6) (ab (eC (.int (0))) ag))) ag))) (gN 2)) (S7 l D t.nb t.most (some r.W) (some (bC r)) z) H = .ok (.nx (S7 l D (mx R t.nb (os r)) t.most (some r.W) (some (bC r)) z')) p3 := by
  unfold b9
  rw [ai ei]
  exact ef
 rw [cX, ai es, ms]
 obtain ⟨p4, e4, x4⟩ := CQ r p3
 have vc := xa.get hD
 have last : ∀ (q : PH), ∃ q', aC (bg fg (ab (aa 3) (ab (ae addW (aa 2) (aB jC (ab (aa 4) ag))) ag))) (gN 3) (S7 l D (t.nb + t.st r) t.most (some r.W) (some (bC r)) z') q = .ok (.nx (S7 l D (t.nb + t.st r) (max t.most (t.nb + t.st r + r.wt)) (some r.W) (some (bC r)) z')) q' /\ Ex q q' := fun q => by
  obtain ⟨q', e, x⟩ := CQ r q
  refine ⟨q', ?_, x⟩
  ac_nf
  rw [ai e]
  ac_nf
  rw [FV]
 have ego : (t.go r).nb - 1 = t.nb + t.st r := by show t.nb + t.st r + 1 - 1 = _; omega
 have emo : (t.go r).most = max t.most (t.nb + t.st r + r.wt) := rfl
 rw [ego, emo]
 have lg := lt.go ok r
 rcases lQ r with hw | ⟨s, hw⟩
 ·have ew : bC r = .az := by unfold bC; rw [hw]
  have en : jN t R r = R := by unfold jN; rw [hw]
  rw [en] at lg
  obtain ⟨q', e5, x5⟩ := last p3
  refine ⟨some (bC r), z', q', R, ?_, x5.get vc, hx.trans (xa.trans x5), lg, by omega⟩
  show aq _ _ _ p3 = _
  rw [cX, iS, e9, ai (show eT (ae fy (aa 5) (eC .az)) (S7 l D (t.nb + t.st r) t.most (some r.W) (some (bC r)) z') p3 = .ok false p3 by rw [ew]; rfl)]
  exact e5
 ·have ew : bC r = lW s := by unfold bC; rw [hw]
  have en : jN t R r = cQ R s (t.nb + t.st r + r.wt) := by unfold jN; rw [hw]
  rw [en] at lg
  have oA := x4.get vc
  generalize zA : p4.set D (.bM ((cQ R s (t.nb + t.st r + r.wt)).map cV)) = p5
  have hD5 : p5[D]? = some (.bM ((cQ R s (t.nb + t.st r + r.wt)).map cV)) := by rw [<- zA, List.getElem?_set_self (List.getElem?_eq_some_iff.mp oA).1]
  have x5 : Ex ph p5 := by rw [<- zA]; exact iT (hx.trans (xa.trans x4)) FW _
  obtain ⟨q', e6, x6⟩ := last p5
  refine ⟨some (bC r), z', q', _, ?_, x6.get hD5, x5.trans x6, lg, wX _ _ _⟩
  show aq _ _ _ p3 = _
  rw [cX, iS, e9, ai (show eT (ae fy (aa 5) (eC .az)) (S7 l D (t.nb + t.st r) t.most (some r.W) (some (bC r)) z') p3 = .ok true p3 by rw [ew]; rfl)]
  have e5 : aC (ae addW (aa 2) (aB jC (ab (aa 4) ag))) (pG (aa 1) (aa 5)) (S7 l D (t.nb + t.st r) t.most (some r.W) (some (bC r)) z') p3 = .ok (.nx (S7 l D (t.nb + t.st r) t.most (some r.W) (some (bC r)) z')) p5 := by
   ac_nf
   rw [ai e4]
   ac_nf
   rw [QF]
   ac_nf
   rw [ew, ai (QG oA (Ei _ _ _) (by intro z; cases z) (by rw [List.length_map]; exact Nat.lt_of_lt_of_le (Nat.lt_succ_of_le hR) (small (by omega))) _), V4, zA]
   rfl
  rw [if_pos rfl, ai e5]
  exact e6
theorem Bu {m : EM} {σ : aE} {ph ph' : PH} {l : Nat} {ws : List W} {g : GM} {b : SM} {r : Out Fl} (hm : m σ ph = .ok (.ref l) ph') (hl : ph'[l]? = some (.lst ws)) (e : cP (fun p => decide (p[l]? = some (.lst ws))) g b ws σ ph' = r) : b9 (di m) g b σ ph = r := by
 unfold b9
 rw [ai (jG hm hl)]
 exact e
theorem tL {ph : PH} {l : Nat} {rs : List Rw} (hl : ph[l]? = some (.lst (rs.map Rw.W))) (hz : rs.length <= 100) : ∃ ph', ju [.ref l] ph = .ok (.int (bt rs)) ph' /\ Ex ph ph' := by
 unfold ju
 rw [k6]
 simp only [Nat.reduceSub, List.reduceReplicate]
 suffices key : ∃ ph', gQ [some (.ref l), none, none, none, none, none, none] ph = Out.ok (Fl.rt (.int (bt rs))) ph' /\ Ex ph ph' by
  obtain ⟨ph', k1, k2⟩ := key
  exact ⟨ph', by rw [ai k1]; rfl, k2⟩
 unfold gQ
 rw [b6 (w := .ref ph.length) (ph1 := ph ++ [.bM []]) (by rw [SS, SU])]
 simp only [List.set_cons_zero, List.set_cons_succ]
 rw [b6 (w := .int (-1)) (ph1 := ph ++ [.bM []]) rfl]
 simp only [List.set_cons_zero, List.set_cons_succ]
 rw [b6 (w := .int 0) (ph1 := ph ++ [.bM []]) rfl]
 simp only [List.set_cons_zero, List.set_cons_succ]
 have gD : (ph ++ [PO.bM []])[ph.length]? = some (.bM (([] : Wm).map cV)) := aZ _ _
 have x1 : Ex ph (ph ++ [PO.bM []]) := Ex.one _ _
 generalize ph ++ [PO.bM []] = p1 at gD x1
 generalize hDd : ph.length = D at gD
 obtain ⟨ao, H', e, x', y', z', R', rfl, hD', jn, lt', hR'⟩ := jF (chk := fun p => decide (p[l]? = some (.lst (rs.map Rw.W)))) (g := gN 4) (b := _)
  (fun k σ H => ∃ x y z R, σ = S7 l D ((bS.run (rs.take k)).nb - 1) (bS.run (rs.take k)).most x y z /\ H[D]? = some (.bM (R.map cV)) /\ Ex ph H /\ LT (bS.run (rs.take k)) R /\ R.length <= k) (rs.map Rw.W) (S7 l D (-1) 0 none none none) p1
  (fun k σ H hI => by obtain ⟨_, _, _, _, _, _, x, _⟩ := hI; exact decide_eq_true (x.get hl))
  (fun k w σ H hk hI => by
   obtain ⟨x, y, z, R, rfl, hD, hx, lt, hR⟩ := hI
   rw [List.getElem?_map] at hk
   cases hr : rs[k]? with
   | none => rw [hr] at hk; cases hk
   | some r =>
    rw [hr] at hk
    cases hk
    have zw := (List.getElem?_eq_some_iff.mp hr).1
    obtain ⟨y', z', H', R', e, g1, g2, g3, g4⟩ := Q3 (l := l) hD (Nat.le_of_eq hDd) hx hr lt (by omega) y z
    exact ⟨_, H, rfl, _, H', e, _, .inl rfl, _, y', z', R', rfl, g1, g2, g3, by omega⟩)
  ⟨none, none, none, [], rfl, gD, x1, ⟨fun _ _ _ h => by simp at h, fun s => by show (0 : Int) = max 0 (0 - 0); rfl⟩, Nat.le_refl _⟩
 rw [List.length_map, List.take_length] at e
 rw [cX, ai (Bu (m := aa 0) (show aa 0 (S7 l D (-1) 0 none none none) p1 = .ok (.ref l) p1 from rfl) (x1.get hl) e)]
 exact ⟨H', rfl, jn⟩
theorem OJ (x : Rw) : bound x x = true := by
 cases x with
 | dd d w a b => cases w <;> simp [bound, Rw.out, ez, Rw.wr, Rw.rd]
 | _ => simp [bound, Rw.out, ez, Rw.wr, Rw.rd]
structure Mt (rs tl : List Rw) (ps : List Nat) : Prop where
 len : ps.length = rs.length
 nd : ps.Nodup
 row : ∀ (i p : Nat), ps[i]? = some p -> ∃ x, rs[i]? = some x /\ tl[p]? = some x
 ord : ∀ (i j p q : Nat) (x y : Rw), i < j -> ps[i]? = some p -> ps[j]? = some q -> q < p -> rs[i]? = some x -> rs[j]? = some y -> bound x y = false
def km (k m : Nat) : Nat := if m = k then k + 1 else if m = k + 1 then k else m
theorem Tb {k a b : Nat} (h : km k a = km k b) : a = b := by
 unfold km at h
 split at h <;> split at h <;> first | omega | (split at h <;> first | omega | (split at h <;> omega))
theorem Tc (p q : List Rw) (x y : Rw) (m : Nat) : (p ++ y :: x :: q)[km p.length m]? = (p ++ x :: y :: q)[m]? := by
 unfold km
 split
 ·rename_i h; subst h; simp
 ·split
  ·rename_i h; subst h; simp
  ·by_cases h : m < p.length
   ·rw [List.getElem?_append_left h, List.getElem?_append_left h]
   ·obtain ⟨d, rfl⟩ : ∃ d, m = p.length + (d + 2) := ⟨m - p.length - 2, by omega⟩
    rw [List.getElem?_append_right (by omega), List.getElem?_append_right (by omega), Nat.add_sub_cancel_left]
    rfl
theorem Sw.mt {rs tl : List Rw} (h : Sw rs tl) : ∃ ps, Mt rs tl ps := by
 induction h with
 | refl =>
  refine ⟨List.range rs.length, by simp, List.nodup_range, fun i p hp => ?_, fun i j p q x y kj hp hq hqp => ?_⟩
  ·obtain ⟨hi, e⟩ := List.getElem?_eq_some_iff.mp hp
   rw [List.getElem_range] at e
   subst e
   rw [List.length_range] at hi
   exact ⟨rs[i], by simp [hi], by simp [hi]⟩
  ·obtain ⟨hi, e⟩ := List.getElem?_eq_some_iff.mp hp
   obtain ⟨hj, e'⟩ := List.getElem?_eq_some_iff.mp hq
   rw [List.getElem_range] at e e'
   omega
 | @step p q x y _ hb ih =>
  obtain ⟨ps, M⟩ := ih
  have gm : ∀ (i m : Nat), (ps.map (km p.length))[i]? = some m -> ∃ a, ps[i]? = some a /\ km p.length a = m := fun i m h => by
   rw [List.getElem?_map] at h
   exact Option.map_eq_some_iff.mp h
  refine ⟨ps.map (km p.length), by simp [M.len], ?_, fun i m hm => ?_, fun i j m n u v kj hm hn cS hu hv => ?_⟩
  ·unfold List.Nodup
   rw [List.pairwise_map]
   exact M.nd.imp fun h e => h (Tb e)
  ·obtain ⟨a, ha, rfl⟩ := gm i m hm
   obtain ⟨u, h1, h2⟩ := M.row i a ha
   exact ⟨u, h1, by rw [Tc]; exact h2⟩
  ·obtain ⟨a, ha, rfl⟩ := gm i m hm
   obtain ⟨b, mR, rfl⟩ := gm j n hn
   by_cases hab : b < a
   ·exact M.ord i j a b u v kj ha mR hab hu hv
   ·have ne : a ≠ b := fun e => by
     subst e
     have := (List.getElem?_inj (List.getElem?_eq_some_iff.mp ha).1 M.nd).mp (ha.trans mR.symm)
     omega
    have : a = p.length /\ b = p.length + 1 := by
     unfold km at cS
     split at cS <;> split at cS <;> first | omega | (split at cS <;> first | omega | (split at cS <;> omega))
    obtain ⟨rfl, rfl⟩ := this
    obtain ⟨u', h1, h2⟩ := M.row i _ ha
    obtain ⟨v', h3, h4⟩ := M.row j _ mR
    rw [hu] at h1; cases h1
    rw [hv] at h3; cases h3
    simp at h2 h4
    rw [<- h2, <- h4]
    exact hb
theorem Mt.Y8 {rs tl : List Rw} {ps : List Nat} (M : Mt rs tl ps) (hl : tl.length = rs.length) {p : Nat} (hp : p < tl.length) : ∃ j : Nat, ps[j]? = some p := by
 have sub : ∀ x ∈ ps, x ∈ List.range tl.length := fun x hx => by
  obtain ⟨i, hi⟩ := List.mem_iff_getElem?.mp hx
  obtain ⟨u, _, h2⟩ := M.row i x hi
  exact List.mem_range.mpr (List.getElem?_eq_some_iff.mp h2).1
 have := sub_len M.nd sub (by rw [List.length_range, M.len, hl]; exact Nat.le_refl _) p (List.mem_range.mpr hp)
 exact List.mem_iff_getElem?.mp this
theorem Mt.first {rs tl : List Rw} {ps : List Nat} (M : Mt rs tl ps) (hl : tl.length = rs.length) {k a b : Nat} {x : Rw} (hx : rs[k]? = some x) (ha : ps[k]? = some a) (hb : b < a) (FX : tl[b]? = some x) : b ∈ ps.take k := by
 obtain ⟨j, hj⟩ := M.Y8 hl (List.getElem?_eq_some_iff.mp FX).1
 obtain ⟨u, h1, h2⟩ := M.row j b hj
 rw [FX] at h2; cases h2
 have qS : j < k := by
  rcases Nat.lt_trichotomy j k with h | h | h
  ·exact h
  ·subst h; rw [ha] at hj; cases hj; omega
  ·have := M.ord k j a b x x h ha hj hb hx h1
   rw [OJ] at this
   cases this
 exact List.mem_iff_getElem?.mpr ⟨j, by rw [List.getElem?_take_of_lt qS]; exact hj⟩
theorem Mt.free {rs tl : List Rw} {ps : List Nat} (M : Mt rs tl ps) {k a : Nat} (ha : ps[k]? = some a) : a ∉ ps.take k := fun h => by
 obtain ⟨j, hj⟩ := List.mem_iff_getElem?.mp h
 have qS : j < k := by
  have := (List.getElem?_eq_some_iff.mp hj).1
  rw [List.length_take] at this
  omega
 rw [List.getElem?_take_of_lt qS] at hj
 have := (List.getElem?_inj (List.getElem?_eq_some_iff.mp hj).1 M.nd).mp (hj.trans ha.symm)
 omega
theorem Q4 {F : Nat -> Option W} {n a : Nat} {w : W} (ha : a < n) (hw : F a = some w) (hb : ∀ b, b < a -> F b = none) : ∃ ws, (List.range n).filterMap F = w :: ws := by
 obtain ⟨m, rfl⟩ : ∃ m, n = a + (m + 1) := ⟨n - a - 1, by omega⟩
 rw [List.range_add, List.filterMap_append]
 have : (List.range a).filterMap F = [] := by
  rw [List.filterMap_eq_nil_iff]
  exact fun b h => hb b (List.mem_range.mp h)
 rw [this, List.nil_append, List.range_succ_eq_map, List.map_cons, List.filterMap_cons_some (b := w) (by simpa using hw)]
 exact ⟨_, rfl⟩
theorem Td {ph H : PH} {l D P k a : Nat} {rs tl : List Rw} {ps : List Nat} {r : Rw} (hl : ph[l]? = some (.lst (rs.map Rw.W))) (hD : ph[D]? = some (.lst (tl.map Rw.W))) (hz : tl.length <= 100) (M : Mt rs tl ps) (bz : tl.length = rs.length) (hx : Ex ph H) (hP : H[P]? = some (.lst ((ps.take k).map fun p : Nat => W.int (p : Int)))) (hPl : ph.length <= P) (hr : rs[k]? = some r) (ha : ps[k]? = some a) (o : Option W) :
  ∃ o' H', (aq (aC (cZ (eY (ab (bg cb (ab (aa 1) ag)) ag)) [none, some 3, some 2, some 1] (gN 0) (cE (eT (ae aV (ae aj (aa 3) (aa 0)) (aa 1))) (eT (ae ja (aa 0) (aa 2)))) (aa 0)) (gN 4)) (aq (aU (eT (ae aV (aa 4) (bQ ag))) (aN (eC .az)) aX) (fV (cI cL fc (aa 2) (ab (ae aj (aa 4) (eC (.int (0)))) ag)))))
   [some (.ref l), some (.ref D), some (.ref P), some r.W, o] H = .ok (.nx [some (.ref l), some (.ref D), some (.ref P), some r.W, o']) H' /\ Ex ph H' /\ H'[P]? = some (.lst ((ps.take (k + 1)).map fun p : Nat => W.int (p : Int))) := by
 have oB := hx.get hD
 have vd : H[P]? = some (.lst (((ps.take k).map fun p : Nat => (p : Int)).map W.int)) := by rw [hP, List.map_map]; rfl
 let F : Nat -> Option W := fun p => if tl[p]? = some r /\ p ∉ ps.take k then some (.int (p : Int)) else none
 obtain ⟨H1, c1, x1⟩ := lP (cap := [none, some 3, some 2, some 1]) (g := gN 0) (c := cE (eT (ae aV (ae aj (aa 3) (aa 0)) (aa 1))) (eT (ae ja (aa 0) (aa 2)))) (e := aa 0) (σ := [some (.ref l), some (.ref D), some (.ref P), some r.W, o]) (List.range tl.length) (fun p => W.int (0 + (p : Int)))
  (im := eY (ab (bg cb (ab (aa 1) ag)) ag)) (ph := H) (ph0 := H) (chk := fun _ => true) (by
   rw [tV (j := (tl.length : Int)) (ph' := H) (by
    ac_nf
    rw [ai (gk oB), List.length_map]
    rfl) (by omega) (by omega), Int.toNat_natCast]
   rfl) (fun _ _ => rfl) (small (by simp; omega)) F (fun σ => ∃ y, σ = [y, some r.W, some (.ref P), some (.ref D)]) ⟨_, rfl⟩ (by
  rintro p hp σ G ⟨y, rfl⟩ hG
  have hpl := List.mem_range.mp hp
  refine ⟨_, rfl, ⟨_, rfl⟩, ?_⟩
  show ∃ t H1, cE _ _ [some (.int (0 + (p : Int))), some r.W, some (.ref P), some (.ref D)] G = _ /\ _
  rw [Int.zero_add]
  have e1 : lift (aj (.ref D) (.int (p : Int))) G = .ok (tl[p]).W G := dv (hG.get oB) (by simp [hpl])
  have e2 : lift (aV (tl[p]).W r.W) G = .ok (.bl (decide (tl[p] = r))) G := ub (by
   unfold bO
   rw [wY G 38, wY G 38, <- CO])
  have e3 := Pl (hG.get vd) (p : Int)
  have em : ((p : Int) ∈ (ps.take k).map fun p : Nat => (p : Int)) ↔ p ∈ ps.take k := by
   constructor
   ·intro h
    obtain ⟨q, hq, e⟩ := List.mem_map.mp h
    have : q = p := by omega
    exact this ▸ hq
   ·intro h; exact List.mem_map_of_mem h
  have hF : F p = if tl[p] = r /\ p ∉ ps.take k then some (.int (p : Int)) else none := by
   show (if tl[p]? = some r /\ p ∉ ps.take k then some (W.int (p : Int)) else none) = _
   simp [hpl]
  rw [hF]
  ac_nf
  rw [ai e1, ai e2]
  by_cases h1 : tl[p] = r
  ·try simp only [bB, Nat.reduceSub, List.reduceReplicate, List.set_cons_zero, List.set_cons_succ, if_true, if_false, ↓reduceIte, String.reduceEq, reduceCtorEq, decide_eq_true h1]
   rw [ai e3]
   by_cases h2 : p ∈ ps.take k
   ·refine ⟨false, G, ?_, Ex.refl _, .inl ⟨rfl, by simp [h2]⟩⟩
    rw [decide_eq_true (em.mpr h2)]
    rfl
   ·refine ⟨true, G, ?_, Ex.refl _, .inr ⟨rfl, .int (p : Int), G, rfl, Ex.refl _, by simp [h1, h2]⟩⟩
    rw [decide_eq_false (fun z => h2 (em.mp z))]
    rfl
  ·refine ⟨false, G, ?_, Ex.refl _, .inl ⟨rfl, by simp [h1]⟩⟩
   try simp only [bB, Nat.reduceSub, List.reduceReplicate, List.set_cons_zero, List.set_cons_succ, if_true, if_false, ↓reduceIte, String.reduceEq, reduceCtorEq, decide_eq_false h1])
 obtain ⟨u, ou, ki⟩ := M.row k a ha
 rw [hr] at ou; cases ou
 have hal := (List.getElem?_eq_some_iff.mp ki).1
 obtain ⟨ws, ew⟩ := Q4 (F := F) (n := tl.length) (a := a) (w := .int (a : Int)) hal (by
  show (if tl[a]? = some r /\ a ∉ ps.take k then some (W.int (a : Int)) else none) = _
  rw [if_pos ⟨ki, M.free ha⟩]) (fun b hb => by
  show (if tl[b]? = some r /\ b ∉ ps.take k then some (W.int (b : Int)) else none) = _
  rw [if_neg]
  rintro ⟨h1, h2⟩
  exact h2 (M.first bz hr ha hb h1))
 rw [b6 c1]
 simp only [List.set_cons_zero, List.set_cons_succ]
 have gS : H1[H.length]? = some (.lst ((List.range tl.length).filterMap F)) := x1.get (aZ _ _)
 have hd : ∃ ds, bf (dat (H1 ++ [PO.lst []]) 39) ((List.range tl.length).filterMap F) = some ds := CD _ fun w hw => by
  obtain ⟨q, _, e⟩ := List.mem_filterMap.mp hw
  have e : (if tl[q]? = some r /\ q ∉ ps.take k then some (W.int (q : Int)) else none) = some w := e
  split at e
  ·cases e; exact ⟨_, xR _ _ _⟩
  ·cases e
 obtain ⟨ds, hd⟩ := hd
 have eE := ub (eq_nil ((Ex.one H1 (.lst [])).get gS) (aZ _ _) hd)
 have eF : ((List.range tl.length).filterMap F).isEmpty = false := by rw [ew]; rfl
 rw [eF] at eE
 rw [cX, iS, e9, ai (show eT (ae aV (aa 4) (bQ ag)) [some (.ref l), some (.ref D), some (.ref P), some r.W, some (.ref H.length)] H1 = .ok false (H1 ++ [.lst []]) by
  ac_nf
  rw [jH _ _ _ (small (by simp)), ai eE]
  rfl)]
 have x2 : Ex H (H1 ++ [PO.lst []]) := ((Ex.one _ _).trans x1).trans (Ex.one _ _)
 have FY : (H1 ++ [PO.lst []])[H.length]? = some (.lst ((List.range tl.length).filterMap F)) := (Ex.one _ _).get gS
 generalize H1 ++ [PO.lst []] = H2 at x2 FY
 have zB := x2.get hP
 have ets : ps.take (k + 1) = ps.take k ++ [a] := by rw [List.take_succ, ha]; rfl
 refine ⟨some (.ref H.length), H2.set P (.lst (((ps.take k).map fun p : Nat => W.int (p : Int)) ++ [.int (a : Int)])), ?_, iT (hx.trans x2) hPl _, ?_⟩
 ·show fV _ _ H2 = _
  ac_nf
  rw [ai (o9 zB), ai (show lift (aj (.ref H.length) (.int 0)) H2 = .ok (.int (a : Int)) H2 from dv (k := 0) FY (by rw [ew]; rfl))]
  ac_nf
  rw [ai (sC zB (by
   rw [List.length_map, List.length_take]
   have := M.len
   exact Nat.lt_of_lt_of_le (by omega) (small (n := 1000) (by omega))) _)]
  rfl
 ·rw [List.getElem?_set_self (List.getElem?_eq_some_iff.mp zB).1, ets, List.map_append]
  rfl
theorem Q5 {ph : PH} {l D : Nat} {rs tl : List Rw} {ps : List Nat} (hl : ph[l]? = some (.lst (rs.map Rw.W))) (hD : ph[D]? = some (.lst (tl.map Rw.W))) (hz : tl.length <= 100) (M : Mt rs tl ps) (bz : tl.length = rs.length) : ∃ P ph', vG [.ref l, .ref D] ph = .ok (.ref P) ph' /\ Ex ph ph' /\ ph'[P]? = some (.lst (ps.map fun p : Nat => W.int (p : Int))) := by
 unfold vG
 rw [mF]
 simp only [Nat.reduceSub, List.reduceReplicate]
 suffices key : ∃ P ph', kE [some (.ref l), some (.ref D), none, none, none] ph = Out.ok (Fl.rt (.ref P)) ph' /\ Ex ph ph' /\ ph'[P]? = some (.lst (ps.map fun p : Nat => W.int (p : Int))) by
  obtain ⟨P, ph', k1, k2⟩ := key
  exact ⟨P, ph', by rw [ai k1]; rfl, k2⟩
 unfold kE
 rw [b6 (w := .ref ph.length) (ph1 := ph ++ [.lst []]) (by exact tU [] _ (small (Nat.zero_le _)))]
 simp only [List.set_cons_zero, List.set_cons_succ]
 have gP : (ph ++ [PO.lst []])[ph.length]? = some (.lst ((ps.take 0).map fun p : Nat => W.int (p : Int))) := aZ _ _
 have x1 : Ex ph (ph ++ [PO.lst []]) := Ex.one _ _
 generalize ph ++ [PO.lst []] = p1 at gP x1
 generalize hPd : ph.length = P at gP
 obtain ⟨ao, H', e, x', y', rfl, jn, vd⟩ := jF (chk := fun p => decide (p[l]? = some (.lst (rs.map Rw.W)))) (g := gN 3) (b := _)
  (fun k σ H => ∃ x y, σ = [some (.ref l), some (.ref D), some (.ref P), x, y] /\ Ex ph H /\ H[P]? = some (.lst ((ps.take k).map fun p : Nat => W.int (p : Int)))) (rs.map Rw.W) [some (.ref l), some (.ref D), some (.ref P), none, none] p1
  (fun k σ H hI => by obtain ⟨_, _, _, x, _⟩ := hI; exact decide_eq_true (x.get hl))
  (fun k w σ H hk hI => by
   obtain ⟨x, y, rfl, hx, hP⟩ := hI
   rw [List.getElem?_map] at hk
   cases hr : rs[k]? with
   | none => rw [hr] at hk; cases hk
   | some r =>
    rw [hr] at hk
    cases hk
    have zw : k < ps.length := by rw [M.len]; exact (List.getElem?_eq_some_iff.mp hr).1
    obtain ⟨o', H', e, g1, g2⟩ := Td hl hD hz M bz hx hP (Nat.le_of_eq hPd) hr (a := ps[k]) (by simp [zw]) y
    exact ⟨_, H, rfl, _, H', e, _, .inl rfl, _, o', rfl, g1, g2⟩)
  ⟨none, none, rfl, x1, gP⟩
 rw [List.length_map, <- M.len, List.take_length] at vd
 rw [cX, ai (Bu (m := aa 0) (show aa 0 [some (.ref l), some (.ref D), some (.ref P), none, none] p1 = .ok (.ref l) p1 from rfl) (x1.get hl) e)]
 exact ⟨P, H', rfl, jn, vd⟩
theorem DO {m : AM} {σ : aE} {q : PH} {j : Int} {g : GM} {b : SM} {r : Out Fl} (h : m σ q = .ok [.int j] q) (h1 : -1000 <= j) (h2 : j <= 1000) (e : cP (fun _ => true) g b (eS 0 j.toNat) σ q = r) : b9 (eY m) g b σ q = r := by
 unfold b9
 rw [ai (tV h (by omega) (by omega))]
 exact e
theorem V8 {m : AM} {σ : aE} {q : PH} {i j : Int} {g : GM} {b : SM} {r : Out Fl} (h : m σ q = .ok [.int i, .int j] q) (h1 : -1000 <= i) (h2 : i <= 1000) (h3 : -1000 <= j) (h4 : j <= 1000) (e : cP (fun _ => true) g b (eS i (j - i).toNat) σ q = r) : b9 (mM m) g b σ q = r := by
 unfold b9
 rw [ai (VD h (by omega) (by omega) (by omega) (by omega))]
 exact e
theorem XU {ph : PH} {l P : Nat} {rs tl : List Rw} {ps : List Nat} (hl : ph[l]? = some (.lst (rs.map Rw.W))) (M : Mt rs tl ps) (hP : ph[P]? = some (.lst (ps.map fun p : Nat => W.int (p : Int)))) (a : Option W) (i j : Nat) (kj : i < j) (hj : j < rs.length) :
  ∃ H', (aU (cE (eT (ae jl (ae aj (aa 2) (aa 3)) (ae aj (aa 2) (aa 4)))) (ck (aB jB (ab (ae aj (aa 0) (aa 3)) (ab (ae aj (aa 0) (aa 4)) ag))))) (aN (eC (.bl false))) aX) [some (.ref l), a, some (.ref P), some (.int (i : Int)), some (.int (j : Int))] ph = .ok (.nx [some (.ref l), a, some (.ref P), some (.int (i : Int)), some (.int (j : Int))]) H' /\ Ex ph H' := by
 have hi : i < rs.length := by omega
 have FZ : i < ps.length := by rw [M.len]; exact hi
 have F0 : j < ps.length := by rw [M.len]; exact hj
 have e1 : lift (aj (.ref P) (.int (i : Int))) ph = .ok (.int (ps[i] : Int)) ph := dv hP (by simp [FZ])
 have e2 : lift (aj (.ref P) (.int (j : Int))) ph = .ok (.int (ps[j] : Int)) ph := dv hP (by simp [F0])
 have e3 : lift (aj (.ref l) (.int (i : Int))) ph = .ok (rs[i]).W ph := dv hl (by simp [hi])
 have e4 : lift (aj (.ref l) (.int (j : Int))) ph = .ok (rs[j]).W ph := dv hl (by simp [hj])
 by_cases cS : ps[j] < ps[i]
 ·obtain ⟨H', e5, x5⟩ := DM rs[i] rs[j] ph
  have hb := M.ord i j ps[i] ps[j] rs[i] rs[j] kj (by simp [FZ]) (by simp [F0]) cS (by simp [hi]) (by simp [hj])
  rw [hb] at e5
  refine ⟨H', ?_, x5⟩
  ac_nf
  rw [ai e1, ai e2]
  try simp only [bB, Nat.reduceSub, List.reduceReplicate, List.set_cons_zero, List.set_cons_succ, if_true, if_false, ↓reduceIte, String.reduceEq, reduceCtorEq, decide_eq_true (show (ps[j] : Int) < (ps[i] : Int) by omega)]
  rw [ai e3, ai e4, ai e5]
  rfl
 ·refine ⟨ph, ?_, Ex.refl _⟩
  ac_nf
  rw [ai e1, ai e2]
  try simp only [bB, Nat.reduceSub, List.reduceReplicate, List.set_cons_zero, List.set_cons_succ, if_true, if_false, ↓reduceIte, String.reduceEq, reduceCtorEq, decide_eq_false (show ¬ (ps[j] : Int) < (ps[i] : Int) by omega)]
theorem V9 {ph : PH} {l D : Nat} {rs tl : List Rw} (hl : ph[l]? = some (.lst (rs.map Rw.W))) (hD : ph[D]? = some (.lst (tl.map Rw.W))) (hz : rs.length <= 100) (sw : Sw rs tl) : ∃ ph', sD [.ref l, .ref D] ph = .ok (.bl true) ph' /\ Ex ph ph' := by
  have bz := sw.len
  obtain ⟨ps, M⟩ := sw.mt
  unfold sD
  rw [mF]
  simp only [Nat.reduceSub, List.reduceReplicate]
  suffices key : ∃ ph', kJ [some (.ref l), some (.ref D), none, none, none] ph = Out.ok (Fl.rt (.bl true)) ph' /\ Ex ph ph' by
    obtain ⟨ph', k1, k2⟩ := key
    exact ⟨ph', by rw [ai k1]; rfl, k2⟩
  unfold kJ
  obtain ⟨P, p1, e1, x1, hP⟩ := Q5 hl hD (by omega) M bz
  rw [b6 (w := .ref P) (ph1 := p1) (by exact e1)]
  simp only [List.set_cons_zero, List.set_cons_succ]
  rw [cX, iS, e9, ai (show eT (ae mE (aa 2) (eC .az)) [some (.ref l), some (.ref D), some (.ref P), none, none] p1 = .ok false p1 by rfl)]
  have fZ := x1.get hl
  obtain ⟨ao, H', e, x', y', rfl, jn⟩ := jF (chk := fun _ => true) (g := gN 3) (b := b9 (mM (ab (ae addW (aa 3) (eC (.int (1)))) (ab (bg cb (ab (aa 0) ag)) ag))) (gN 4) (aU (cE (eT (ae jl (ae aj (aa 2) (aa 3)) (ae aj (aa 2) (aa 4)))) (ck (aB jB (ab (ae aj (aa 0) (aa 3)) (ab (ae aj (aa 0) (aa 4)) ag))))) (aN (eC (.bl false))) aX))
    (fun k σ H => ∃ x y, σ = [some (.ref l), some (.ref D), some (.ref P), x, y] /\ Ex p1 H) (eS 0 ((rs.length : Nat) : Int).toNat) [some (.ref l), some (.ref D), some (.ref P), none, none] p1
    (fun _ _ _ _ => rfl)
    (fun k w σ H hk hI => by
      obtain ⟨x, y, rfl, hx⟩ := hI
      obtain ⟨qP, rfl⟩ := tu hk
      rw [Int.toNat_natCast] at qP
      rw [Int.zero_add]
      obtain ⟨bF, H2, e2, y2, rfl, qR⟩ := jF (chk := fun _ => true) (g := gN 4) (b := aU (cE (eT (ae jl (ae aj (aa 2) (aa 3)) (ae aj (aa 2) (aa 4)))) (ck (aB jB (ab (ae aj (aa 0) (aa 3)) (ab (ae aj (aa 0) (aa 4)) ag))))) (aN (eC (.bl false))) aX)
        (fun _ σ H => ∃ y, σ = [some (.ref l), some (.ref D), some (.ref P), some (.int (k : Int)), y] /\ Ex p1 H) (eS ((k : Int) + 1) ((rs.length : Int) - ((k : Int) + 1)).toNat) [some (.ref l), some (.ref D), some (.ref P), some (.int (k : Int)), y] H
        (fun _ _ _ _ => rfl)
        (fun j w σ G hj hI => by
          obtain ⟨y, rfl, hG⟩ := hI
          obtain ⟨hjn, rfl⟩ := tu hj
          have ej : (k : Int) + 1 + (j : Int) = ((k + 1 + j : Nat) : Int) := by omega
          rw [ej]
          obtain ⟨G', e3, x3⟩ := XU (hG.get fZ) M (hG.get hP) (some (.ref D)) k (k + 1 + j) (by omega) (by omega)
          exact ⟨_, G, rfl, _, G', e3, _, .inl rfl, _, rfl, hG.trans x3⟩)
        ⟨y, rfl, hx⟩
      exact ⟨_, H, rfl, _, H2, V8 (i := (k : Int) + 1) (j := (rs.length : Int)) (by
        ac_nf
        rw [ai (gk (hx.get fZ)), List.length_map]
        rfl) (by omega) (by omega) (by omega) (by omega) e2, _, .inl rfl, _, _, rfl, qR⟩)
    ⟨none, none, rfl, Ex.refl _⟩
  show ∃ ph', (aq _ _ _ p1 = _) /\ _
  rw [cX, ai (DO (j := (rs.length : Int)) (by
    ac_nf
    rw [ai (gk fZ), List.length_map]
    rfl) (by omega) (by omega) e)]
  exact ⟨H', rfl, x1.trans jn⟩
noncomputable def ve : EM := (ae addW (ae addW (mP (aa 0) l9 (md (aa 2))) (bQ (ab (ae aj (aa 0) (ae addW (aa 2) (eC (.int (1))))) (ab (ae aj (aa 0) (aa 2)) ag)))) (mP (aa 0) (md (ae addW (aa 2) (eC (.int (2))))) l9))
theorem XW {ph : PH} {D k : Nat} {tl : List Rw} (hD : ph[D]? = some (.lst (tl.map Rw.W))) (hz : tl.length <= 100) (hk : k + 1 < tl.length) (a : Option W) :
  ∃ i ph', ve [some (.ref D), a, some (.int (k : Int))] ph = .ok (.ref i) ph' /\ Ex ph ph' /\ ph'[i]? = some (.lst ((tl.take k ++ tl[k + 1] :: tl[k] :: tl.drop (k + 2)).map Rw.W)) := by
 unfold ve
 try simp only [bB, Nat.reduceSub, List.reduceReplicate, List.set_cons_zero, List.set_cons_succ, if_true, if_false, ↓reduceIte, String.reduceEq, reduceCtorEq, VI, QB, QC, Y0]
 rw [ai (VJ hD k)]
 generalize h1 : ph ++ [PO.lst ((tl.map Rw.W).take k)] = p1
 have x1 : Ex ph p1 := by rw [<- h1]; exact Ex.one _ _
 have g1 : p1[ph.length]? = some (.lst ((tl.map Rw.W).take k)) := by rw [<- h1]; exact aZ _ _
 have e1 : lift (aj (.ref D) (.int ((k : Int) + 1))) p1 = .ok (tl[k + 1]).W p1 := dv (k := k + 1) (x1.get hD) (by simp [hk])
 have e2 : lift (aj (.ref D) (.int (k : Int))) p1 = .ok (tl[k]).W p1 := dv (x1.get hD) (by rw [List.getElem?_map, List.getElem?_eq_getElem (by omega)]; rfl)
 rw [ai e1, ai e2, jH _ _ _ (small (by simp))]
 generalize h2 : p1 ++ [PO.lst [(tl[k + 1]).W, (tl[k]).W]] = p2
 have x2 : Ex p1 p2 := by rw [<- h2]; exact Ex.one _ _
 have g2 : p2[p1.length]? = some (.lst [(tl[k + 1]).W, (tl[k]).W]) := by rw [<- h2]; exact aZ _ _
 rw [ai (lS (x2.get g1) g2 (small (by simp; omega)))]
 generalize h3 : p2 ++ [PO.lst ((tl.map Rw.W).take k ++ [(tl[k + 1]).W, (tl[k]).W])] = p3
 have x3 : Ex p2 p3 := by rw [<- h3]; exact Ex.one _ _
 have g3 : p3[p2.length]? = some (.lst ((tl.map Rw.W).take k ++ [(tl[k + 1]).W, (tl[k]).W])) := by rw [<- h3]; exact aZ _ _
 have vc := x3.get (x2.get (x1.get hD))
 rw [show (k : Int) + 2 = ((k + 2 : Nat) : Int) by omega, ai (SW vc (k + 2))]
 generalize h4 : p3 ++ [PO.lst ((tl.map Rw.W).drop (k + 2))] = p4
 have x4 : Ex p3 p4 := by rw [<- h4]; exact Ex.one _ _
 have g4 : p4[p3.length]? = some (.lst ((tl.map Rw.W).drop (k + 2))) := by rw [<- h4]; exact aZ _ _
 rw [lS (x4.get g3) g4 (small (by simp; omega))]
 refine ⟨_, _, rfl, (((x1.trans x2).trans x3).trans x4).trans (Ex.one _ _), ?_⟩
 rw [aZ]
 simp [List.map_append, List.map_take, List.map_drop]
theorem Wa {ph : PH} {D : Nat} {tl : List Rw} (hD : ph[D]? = some (.lst (tl.map Rw.W))) (hz : tl.length <= 100) (hb : k9 tl) : ∃ ph', rA [.ref D] ph = .ok (.bl true) ph' /\ Ex ph ph' := by
 unfold rA
 rw [k6]
 simp only [Nat.reduceSub, List.reduceReplicate]
 suffices key : ∃ ph', kr [some (.ref D), none, none] ph = Out.ok (Fl.rt (.bl true)) ph' /\ Ex ph ph' by
  obtain ⟨ph', k1, k2⟩ := key
  exact ⟨ph', by rw [ai k1]; rfl, k2⟩
 unfold kr
 obtain ⟨p1, e1, x1⟩ := tL hD hz
 rw [b6 (w := .int (bt tl)) (ph1 := p1) (by exact e1)]
 simp only [List.set_cons_zero, List.set_cons_succ]
 have oC := x1.get hD
 obtain ⟨ao, H', e, x', rfl, jn⟩ := jF (chk := fun _ => true) (g := gN 2) (b := aU (eA (ck (aB jB (ab (ae aj (aa 0) (aa 2)) (ab (ae aj (aa 0) (ae addW (aa 2) (eC (.int (1))))) ag))))) (aU (eT (ae gK (aB ju (ab ve ag)) (aa 1))) (aN (eC (.bl false))) aX) aX)
  (fun k σ H => ∃ x, σ = [some (.ref D), some (.int (bt tl)), x] /\ Ex p1 H) (eS 0 ((tl.length : Int) - 1).toNat) [some (.ref D), some (.int (bt tl)), none] p1
  (fun _ _ _ _ => rfl)
  (fun k w σ H hk hI => by
   obtain ⟨x, rfl, hx⟩ := hI
   obtain ⟨qP, rfl⟩ := tu hk
   rw [Int.zero_add]
   have lj : k + 1 < tl.length := by omega
   have oB := hx.get oC
   have e1 : lift (aj (.ref D) (.int ((k : Int) + 1))) H = .ok (tl[k + 1]).W H := dv (k := k + 1) oB (by simp [lj])
   have e2 : lift (aj (.ref D) (.int (k : Int))) H = .ok (tl[k]).W H := dv oB (by rw [List.getElem?_map, List.getElem?_eq_getElem (by omega)]; rfl)
   obtain ⟨H2, e3, x3⟩ := DM tl[k] tl[k + 1] H
   refine ⟨[some (.ref D), some (.int (bt tl)), some (.int (k : Int))], H, rfl, ?_⟩
   have et : eA (ck (aB jB (ab (ae aj (aa 0) (aa 2)) (ab (ae aj (aa 0) (ae addW (aa 2) (eC (.int (1))))) ag)))) [some (.ref D), some (.int (bt tl)), some (.int (k : Int))] H = .ok (!bound tl[k] tl[k + 1]) H2 := by
    ac_nf
    rw [ai e2, ai e1, ai e3]
    ac_nf
   rw [iS, ai et]
   cases hbd : bound tl[k] tl[k + 1] with
   | true => exact ⟨_, H2, rfl, _, .inl rfl, _, rfl, hx.trans x3⟩
   | false =>
    obtain ⟨i, H3, e4, x4, g4⟩ := XW (x3.get oB) hz lj (some (.int (bt tl)))
    have zz : (tl.take k ++ tl[k + 1] :: tl[k] :: tl.drop (k + 2)).length <= 100 := by simp; omega
    obtain ⟨H4, e5, x5⟩ := tL g4 zz
    have qG := hb (tl.take k) (tl.drop (k + 2)) tl[k] tl[k + 1] (yp lj) hbd
    refine ⟨.nx [some (.ref D), some (.int (bt tl)), some (.int (k : Int))], H4, ?_, _, .inl rfl, _, rfl, ((hx.trans x3).trans x4).trans x5⟩
    simp only [Bool.not_false, if_true]
    ac_nf
    rw [ai e4, ai e5]
    try simp only [bB, Nat.reduceSub, List.reduceReplicate, List.set_cons_zero, List.set_cons_succ, if_true, if_false, ↓reduceIte, String.reduceEq, reduceCtorEq, decide_eq_false (show ¬ bt (tl.take k ++ tl[k + 1] :: tl[k] :: tl.drop (k + 2)) < bt tl by omega)])
  ⟨none, rfl, Ex.refl _⟩
 unfold ve at e
 rw [cX, ai (DO (j := (tl.length : Int) - 1) (by
  ac_nf
  rw [ai (gk oC), List.length_map]
  rfl) (by omega) (by omega) e)]
 exact ⟨H', rfl, x1.trans jn⟩
noncomputable def wB : SM := (aN (gz (ae aV (bg cb (ab (aB nc (ab (aa 5) ag)) ag)) (aa 1)) (gz (ae aV (bg cb (ab (aa 6) ag)) (ae addW (aa 1) (eC (.int (1))))) (ae aV (aa 5) (aa 4)))))
noncomputable def B0 : SM := aq (fV (cI cL fc (aa 6) (ab (bK (ab (eC (.str "turn")) ag)) ag))) wB
noncomputable def B1 : SM := aq (aU (cO (eT (ae jl (aB ju (ab (aa 6) ag)) (aB ju (ab (aa 4) ag)))) (eA (ck (aB rA (ab (aa 6) ag))))) (aN (eC (.bl false))) aX) B0
noncomputable def w4 : SM := aq (aU (eA (ck (bg nZ (ab (cZ (di (aa 6)) [none] (gN 0) df (kh "tuple" (aa 0))) ag)))) (aN (eC (.bl false))) aX) B1
noncomputable def CU : SM := aq (aU (cO (eA (ck (kh "list" (aa 6)))) (cO (eT (ae d9 (bg cb (ab (aa 6) ag)) (aa 1))) (cO (eT (ae d9 (aa 5) (aa 4))) (eA (ck (aB sD (ab (aa 4) (ab (aa 6) ag)))))))) (aN (eC (.bl false))) aX) w4
noncomputable def CV : SM := aq (aC (aB nc (ab (aa 5) ag)) (gN 6)) CU
noncomputable def w8 : SM := aq (aC (bg kT (ab (aa 4) ag)) (gN 5)) CV
noncomputable def xf : SM := aq (aC (cZ (eY (ab (aa 1) ag)) [none, some 2, some 3, some 0] (gN 0) df (aB lB (ab (ae addW (aB c6 (ab (aa 3) (ab (ae addW (eC (.int (2))) (aa 0)) ag))) (ae fD (eC (.int (7))) (ae cw (aa 0) (eC (.int (11)))))) (ab (aa 1) (ab (aa 2) ag))))) (gN 4)) w8
noncomputable def CW : SM := aq (aU (eT (ae aV (ae cc (ae cw (aB c6 (ab (aa 0) (ab (eC (.int (1))) ag))) (eC (.int (96)))) (eC (.int (3)))) (eC (.int (1))))) (aq (aC (eC (.int (2))) (gN 2)) (aC (eC (.int (1))) (gN 3))) aX) xf
noncomputable def CY : SM := aq (aC (ae addW (eC (.int (1))) (ae cc (ae cw (aB c6 (ab (aa 0) (ab (eC (.int (1))) ag))) (eC (.int (8)))) (eC (.int (12))))) (gN 3)) CW
noncomputable def xg : SM := aq (aC (ae addW (eC (.int (2))) (ae cc (aB c6 (ab (aa 0) (ab (eC (.int (1))) ag))) (eC (.int (8))))) (gN 2)) CY
noncomputable def CZ : SM := aq (aU (eT (ae aV (ae cc (ae cw (aB c6 (ab (aa 0) (ab (eC (.int (0))) ag))) (eC (.int (11)))) (eC (.int (9)))) (eC (.int (1))))) (aC (ae addW (eC (.int (11))) (ae cc (ae cw (aB c6 (ab (aa 0) (ab (eC (.int (0))) ag))) (eC (.int (99)))) (eC (.int (14))))) (gN 1)) aX) xg
noncomputable def C0 : SM := aq (aC (ae cc (aB c6 (ab (aa 0) (ab (eC (.int (0))) ag))) (eC (.int (11)))) (gN 1)) CZ
theorem Q6 : nN = C0 := rfl
def qc (o : Out Fl) : Prop := ∃ ph', o = .ok (.rt (.bl true)) ph'
theorem C1 : ∀ ws : List W, (∀ (j : Nat) w, ws[j]? = some w -> ∃ r : Rw, w = r.W) -> ∃ rs : List Rw, ws = rs.map Rw.W
 | [], _ => ⟨[], rfl⟩
 | w :: ws, h => by
  obtain ⟨r, rfl⟩ := h 0 w rfl
  obtain ⟨rs, rfl⟩ := C1 ws fun j u hu => h (j + 1) u (by simpa using hu)
  exact ⟨r :: rs, rfl⟩
abbrev SL (ns : List Int) (a b c d e f : Option W) : aE := [some (.fl (ns.map W.int)), a, b, c, d, e, f]
theorem B2 {ph : PH} {i j : Nat} {a b : List Rw} (hi : ph[i]? = some (.lst (a.map Rw.W))) (hj : ph[j]? = some (.lst (b.map Rw.W))) : bO ph (.ref i) (.ref j) = some (decide (a = b)) := by
 unfold bO
 rw [tB hi, tB hj]
 show some (PyData.eqvAll _ _) = _
 rw [wz]
theorem XX (r : Rw) : lift (fH "tuple" r.W) = aw (.bl true) := by
 cases r <;> exact (EL _ _).trans (by rw [EO])
theorem xG {t : TM} {a b : SM} {σ : aE} {ph ph' : PH} (h : t σ ph = .ok false ph') : aq (aU t a aX) b σ ph = b σ ph' := by
 rw [cX, iS, e9, ai h]
 rfl
abbrev SR (ns : List Int) (n : Nat) (b c : Option W) (R Hd D : Nat) : aE := SL ns (some (.int (n : Int))) b c (some (.ref R)) (some (.ref Hd)) (some (.ref D))
theorem t12 (ns : List Int) (n : Nat) (b c : Option W) {R Hd D : Nat} {ph : PH} {rs : List Rw} {ws : List W} (hR : ph[R]? = some (.lst (rs.map Rw.W))) (hH : ph[Hd]? = some (.lst (rs.map Rw.W))) (hD : ph[D]? = some (.lst ws)) (hn : rs.length = n) (hw : ws.length = n + 1) (hz : n <= 40) : qc (wB (SR ns n b c R Hd D) ph) := by
 unfold wB
 obtain ⟨D2, FT, p1, e1, x1, _, g1, sw, _, _⟩ := Bt hH (by omega)
 have el := sw.len
 have ee := ub (B2 (x1.get hH) (x1.get hR))
 have e2 : lift (cb [.ref D2]) p1 = .ok (.int (n : Int)) p1 := by rw [gk g1, List.length_map, el, hn]
 have e3 : lift (cb [.ref D]) p1 = .ok (.int ((n : Int) + 1)) p1 := by rw [gk (x1.get hD), hw]; rfl
 refine ⟨p1, ?_⟩
 ac_nf
 rw [ai e1, ai e2]
 ac_nf
 rw [ai e3]
 ac_nf
 rw [ai ee]
 simp [aw]
theorem t9 (ns : List Int) (n : Nat) (b c : Option W) {R Hd D : Nat} {ph : PH} {rs tl : List Rw} (hR : ph[R]? = some (.lst (rs.map Rw.W))) (hH : ph[Hd]? = some (.lst (rs.map Rw.W))) (hD : ph[D]? = some (.lst (tl.map Rw.W))) (hRD : R ≠ D) (hHD : Hd ≠ D) (hn : rs.length = n) (hz : n <= 40) (sw : Sw rs tl) (hb : bt tl <= bt rs) (hB : k9 tl) : qc (w4 (SR ns n b c R Hd D) ph) := by
 have hl := sw.len
 unfold w4
 obtain ⟨p1, c1, x1⟩ := lP (cap := [none]) (g := gN 0) (c := df) (e := kh "tuple" (aa 0)) (σ := SR ns n b c R Hd D) tl Rw.W (jG (m := aa 6) (show aa 6 (SR ns n b c R Hd D) ph = .ok (.ref D) ph from rfl) hD) (fun ph' x => decide_eq_true (x.get hD)) (small (by omega)) (fun _ => some (.bl true)) (fun σ => ∃ o, σ = [o]) ⟨_, rfl⟩ (by
  rintro t ht σ H ⟨o, rfl⟩ hx
  refine ⟨_, rfl, ⟨_, rfl⟩, true, H, rfl, Ex.refl _, .inr ⟨rfl, .bl true, H, ?_, Ex.refl _, rfl⟩⟩
  show kh "tuple" (aa 0) [some t.W] H = _
  rw [Ds, xv, Cy, XX]
  rfl)
 rw [nk] at x1
 have g1 : p1[ph.length]? = some (.lst ((tl.map fun _ => true).map W.bl)) := by
  rw [List.map_map]; exact x1.get (aZ _ _)
 have xa : Ex ph p1 := (Ex.one _ _).trans x1
 have ea : ((tl.map fun _ => true).all id) = true := by simp
 rw [xG (ph' := p1) (by
  ac_nf
  rw [ai c1, ai (SF g1), ea]
  rfl)]
 unfold B1
 have F1 := xa.get hR
 have oC := xa.get hD
 obtain ⟨p2, e2, x2⟩ := tL oC (by omega)
 obtain ⟨p3, e3, x3⟩ := tL (x2.get F1) (by omega)
 have xb := (x2.trans x3)
 obtain ⟨p4, e4, x4⟩ := Wa (xb.get oC) (by omega) hB
 rw [xG (ph' := p4) (by
  ac_nf
  rw [ai e2, ai e3]
  try simp only [bB, Nat.reduceSub, List.reduceReplicate, List.set_cons_zero, List.set_cons_succ, if_true, if_false, ↓reduceIte, String.reduceEq, reduceCtorEq, decide_eq_false (show ¬ bt rs < bt tl by omega)]
  rw [ai e4]
  rfl)]
 unfold B0
 have xc := xb.trans x4
 have oA := xc.get oC
 rw [BX (w := .az) (ph1 := p4.set D (.lst (tl.map Rw.W ++ [.tup [.str "turn"]]))) (by
  ac_nf
  rw [ai (o9 oA)]
  ac_nf
  rw [sC oA (by rw [List.length_map]; exact Nat.lt_of_lt_of_le (by omega) (small (n := 1000) (by omega)))])]
 refine t12 ns n b c (rs := rs) (ws := tl.map Rw.W ++ [.tup [.str "turn"]]) ?_ ?_ ?_ hn (by simp [hl, hn]) hz
 ·rw [List.getElem?_set_ne (Ne.symm hRD)]; exact xc.get F1
 ·rw [List.getElem?_set_ne (Ne.symm hHD)]; exact xc.get (xa.get hH)
 ·rw [List.getElem?_set_self (List.getElem?_eq_some_iff.mp oA).1]
theorem t6 (ns : List Int) (n : Nat) (b c e f : Option W) {R : Nat} {ph : PH} {rs : List Rw} (hR : ph[R]? = some (.lst (rs.map Rw.W))) (hn : rs.length = n) (hz : n <= 40) : qc (w8 (SL ns (some (.int (n : Int))) b c (some (.ref R)) e f) ph) := by
 unfold w8
 have hRl := (List.getElem?_eq_some_iff.mp hR).1
 rw [b6 (w := .ref ph.length) (ph1 := ph ++ [.lst (rs.map Rw.W)]) (by exact wk hR)]
 simp only [List.set_cons_zero, List.set_cons_succ]
 have gH : (ph ++ [PO.lst (rs.map Rw.W)])[ph.length]? = some (.lst (rs.map Rw.W)) := aZ _ _
 have gR := (Ex.one ph (.lst (rs.map Rw.W))).get hR
 have gl : (ph ++ [PO.lst (rs.map Rw.W)]).length = ph.length + 1 := by simp
 generalize ph ++ [PO.lst (rs.map Rw.W)] = p1 at gH gR gl
 unfold CV
 obtain ⟨D, tl, p2, e2, x2, FW, g2, sw, hb, hB⟩ := Bt gH (by omega)
 have el := sw.len
 rw [b6 (w := .ref D) (ph1 := p2) (by exact e2)]
 simp only [List.set_cons_zero, List.set_cons_succ]
 unfold CU
 have F2 := x2.get gH
 have zC := x2.get gR
 have en := Ea (B2 F2 zC)
 obtain ⟨p3, e3, x3⟩ := V9 zC g2 (by omega) sw
 have e4 : lift (cb [.ref D]) p2 = .ok (.int (n : Int)) p2 := by rw [gk g2, List.length_map, el, hn]
 have e5 : lift (fH "list" (.ref D)) p2 = .ok (.bl true) p2 := by rw [Vt g2, EN]
 rw [xG (ph' := p3) (by
  ac_nf
  rw [ai e5]
  ac_nf
  rw [ai e4]
  ac_nf
  rw [ai en]
  ac_nf
  rw [ai e3]
  rfl)]
 exact t9 ns n b c (x3.get zC) (x3.get F2) (x3.get g2) (by omega) (by omega) hn hz sw hb hB
theorem Wb (ns : List Int) (n : Nat) (bx sl : Int) (hb : 0 < bx) (hs : 0 < sl) (hn : n <= 40) (ph : PH) (a b c : Option W) : ∃ (rs : List Rw) (ph' : PH), rs.length = n /\ cZ (eY (ab (aa 1) ag)) [none, some 2, some 3, some 0] (gN 0) df (aB lB (ab (ae addW (aB c6 (ab (aa 3) (ab (ae addW (eC (.int (2))) (aa 0)) ag))) (ae fD (eC (.int (7))) (ae cw (aa 0) (eC (.int (11)))))) (ab (aa 1) (ab (aa 2) ag)))) (SL ns (some (.int (n : Int))) (some (.int bx)) (some (.int sl)) a b c) ph = .ok (.ref ph.length) ph' /\ Ex (ph ++ [.lst (rs.map Rw.W)]) ph' := by
 have qM : eY (ab (aa 1) ag) (SL ns (some (.int (n : Int))) (some (.int bx)) (some (.int sl)) a b c) ph = .ok ((List.range n).map fun k : Nat => W.int (0 + ((k : Nat) : Int)), fun _ => true) ph := by
  rw [tV (j := (n : Int)) (ph' := ph) (by ac_nf) (by omega) (by omega), Int.toNat_natCast]; rfl
 obtain ⟨ws, ph', e, x, hl, hR⟩ := Qu (cap := [none, some 2, some 3, some 0]) (g := gN 0) (c := df) (e := aB lB (ab (ae addW (aB c6 (ab (aa 3) (ab (ae addW (eC (.int (2))) (aa 0)) ag))) (ae fD (eC (.int (7))) (ae cw (aa 0) (eC (.int (11)))))) (ab (aa 1) (ab (aa 2) ag)))) _ _ qM (fun _ _ => rfl) (small (by simp; omega)) (fun _ w => ∃ r : Rw, w = r.W) (fun σ => ∃ y, σ = [y, some (.int bx), some (.int sl), some (.fl (ns.map W.int))]) ⟨none, rfl⟩ (fun j k hk σ H hS hE => by
  obtain ⟨y, rfl⟩ := hS
  refine ⟨_, rfl, ⟨_, rfl⟩, H, rfl, Ex.refl _, ?_⟩
  show ∃ w H2, aB lB (ab (ae addW (aB c6 (ab (aa 3) (ab (ae addW (eC (.int (2))) (aa 0)) ag))) (ae fD (eC (.int (7))) (ae cw (aa 0) (eC (.int (11)))))) (ab (aa 1) (ab (aa 2) ag))) [some (.int (0 + (k : Int))), some (.int bx), some (.int sl), some (.fl (ns.map W.int))] H = .ok w H2 /\ Ex H H2 /\ ∃ r : Rw, w = r.W
  have hm : mulC 7 ((0 + (k : Int)).fdiv 11) = true := by unfold mulC; simp
  try simp only [bB, Nat.reduceSub, List.reduceReplicate, List.set_cons_zero, List.set_cons_succ, if_true, if_false, ↓reduceIte, String.reduceEq, reduceCtorEq, gu (show (11 : Int) ≠ 0 by decide) (by decide), xQ hm]
  have ht : 2 + (0 + (k : Int)) = ((2 + k : Nat) : Int) := by omega
  rw [ht, ai (wW ns (2 + k) H)]
  ac_nf
  obtain ⟨r, H2, e, x⟩ := VS (ns.getD (2 + k) 0 + 7 * (0 + (k : Int)).fdiv 11) bx sl hb hs H
  exact ⟨_, H2, e, x, r, rfl⟩)
 obtain ⟨rs, rfl⟩ := C1 ws hR
 exact ⟨rs, ph', by simpa using hl, e, x⟩
theorem t5 (ns : List Int) (n nB nS : Nat) (hn : n <= 40) (hB : 0 < nB /\ nB <= 20) (hS : 0 < nS /\ nS <= 20) (ph : PH) (a b c : Option W) : qc (xf (SL ns (some (.int (n : Int))) (some (.int (nB : Int))) (some (.int (nS : Int))) a b c) ph) := by
 unfold xf
 obtain ⟨rs, p1, hl, e1, x1⟩ := Wb ns n (nB : Int) (nS : Int) (by omega) (by omega) hn ph a b c
 rw [b6 e1]
 simp only [List.set_cons_zero, List.set_cons_succ]
 exact t6 ns n _ _ _ _ (x1.get (aZ _ _)) hl hn
theorem t2 (ns : List Int) (n : Nat) (hn : n <= 40) (ph : PH) (a b c d e : Option W) : qc (xg (SL ns (some (.int (n : Int))) a b c d e) ph) := by
 unfold xg CY
 ac_nf
 rw [ai (xB ns ph)]
 try simp only [bB, Nat.reduceSub, List.reduceReplicate, List.set_cons_zero, List.set_cons_succ, if_true, if_false, ↓reduceIte, String.reduceEq, reduceCtorEq, dZ (show (8 : Int) ≠ 0 by decide)]
 rw [ai (xB ns ph)]
 try simp only [bB, Nat.reduceSub, List.reduceReplicate, List.set_cons_zero, List.set_cons_succ, if_true, if_false, ↓reduceIte, String.reduceEq, reduceCtorEq, dZ (show (12 : Int) ≠ 0 by decide), gu (show (8 : Int) ≠ 0 by decide) (by decide)]
 have q1 := lH (ns.getD 1 0) 8 (by decide)
 have q2 := lH ((ns.getD 1 0).fdiv 8) 12 (by decide)
 unfold CW
 ac_nf
 rw [ai (xB ns ph)]
 try simp only [bB, Nat.reduceSub, List.reduceReplicate, List.set_cons_zero, List.set_cons_succ, if_true, if_false, ↓reduceIte, String.reduceEq, reduceCtorEq, dZ (show (3 : Int) ≠ 0 by decide), gu (show (96 : Int) ≠ 0 by decide) (by decide)]
 by_cases h3 : ((ns.getD 1 0).fdiv 96).fmod 3 = 1
 ·simp only [decide_eq_true h3, if_true]
  exact t5 ns n 2 1 hn ⟨by decide, by decide⟩ ⟨by decide, by decide⟩ ph _ _ _
 ·simp only [decide_eq_false h3, Bool.false_eq_true, if_false]
  obtain ⟨nB, hB⟩ : ∃ k : Nat, 2 + (ns.getD 1 0).fmod 8 = (k : Int) := ⟨(2 + (ns.getD 1 0).fmod 8).toNat, by omega⟩
  obtain ⟨nS, hS⟩ : ∃ k : Nat, 1 + ((ns.getD 1 0).fdiv 8).fmod 12 = (k : Int) := ⟨(1 + ((ns.getD 1 0).fdiv 8).fmod 12).toNat, by omega⟩
  rw [hB, hS]
  exact t5 ns n nB nS hn ⟨by omega, by omega⟩ ⟨by omega, by omega⟩ ph _ _ _
theorem good (ns : List Int) (_ : ns.length <= 63) : ∃ ph', pJ [.fl (ns.map W.int)] [] = .ok (.bl true) ph' := by
 unfold pJ
 rw [Q6]
 unfold C0 CZ
 ac_nf
 rw [ai (xA ns _)]
 try simp only [bB, Nat.reduceSub, List.reduceReplicate, List.set_cons_zero, List.set_cons_succ, if_true, if_false, ↓reduceIte, String.reduceEq, reduceCtorEq, dZ (show (11 : Int) ≠ 0 by decide)]
 rw [ai (xA ns _)]
 try simp only [bB, Nat.reduceSub, List.reduceReplicate, List.set_cons_zero, List.set_cons_succ, if_true, if_false, ↓reduceIte, String.reduceEq, reduceCtorEq, dZ (show (9 : Int) ≠ 0 by decide), gu (show (11 : Int) ≠ 0 by decide) (by decide)]
 have q1 := lH (ns.getD 0 0) 11 (by decide)
 by_cases h : ((ns.getD 0 0).fdiv 11).fmod 9 = 1
 ·simp only [decide_eq_true h, if_true]
  rw [ai (xA ns _)]
  try simp only [bB, Nat.reduceSub, List.reduceReplicate, List.set_cons_zero, List.set_cons_succ, if_true, if_false, ↓reduceIte, String.reduceEq, reduceCtorEq, dZ (show (14 : Int) ≠ 0 by decide), gu (show (99 : Int) ≠ 0 by decide) (by decide)]
  have q2 := lH ((ns.getD 0 0).fdiv 99) 14 (by decide)
  obtain ⟨n, hn⟩ : ∃ n : Nat, 11 + ((ns.getD 0 0).fdiv 99).fmod 14 = (n : Int) := ⟨(11 + ((ns.getD 0 0).fdiv 99).fmod 14).toNat, by omega⟩
  rw [hn]
  obtain ⟨ph', e⟩ := t2 ns n (by omega) [] none none none none none
  rw [ai e]
  exact ⟨_, rfl⟩
 ·simp only [decide_eq_false h, Bool.false_eq_true, if_false]
  obtain ⟨n, hn⟩ : ∃ n : Nat, (ns.getD 0 0).fmod 11 = (n : Int) := ⟨((ns.getD 0 0).fmod 11).toNat, by omega⟩
  rw [hn]
  obtain ⟨ph', e⟩ := t2 ns n (by omega) [] none none none none none
  rw [ai e]
  exact ⟨_, rfl⟩
end IL.K23
open PySem PySem.W PyProof.Rows
set_option maxHeartbeats 0 in
theorem PySem.Challenge.cw_boxwright_k23_whole_rows_ordered_holds : PySem.Challenge.rw_boxwright_k23_whole_rows_ordered.Holds := by
 w_on
 o_law
 k_head
 (case hw => w_witness2)
 k_fill
 refine IL.K23.QV (l := PySem.Challenge.rw_boxwright_k23_whole_rows_ordered) (fun ns hn => IL.K23.good ns hn) rfl rfl (fun w h Y => PySem.W.kIn_of Y) ?F
 case F =>
  intro w mg fa h KX G hmg
  refine' IL.K23.all_mk KX G hmg ?a_law_cell_at ?l_law_cell_at ?c_law_cell_at ?k_law_cell_at ?a_law_number_by ?l_law_number_by ?c_law_number_by ?k_law_number_by ?a_law_row_by ?l_law_row_by ?c_law_row_by ?k_law_row_by ?a_Timing_init ?i_Timing_init ?l_Timing_init ?c_Timing_init ?k_Timing_init ?a_things_read ?l_things_read ?c_things_read ?k_things_read ?a_things_written ?l_things_written ?c_things_written ?k_things_written ?a_wait_of ?l_wait_of ?c_wait_of ?k_wait_of ?a_timing_behind ?l_timing_behind ?c_timing_behind ?k_timing_behind ?a_timings_of ?l_timings_of ?c_timings_of ?k_timings_of ?a_mosts_from ?l_mosts_from ?c_mosts_from ?k_mosts_from ?a_beats_from ?l_beats_from ?c_beats_from ?k_beats_from ?a_is_outward ?l_is_outward ?c_is_outward ?k_is_outward ?a_share ?l_share ?c_share ?k_share ?a_are_bound ?l_are_bound ?c_are_bound ?k_are_bound ?a_improved ?l_improved ?c_improved ?k_improved ?a_ordered ?l_ordered ?c_ordered ?k_ordered ?a_law_places ?l_law_places ?c_law_places ?k_law_places ?a_law_is_part ?l_law_is_part ?c_law_is_part ?k_law_is_part ?a_law_writes ?l_law_writes ?c_law_writes ?k_law_writes ?a_law_reads ?l_law_reads ?c_law_reads ?k_law_reads ?a_law_tied ?l_law_tied ?c_law_tied ?k_law_tied ?a_law_kept ?l_law_kept ?c_law_kept ?k_law_kept ?a_law_wait ?l_law_wait ?c_law_wait ?k_law_wait ?a_law_beats ?l_law_beats ?c_law_beats ?k_law_beats ?a_law_is_best ?l_law_is_best ?c_law_is_best ?k_law_is_best ?a_law ?l_law ?c_law ?k_law ?z_all ?z_any ?z_dict ?z_isinstance ?z_len ?z_list ?z_max ?z_range ?z_tuple ?x_Timing ?pg_Timing ?hd_Timing ?po_Timing ?sa_Timing ?mk_Timing ?kc_Timing ?na_most_Timing ?na_next_beat_Timing ?na_waits_Timing
  (case x_Timing => k_is)
  (case a_law_cell_at => k_is)
  (case l_law_cell_at => k_is)
  (case c_law_cell_at => k_is)
  (case k_law_cell_at => k_is)
  (case a_law_number_by => k_is)
  (case l_law_number_by => k_is)
  (case c_law_number_by => k_is)
  (case k_law_number_by => k_is)
  (case a_law_row_by => k_is)
  (case l_law_row_by => k_is)
  (case c_law_row_by => k_is)
  (case k_law_row_by => k_is)
  (case a_Timing_init => k_is)
  (case i_Timing_init => k_is)
  (case l_Timing_init => k_is)
  (case c_Timing_init => k_is)
  (case k_Timing_init => k_is)
  (case a_things_read => k_is)
  (case l_things_read => k_is)
  (case c_things_read => k_is)
  (case k_things_read => k_is)
  (case a_things_written => k_is)
  (case l_things_written => k_is)
  (case c_things_written => k_is)
  (case k_things_written => k_is)
  (case a_wait_of => k_is)
  (case l_wait_of => k_is)
  (case c_wait_of => k_is)
  (case k_wait_of => k_is)
  (case a_timing_behind => k_is)
  (case l_timing_behind => k_is)
  (case c_timing_behind => k_is)
  (case k_timing_behind => k_is)
  (case a_timings_of => k_is)
  (case l_timings_of => k_is)
  (case c_timings_of => k_is)
  (case k_timings_of => k_is)
  (case a_mosts_from => k_is)
  (case l_mosts_from => k_is)
  (case c_mosts_from => k_is)
  (case k_mosts_from => k_is)
  (case a_beats_from => k_is)
  (case l_beats_from => k_is)
  (case c_beats_from => k_is)
  (case k_beats_from => k_is)
  (case a_is_outward => k_is)
  (case l_is_outward => k_is)
  (case c_is_outward => k_is)
  (case k_is_outward => k_is)
  (case a_share => k_is)
  (case l_share => k_is)
  (case c_share => k_is)
  (case k_share => k_is)
  (case a_are_bound => k_is)
  (case l_are_bound => k_is)
  (case c_are_bound => k_is)
  (case k_are_bound => k_is)
  (case a_improved => k_is)
  (case l_improved => k_is)
  (case c_improved => k_is)
  (case k_improved => k_is)
  (case a_ordered => k_is)
  (case l_ordered => k_is)
  (case c_ordered => k_is)
  (case k_ordered => k_is)
  (case a_law_places => k_is)
  (case l_law_places => k_is)
  (case c_law_places => k_is)
  (case k_law_places => k_is)
  (case a_law_is_part => k_is)
  (case l_law_is_part => k_is)
  (case c_law_is_part => k_is)
  (case k_law_is_part => k_is)
  (case a_law_writes => k_is)
  (case l_law_writes => k_is)
  (case c_law_writes => k_is)
  (case k_law_writes => k_is)
  (case a_law_reads => k_is)
  (case l_law_reads => k_is)
  (case c_law_reads => k_is)
  (case k_law_reads => k_is)
  (case a_law_tied => k_is)
  (case l_law_tied => k_is)
  (case c_law_tied => k_is)
  (case k_law_tied => k_is)
  (case a_law_kept => k_is)
  (case l_law_kept => k_is)
  (case c_law_kept => k_is)
  (case k_law_kept => k_is)
  (case a_law_wait => k_is)
  (case l_law_wait => k_is)
  (case c_law_wait => k_is)
  (case k_law_wait => k_is)
  (case a_law_beats => k_is)
  (case l_law_beats => k_is)
  (case c_law_beats => k_is)
  (case k_law_beats => k_is)
  (case a_law_is_best => k_is)
  (case l_law_is_best => k_is)
  (case c_law_is_best => k_is)
  (case k_law_is_best => k_is)
  (case a_law => k_is)
  (case l_law => k_is)
  (case c_law => k_is)
  (case k_law => k_is)
  (case z_all => k_is)
  (case z_any => k_is)
  (case z_dict => k_is)
  (case z_isinstance => k_is)
  (case z_len => k_is)
  (case z_list => k_is)
  (case z_max => k_is)
  (case z_range => k_is)
  (case z_tuple => k_is)
  (case pg_Timing => k_is)
  (case hd_Timing => k_is)
  (case po_Timing => k_is)
  (case sa_Timing => k_is)
  (case mk_Timing => k_is)
  (case kc_Timing => k_is)
  (case na_most_Timing => k_is)
  (case na_next_beat_Timing => k_is)
  (case na_waits_Timing => k_is)
