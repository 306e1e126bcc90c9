/- Package topic: a party and a relay, by their contents; how they lie in memory, block by block: each block of theirs bears a tag that says what it is. -/
import Derived.Test.YtnbicbnighpkjaaY4
import Derived.Test.YtnbicbnighpkjaaYS
import Derived.Test.YtnbicbnighpkjaaMV
namespace Go.Proofs.Ytnbicbnighpkjaa
open Go.RowKit Go.Maps
set_option linter.unusedVariables false

/-- An item, by its contents. -/
structure It where
  tp : ByteArray
  fr : Int
  nu : Int
  tx : Bool
  bs : List UInt8
def Iv.it (x : Iv) : It := ⟨x.tp, x.fr, x.nu, x.tx, x.bs⟩
/-- A party: its subscriptions (mode, whether it failed), how many, what waits, how many it lost. -/
structure Pt where
  sub : ByteArray → Option (Int × Bool)
  c : Nat
  ws : List It
  lost : Nat
def ptZ : Pt := ⟨fun _ => none, 0, [], 0⟩
def putF {α : Type} (f : ByteArray → Option α) (s : ByteArray) (y : Option α) : ByteArray → Option α := fun t => if t = s then y else f t
theorem putF_same {α : Type} (f : ByteArray → Option α) (s : ByteArray) (y : Option α) : putF f s y s = y := if_pos rfl
theorem putF_ne {α : Type} (f : ByteArray → Option α) {s t : ByteArray} (y : Option α) (h : t ≠ s) : putF f s y t = f t := if_neg h
/-- A party subscribes; drops; takes an item. -/
def subE (x : Pt) (s : ByteArray) : Int := match x.sub s with
  | some (_, false) => 8
  | some (_, true) => 0
  | none => if 64 ≤ x.c then 9 else 0
def subP (x : Pt) (s : ByteArray) (mode : Int) : Pt := if subE x s = 0 then { x with sub := putF x.sub s (some (mode, false)), c := if (x.sub s).isSome = true then x.c else x.c + 1 } else x
def dropP (x : Pt) (s : ByteArray) : Pt := { x with sub := putF x.sub s none, c := x.c - 1, ws := x.ws.filter fun y => !sq y.tp s }
/-- Where there is no room. -/
def fullP (x : Pt) (s : ByteArray) (m : Int) : Pt := if m = 0 then { x with sub := putF x.sub s (some (m, true)) } else if m = 1 then { x with lost := x.lost + 1 } else
  { x with lost := x.lost + 1, ws := x.ws.eraseIdx (x.ws.findIdx fun y => sq y.tp s) }
def fullB (x : Pt) (s : ByteArray) (m : Int) : Bool := if m = 0 then false else if m = 1 then false else decide (x.ws.findIdx (fun y => sq y.tp s) < x.ws.length)
def takeP (x : Pt) (room : Nat) (y : It) : Pt := match x.sub y.tp with
  | none => x
  | some (m, fl) => if fl = true then x else if x.ws.length < room then { x with ws := x.ws ++ [y] } else if fullB x y.tp m = true then { fullP x y.tp m with ws := (fullP x y.tp m).ws ++ [y] } else fullP x y.tp m
def takeB (x : Pt) (room : Nat) (y : It) : Bool := match x.sub y.tp with
  | none => false
  | some (m, fl) => if fl = true then false else if x.ws.length < room then true else fullB x y.tp m

/-! ### In memory -/
inductive Tag where
  | rel | jn | pub | dat
  | mem (n : Nat) | sm (n : Nat) | sub (n : Nat) (s : ByteArray) | wt (n : Nat)
def Tag.who : Tag → Option Nat
  | .mem n => some n
  | .sm n => some n
  | .sub n _ => some n
  | .wt n => some n
  | _ => none
abbrev Ow := Nat → Option Tag
def Ow.put (ow : Ow) (k : Nat) (t : Tag) : Ow := fun i => if i = k then some t else ow i
/-- All blocks that bear a tag are there, and this call's. -/
structure Ok (lo : Nat) (ow : Ow) (W : World) : Prop where
  lo : ∀ k t, ow k = some t → lo ≤ k
  hi : ∀ k t, ow k = some t → k < W.heap.size
theorem Ok.step {lo : Nat} {ow : Ow} {W W' : World} (h : Ok lo ow W) (hs : W.heap.size ≤ W'.heap.size) : Ok lo ow W' := ⟨h.lo, fun k t hk => Nat.lt_of_lt_of_le (h.hi k t hk) hs⟩
theorem Ok.put {lo : Nat} {ow : Ow} {W W' : World} (h : Ok lo ow W) {k : Nat} (t : Tag) (h1 : lo ≤ k) (h2 : k < W'.heap.size) (hs : W.heap.size ≤ W'.heap.size) : Ok lo (ow.put k t) W' :=
  ⟨fun i u hi => by
    unfold Ow.put at hi
    by_cases e : i = k
    · rw [e]; exact h1
    · rw [if_neg e] at hi; exact h.lo i u hi,
   fun i u hi => by
    unfold Ow.put at hi
    by_cases e : i = k
    · rw [e]; exact h2
    · rw [if_neg e] at hi; exact Nat.lt_of_lt_of_le (h.hi i u hi) hs⟩
/-- What was there bears the tag that it bore. -/
def Ext (W : World) (ow ow' : Ow) : Prop := ∀ k, k < W.heap.size → ow' k = ow k
theorem Ext.refl (W : World) (ow : Ow) : Ext W ow ow := fun _ _ => rfl
theorem Ext.trans {W W1 : World} {a b c : Ow} (h : Ext W a b) (k : Ext W1 b c) (hs : W.heap.size ≤ W1.heap.size) : Ext W a c := fun i hi => (k i (Nat.lt_of_lt_of_le hi hs)).trans (h i hi)
theorem Ext.put {W : World} {a b : Ow} (h : Ext W a b) {k : Nat} (hk : W.heap.size ≤ k) (t : Tag) : Ext W a (b.put k t) := fun i hi => by
  unfold Ow.put
  rw [if_neg (by omega)]
  exact h i hi
/-- The blocks of a party; all blocks. -/
def Of (ow : Ow) (n : Nat) : Nat → Prop := fun k => ∃ t, ow k = some t ∧ t.who = some n
def All (ow : Ow) : Nat → Prop := fun k => ∃ t, ow k = some t ∧ t ≠ .dat
theorem All.nd {ow : Ow} {k : Nat} (h : All ow k) : ow k ≠ some .dat := fun e => by obtain ⟨t, h1, h2⟩ := h; rw [e] at h1; injection h1 with h1; exact h2 h1.symm
theorem Of.nd {ow : Ow} {n k : Nat} (h : Of ow n k) : ow k ≠ some .dat := fun e => by obtain ⟨t, h1, h2⟩ := h; rw [e] at h1; injection h1 with h1; rw [← h1] at h2; cases h2
theorem Of.all {ow : Ow} {n k : Nat} (h : Of ow n k) : All ow k := by obtain ⟨t, h, h2⟩ := h; exact ⟨t, h, fun e => by rw [e] at h2; cases h2⟩
/-- A slice's block is that of an item's octets. -/
def UT (ow : Ow) (W : World) (A : Option Addr) : Prop := ∀ a, A = some a → ow a.block = some .dat ∧ a.block < W.heap.size
theorem UT.step {ow ow' : Ow} {W W' : World} {A : Option Addr} (h : UT ow W A) (he : Ext W ow ow') (hs : W.heap.size ≤ W'.heap.size) : UT ow' W' A := fun a ha => ⟨(he _ (h a ha).2).trans (h a ha).1, Nat.lt_of_lt_of_le (h a ha).2 hs⟩
/-- An item as it lies. -/
structure IV (ow : Ow) (W : World) (x : Iv) : Prop where
  bs : BS W x.da.1 x.da.2.1 x.da.2.2 x.bs
  ut : UT ow W x.da.1
  le : x.bs.length ≤ 16384
  tl : x.tp.size ≤ 300
theorem bs_part {W W' : World} {A : Option Addr} {n c : Nat} {bs : List UInt8} {S : Nat → Prop} (h : BS W A n c bs) (hp : Part S W W') (hA : ∀ a, A = some a → ¬ S a.block) : BS W' A n c bs := ⟨h.1, h.2.1, hp.sr h.2.2 hA⟩
theorem IV.step {ow ow' : Ow} {W W' : World} {x : Iv} (h : IV ow W x) {S : Nat → Prop} (hp : Part S W W') (hS : ∀ k, S k → ow k ≠ some .dat) (he : Ext W ow ow') : IV ow' W' x :=
  ⟨bs_part h.bs hp (fun a ha hs => hS _ hs (h.ut a ha).1), h.ut.step he hp.size, h.le, h.tl⟩
/-- A subscription: its block, its mode, whether it failed. -/
structure Gs where
  b : Nat
  m : Int
  fl : Bool
/-- A party: its block, its map's, how many subscriptions, which, what waits. -/
structure Gm where
  b : Nat
  k : Nat
  c : Nat
  f : ByteArray → Option Gs
  v : Option Addr × Nat × Nat
  ws : List Iv
  lost : Nat
def ptr (b : Nat) : Value := .pointer (some ⟨b, 0, none⟩)
def Gm.vs (m : Gm) : VS := fun s => (m.f s).map fun x => ptr x.b
def Gm.pt (m : Gm) : Pt := ⟨fun s => (m.f s).map fun x => (x.m, x.fl), m.c, m.ws.map Iv.it, m.lost⟩
def Gm.sl (m : Gm) : Value := .slice m.v.1 m.v.2.1 m.v.2.2
structure MA (lo : Nat) (ow : Ow) (n : Nat) (m : Gm) (W : World) : Prop where
  hd : W.heap[m.b]? = some (.cells #[.map (some m.k), m.sl, .int .i64 m.lost] 79 (0, 0))
  ob : ow m.b = some (.mem n)
  sm : MapS W 9 m.k m.c m.vs
  ok : ow m.k = some (.sm n)
  sb : ∀ s x, m.f s = some x → W.heap[x.b]? = some (.cells #[.int .i64 x.m, .bool x.fl] 81 (0, 0)) ∧ ow x.b = some (.sub n s) ∧ 0 ≤ x.m ∧ x.m ≤ 2
  wt : W.ownsRow lo 49 5 m.sl m.ws.length (flatF Iv.cells m.ws)
  ov : ∀ a, m.v.1 = some a → ow a.block = some (.wt n)
  iv : ∀ x ∈ m.ws, IV ow W x
  cl : m.c ≤ 64
  wl : m.ws.length ≤ 64
  ll : m.lost ≤ 1000000
section
variable {lo n : Nat} {ow ow' : Ow} {m : Gm} {W W' : World}
theorem MA.lt (h : MA lo ow n m W) : m.b < W.heap.size := (Array.getElem?_eq_some_iff.1 h.hd).1
theorem MA.c0 (h : MA lo ow n m W) : W.cell? ⟨m.b, 0, none⟩ = some (.map (some m.k)) ∧ W.cell? ⟨m.b, 1, none⟩ = some m.sl ∧ W.cell? ⟨m.b, 2, none⟩ = some (.int .i64 m.lost) := by
  refine ⟨?_, ?_, ?_⟩ <;> (rw [cell_of_row _ _ _ _ _ _ h.hd]; rfl)
theorem MA.fz (h : MA lo ow n m W) (o : Nat) : W.frozen? ⟨m.b, o, none⟩ = false := frozen_of_row _ _ _ _ _ h.hd
theorem MA.vlen (h : MA lo ow n m W) : m.v.2.1 = m.ws.length := by
  rcases h.wt.2 with ⟨h0, h1⟩ | ⟨g, cap, cur, hv, _⟩
  · unfold Gm.sl at h0
    injection h0 with _ h2 _
    omega
  · unfold Gm.sl at hv
    injection hv
/-- Beside what is written elsewhere. -/
theorem MA.keep (h : MA lo ow n m W) {S : Nat → Prop} (hp : Part S W W') (hS : ∀ k, S k → ow k ≠ some .dat ∧ ¬ Of ow n k) (he : Ext W ow ow') : MA lo ow' n m W' := by
  have hlt : ∀ {k : Nat} {o : Obj}, W.heap[k]? = some o → k < W.heap.size := fun hk => (Array.getElem?_eq_some_iff.1 hk).1
  have nS : ∀ {k t}, ow k = some t → t.who = some n → ¬ S k := fun hk ht hs => (hS _ hs).2 ⟨_, hk, ht⟩
  refine ⟨(hp.block _ h.lt (nS h.ob rfl)).trans h.hd, (he _ h.lt).trans h.ob, h.sm.kept hp (nS h.ok rfl), (he _ h.sm.lt).trans h.ok, fun s x hx => ?_, ?_, ?_, fun x hx => (h.iv x hx).step hp (fun k hk => (hS k hk).1) he, h.cl, h.wl, h.ll⟩
  · obtain ⟨h1, h2, h3⟩ := h.sb s x hx
    exact ⟨(hp.block _ (hlt h1) (nS h2 rfl)).trans h1, (he _ (hlt h1)).trans h2, h3⟩
  · refine hp.own h.wt fun g hg => ?_
    unfold Gm.sl Value.ownBlock at hg
    split at hg
    · rename_i a _ _ e
      injection e with e1
      injection hg with hg
      rw [← hg]
      exact nS (h.ov a e1) rfl
    · cases hg
  · intro a ha
    have hal : a.block < W.heap.size := by
      rcases h.wt.2 with ⟨h0, _⟩ | ⟨g, cap, cur, hv, _, hg, _⟩
      · unfold Gm.sl at h0
        rw [ha] at h0
        cases h0
      · unfold Gm.sl at hv
        rw [ha] at hv
        injection hv with hv
        injection hv with hv
        rw [hv]
        exact hlt hg
    exact (he _ hal).trans (h.ov a ha)
/-- New memory alone. -/
theorem MA.step (h : MA lo ow n m W) (hb : Below W.heap.size W W') : MA lo ow n m W' := h.keep (Part.of_below (fun _ => False) hb) (fun _ hk => hk.elim) (Ext.refl W ow)
theorem Ok.free (h : Ok lo ow W) {k : Nat} (hk : W.heap.size ≤ k) : ow k = none := by
  cases e : ow k with
  | none => rfl
  | some t => have := h.hi k t e; omega
end
end Go.Proofs.Ytnbicbnighpkjaa
