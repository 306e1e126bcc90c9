/- Package audio: speakers, listeners and a forwarder, by their contents; how they lie in memory, block by block: each block of theirs bears a tag that says what it is. -/
import Derived.Test.YtacmfoljbjdcjaaU2
import Derived.Test.YtacmfoljbjdcjaaSer1
namespace Go.Proofs.Ytacmfoljbjdcjaa
open Go.RowKit Go.Maps
set_option linter.unusedVariables false

/-- A speaker, as a listener knows it. -/
structure Sp where
  kn : Bool
  so : Int
  ow : Int
  nw : Int
def spZ : Sp := ⟨false, 0, 0, 0⟩
def Sp.cells (x : Sp) : List Value := [.bool x.kn, .int .u32 x.so, .int .u16 x.ow, .int .u16 x.nw]
/-- A packet, by its contents. -/
structure Pk where
  mr : Bool
  kd : Int
  sq : Int
  st : Int
  so : Int
  bs : List UInt8
def Pv.pk (x : Pv) : Pk := ⟨x.mr, x.kd, x.sq, x.st, x.so, x.bs⟩
/-- A listener: whom it knows, what waits, how many it lost. -/
structure Lm where
  sp : Nat → Sp
  ws : List Pk
  lost : Nat
def lmZ : Lm := ⟨fun _ => spZ, [], 0⟩
def putN {α : Type} (f : Nat → α) (n : Nat) (y : α) : Nat → α := fun k => if k = n then y else f k
theorem putN_same {α : Type} (f : Nat → α) (n : Nat) (y : α) : putN f n y n = y := if_pos rfl
theorem putN_ne {α : Type} (f : Nat → α) {n k : Nat} (y : α) (h : k ≠ n) : putN f n y k = f k := if_neg h
theorem putN_self {α : Type} {f : Nat → α} {n : Nat} {y : α} (h : f n = y) : putN f n y = f := by
  funext k
  unfold putN
  by_cases e : k = n
  · rw [if_pos e, e, h]
  · rw [if_neg e]
theorem putN_twice {α : Type} (f : Nat → α) (n : Nat) (y z : α) : putN (putN f n y) n z = putN f n z := by
  funext k
  unfold putN
  by_cases e : k = n
  · rw [if_pos e, if_pos e]
  · rw [if_neg e, if_neg e, if_neg e]
/-- Does a packet come behind the last one; its new Seq; what is remembered. -/
def befB (s : Sp) (p : Pk) : Bool := !s.kn || (!(s.so == p.so) || less16 s.ow p.sq)
def folI (s : Sp) (p : Pk) : Int := if s.kn = false then 0 else if s.so = p.so then (s.nw + (p.sq - s.ow)) % 65536 else (s.nw + 1) % 65536
def nxtS (s : Sp) (p : Pk) : Sp := ⟨true, p.so, p.sq, folI s p⟩
def newP (s : Sp) (p : Pk) (n : Nat) : Pk := { p with sq := folI s p, so := (n : Int) + 1 }
def takeL (x : Lm) (n room : Nat) (p : Pk) : Lm := if befB (x.sp n) p = true then
  (if x.ws.length < room then { x with sp := putN x.sp n (nxtS (x.sp n) p), ws := x.ws ++ [newP (x.sp n) p n] } else { x with sp := putN x.sp n (nxtS (x.sp n) p), lost := x.lost + 1 }) else x
def takeB (x : Lm) (n room : Nat) (p : Pk) : Bool := befB (x.sp n) p && decide (x.ws.length < room)

/-! ### In memory -/
inductive Tag where
  | fwd | row | dat
  | mem (n : Nat) | wt (n : Nat)
def Tag.who : Tag → Option Nat
  | .mem n => some n
  | .wt n => some n
  | _ => none
abbrev Ow := Nat → Option Tag
def Ow.put (ow : Ow) (k : Nat) (t : Tag) : Ow := fun i => if i = k then some t else ow i
/-- All blocks that bear a tag are there, and this call's. -/
structure Ok (lo : Nat) (ow : Ow) (W : World) : Prop where
  lo : ∀ k t, ow k = some t → lo ≤ k
  hi : ∀ k t, ow k = some t → k < W.heap.size
theorem Ok.step {lo : Nat} {ow : Ow} {W W' : World} (h : Ok lo ow W) (hs : W.heap.size ≤ W'.heap.size) : Ok lo ow W' := ⟨h.lo, fun k t hk => Nat.lt_of_lt_of_le (h.hi k t hk) hs⟩
theorem Ok.put {lo : Nat} {ow : Ow} {W W' : World} (h : Ok lo ow W) {k : Nat} (t : Tag) (h1 : lo ≤ k) (h2 : k < W'.heap.size) (hs : W.heap.size ≤ W'.heap.size) : Ok lo (ow.put k t) W' :=
  ⟨fun i u hi => by
    unfold Ow.put at hi
    by_cases e : i = k
    · rw [e]; exact h1
    · rw [if_neg e] at hi; exact h.lo i u hi,
   fun i u hi => by
    unfold Ow.put at hi
    by_cases e : i = k
    · rw [e]; exact h2
    · rw [if_neg e] at hi; exact Nat.lt_of_lt_of_le (h.hi i u hi) hs⟩
theorem Ok.free {lo : Nat} {ow : Ow} {W : World} (h : Ok lo ow W) {k : Nat} (hk : W.heap.size ≤ k) : ow k = none := by
  cases e : ow k with
  | none => rfl
  | some t => have := h.hi k t e; omega
/-- What was there bears the tag that it bore. -/
def Ext (W : World) (ow ow' : Ow) : Prop := ∀ k, k < W.heap.size → ow' k = ow k
theorem Ext.refl (W : World) (ow : Ow) : Ext W ow ow := fun _ _ => rfl
theorem Ext.trans {W W1 : World} {a b c : Ow} (h : Ext W a b) (k : Ext W1 b c) (hs : W.heap.size ≤ W1.heap.size) : Ext W a c := fun i hi => (k i (Nat.lt_of_lt_of_le hi hs)).trans (h i hi)
theorem Ext.put {W : World} {a b : Ow} (h : Ext W a b) {k : Nat} (hk : W.heap.size ≤ k) (t : Tag) : Ext W a (b.put k t) := fun i hi => by
  unfold Ow.put
  rw [if_neg (by omega)]
  exact h i hi
/-- The blocks of a party; all blocks. -/
def Of (ow : Ow) (n : Nat) : Nat → Prop := fun k => ∃ t, ow k = some t ∧ t.who = some n
def All (ow : Ow) : Nat → Prop := fun k => ∃ t, ow k = some t ∧ t ≠ .dat
theorem All.nd {ow : Ow} {k : Nat} (h : All ow k) : ow k ≠ some .dat := fun e => by obtain ⟨t, h1, h2⟩ := h; rw [e] at h1; injection h1 with h1; exact h2 h1.symm
theorem Of.nd {ow : Ow} {n k : Nat} (h : Of ow n k) : ow k ≠ some .dat := fun e => by obtain ⟨t, h1, h2⟩ := h; rw [e] at h1; injection h1 with h1; rw [← h1] at h2; cases h2
theorem Of.all {ow : Ow} {n k : Nat} (h : Of ow n k) : All ow k := by obtain ⟨t, h, h2⟩ := h; exact ⟨t, h, fun e => by rw [e] at h2; cases h2⟩
theorem tag_ne {ow : Ow} {a b : Nat} {s t : Tag} (ha : ow a = some s) (hb : ow b = some t) (h : s ≠ t) : a ≠ b := fun e => by
  rw [e, hb] at ha
  injection ha with ha
  exact h ha.symm
theorem put_other {ow : Ow} {k g : Nat} {u : Tag} (hg : k ≠ g) : ow.put g u k = ow k := if_neg hg
theorem put_same {ow : Ow} {g : Nat} {u : Tag} : ow.put g u g = some u := if_pos rfl
theorem part_one {S : Nat → Prop} (W : World) (b o : Nat) (u : Value) (hb : S b) : Part S W (W.setCell ⟨b, o, none⟩ u) :=
  Part.of_grown (grown_set W ⟨b, o, none⟩ u) fun k hk => by injection hk with hk; rw [← hk]; exact hb
/-- A slice's block is that of a packet's octets. -/
def UT (ow : Ow) (W : World) (A : Option Addr) : Prop := ∀ a, A = some a → ow a.block = some .dat ∧ a.block < W.heap.size
theorem UT.step {ow ow' : Ow} {W W' : World} {A : Option Addr} (h : UT ow W A) (he : Ext W ow ow') (hs : W.heap.size ≤ W'.heap.size) : UT ow' W' A := fun a ha => ⟨(he _ (h a ha).2).trans (h a ha).1, Nat.lt_of_lt_of_le (h a ha).2 hs⟩
/-- A packet as it lies. -/
structure IV (ow : Ow) (W : World) (x : Pv) : Prop where
  bs : BS W x.da.1 x.da.2.1 x.da.2.2 x.bs
  ut : UT ow W x.da.1
  le : x.bs.length ≤ 1188
theorem bs_part {W W' : World} {A : Option Addr} {n c : Nat} {bs : List UInt8} {S : Nat → Prop} (h : BS W A n c bs) (hp : Part S W W') (hA : ∀ a, A = some a → ¬ S a.block) : BS W' A n c bs := ⟨h.1, h.2.1, hp.sr h.2.2 hA⟩
theorem IV.step {ow ow' : Ow} {W W' : World} {x : Pv} (h : IV ow W x) {S : Nat → Prop} (hp : Part S W W') (hS : ∀ k, S k → ow k ≠ some .dat) (he : Ext W ow ow') : IV ow' W' x :=
  ⟨bs_part h.bs hp (fun a ha hs => hS _ hs (h.ut a ha).1), h.ut.step he hp.size, h.le⟩
/-- A listener: its block, whom it knows, what waits. -/
structure Gl where
  b : Nat
  sp : Nat → Sp
  v : Option Addr × Nat × Nat
  ws : List Pv
  lost : Nat
def ptr (b : Nat) : Value := .pointer (some ⟨b, 0, none⟩)
def Gl.lm (m : Gl) : Lm := ⟨m.sp, m.ws.map Pv.pk, m.lost⟩
def Gl.sl (m : Gl) : Value := .slice m.v.1 m.v.2.1 m.v.2.2
/-- The cells of a listener's block. -/
structure LC (m : Gl) (cur : Array Value) : Prop where
  sz : cur.size = 66
  sp : ∀ i, i < 16 → ∀ j v, (m.sp i).cells[j]? = some v → cur[i * 4 + j]? = some v
  sl : cur[64]? = some m.sl
  lo : cur[65]? = some (.int .i64 m.lost)
structure LA (lo : Nat) (ow : Ow) (n : Nat) (m : Gl) (W : World) : Prop where
  hd : ∃ cur, W.heap[m.b]? = some (.cells cur 83 (0, 0)) ∧ LC m cur
  ob : ow m.b = some (.mem n)
  wt : W.ownsRow lo 26 6 m.sl m.ws.length (flatF Pv.cells m.ws)
  ov : ∀ a, m.v.1 = some a → ow a.block = some (.wt n)
  iv : ∀ x ∈ m.ws, IV ow W x
  wl : m.ws.length ≤ 64
  ll : m.lost ≤ 1000000
section
variable {lo n : Nat} {ow ow' : Ow} {m : Gl} {W W' : World}
theorem LA.lt (h : LA lo ow n m W) : m.b < W.heap.size := by obtain ⟨cur, h1, _⟩ := h.hd; exact (Array.getElem?_eq_some_iff.1 h1).1
theorem LA.c64 (h : LA lo ow n m W) : W.cell? ⟨m.b, 64, none⟩ = some m.sl ∧ W.cell? ⟨m.b, 65, none⟩ = some (.int .i64 m.lost) := by
  obtain ⟨cur, h1, h2⟩ := h.hd
  exact ⟨by rw [cell_of_row _ _ _ _ _ _ h1]; exact h2.sl, by rw [cell_of_row _ _ _ _ _ _ h1]; exact h2.lo⟩
theorem LA.c4 (h : LA lo ow n m W) {i : Nat} (hi : i < 16) : W.cell? ⟨m.b, i * 4, none⟩ = some (.bool (m.sp i).kn) ∧ W.cell? ⟨m.b, i * 4 + 1, none⟩ = some (.int .u32 (m.sp i).so) ∧ W.cell? ⟨m.b, i * 4 + 2, none⟩ = some (.int .u16 (m.sp i).ow) ∧ W.cell? ⟨m.b, i * 4 + 3, none⟩ = some (.int .u16 (m.sp i).nw) := by
  obtain ⟨cur, h1, h2⟩ := h.hd
  refine ⟨?_, ?_, ?_, ?_⟩ <;> rw [cell_of_row _ _ _ _ _ _ h1]
  · exact h2.sp i hi 0 _ rfl
  · exact h2.sp i hi 1 _ rfl
  · exact h2.sp i hi 2 _ rfl
  · exact h2.sp i hi 3 _ rfl
theorem LA.fz (h : LA lo ow n m W) (o : Nat) : W.frozen? ⟨m.b, o, none⟩ = false := by obtain ⟨cur, h1, _⟩ := h.hd; exact frozen_of_row _ _ _ _ _ h1
theorem LA.vlen (h : LA lo ow n m W) : m.v.2.1 = m.ws.length := by
  rcases h.wt.2 with ⟨h0, h1⟩ | ⟨g, cap, cur, hv, _⟩
  · unfold Gl.sl at h0
    injection h0 with _ h2 _
    rw [h2, h1]
  · unfold Gl.sl at hv
    injection hv
theorem own_block {m : Gl} {S : Nat → Prop} (hv : ∀ a, m.v.1 = some a → ¬ S a.block) : ∀ g, m.sl.ownBlock = some g → ¬ S g := fun g hg => by
  unfold Gl.sl Value.ownBlock at hg
  split at hg
  · rename_i a _ _ e
    injection e with e1
    injection hg with hg
    rw [← hg]
    exact hv a e1
  · cases hg
theorem LA.ltv (h : LA lo ow n m W) {a : Addr} (ha : m.v.1 = some a) : a.block < W.heap.size ∧ lo ≤ a.block ∧ a = ⟨a.block, 0, none⟩ := by
  rcases h.wt.2 with ⟨h0, _⟩ | ⟨g, cap, cur, hv, hl, hg, _⟩
  · unfold Gl.sl at h0
    rw [ha] at h0
    cases h0
  · unfold Gl.sl at hv
    rw [ha] at hv
    injection hv with hv
    injection hv with hv
    rw [hv]
    exact ⟨(Array.getElem?_eq_some_iff.1 hg).1, hl, rfl⟩
/-- Beside what is written elsewhere. -/
theorem LA.keep (h : LA lo ow n m W) {S : Nat → Prop} (hp : Part S W W') (hS : ∀ k, S k → ow k ≠ some .dat ∧ ¬ Of ow n k) (he : Ext W ow ow') : LA lo ow' n m W' := by
  have nS : ∀ {k t}, ow k = some t → t.who = some n → ¬ S k := fun hk ht hs => (hS _ hs).2 ⟨_, hk, ht⟩
  obtain ⟨cur, h1, h2⟩ := h.hd
  exact ⟨⟨cur, (hp.block _ h.lt (nS h.ob rfl)).trans h1, h2⟩, (he _ h.lt).trans h.ob, hp.own h.wt (own_block fun a ha => nS (h.ov a ha) rfl), fun a ha => (he _ (h.ltv ha).1).trans (h.ov a ha), fun x hx => (h.iv x hx).step hp (fun k hk => (hS k hk).1) he, h.wl, h.ll⟩
/-- New memory alone. -/
theorem LA.step (h : LA lo ow n m W) (hb : Below W.heap.size W W') : LA lo ow n m W' := h.keep (Part.of_below (fun _ => False) hb) (fun _ hk => hk.elim) (Ext.refl W ow)
end
end Go.Proofs.Ytacmfoljbjdcjaa
