/- Package topic: a relay, by its contents; as it lies in memory; what it is when one party's turn has changed that party. -/
import Derived.Test.YtnbicbnighpkjaaYA
namespace Go.Proofs.Ytnbicbnighpkjaa
open Go.RowKit Go.Maps
set_option linter.unusedVariables false

/-- A relay: how many parties, how much room, the parties that have joined, how many items to a topic; u: no number in it is greater. -/
structure Mo where
  np : Nat
  room : Nat
  P : Nat → Option Pt
  N : ByteArray → Nat
  u : Nat
def putN {α : Type} (f : Nat → Option α) (n : Nat) (y : Option α) : Nat → Option α := fun k => if k = n then y else f k
theorem putN_same {α : Type} (f : Nat → Option α) (n : Nat) (y : Option α) : putN f n y n = y := if_pos rfl
theorem putN_ne {α : Type} (f : Nat → Option α) {n k : Nat} (y : Option α) (h : k ≠ n) : putN f n y k = f k := if_neg h
/-- A relay's blocks. -/
structure Gr where
  b : Nat
  j : Nat
  q : Nat
  cj : Nat
  cq : Nat
  np : Nat
  room : Nat
  P : Nat → Option Gm
  N : ByteArray → Option Nat
  u : Nat
def Gr.mo (R : Gr) : Mo := ⟨R.np, R.room, fun n => (R.P n).map Gm.pt, fun s => (R.N s).getD 0, R.u⟩
def Gr.js (R : Gr) : VM := fun i => if 0 ≤ i then (R.P i.toNat).map fun m => ptr m.b else none
def Gr.ns (R : Gr) : VS := fun s => (R.N s).map fun (k : Nat) => Value.int .i64 (k : Int)
structure RA (lo : Nat) (ow : Ow) (R : Gr) (W : World) : Prop where
  hd : W.heap[R.b]? = some (.cells #[.int .i64 R.np, .int .i64 R.room, .map (some R.j), .map (some R.q)] 63 (0, 0))
  ob : ow R.b = some .rel
  jn : MapV W 3 .i64 R.j R.cj R.js
  oj : ow R.j = some .jn
  pb : MapS W 9 R.q R.cq R.ns
  oq : ow R.q = some .pub
  ms : ∀ n m, R.P n = some m → MA lo ow n m W ∧ n < R.np ∧ m.ws.length ≤ R.room ∧ m.lost ≤ R.u
  ok : Ok lo ow W
  lo : lo ≤ W.heap.size
  np : 1 ≤ R.np ∧ R.np ≤ 16
  rm : 1 ≤ R.room ∧ R.room ≤ 64
  cj : R.cj ≤ R.u
  cq : R.cq ≤ R.u
  nu : ∀ s k, R.N s = some k → k ≤ R.u
/-- The relay at b, with the contents M. -/
def RL (lo : Nat) (ow : Ow) (b : Nat) (M : Mo) (W : World) : Prop := ∃ R, RA lo ow R W ∧ R.b = b ∧ R.mo = M
/-- What a call leaves. -/
def RP (lo : Nat) (ow : Ow) (W : World) (b : Nat) (M : Mo) (W' : World) : Prop := ∃ ow', RL lo ow' b M W' ∧ Ext W ow ow' ∧ Part (All ow) W W'
section
variable {lo : Nat} {ow ow' : Ow} {R : Gr} {W W' : World}
theorem RA.lt (h : RA lo ow R W) : R.b < W.heap.size := (Array.getElem?_eq_some_iff.1 h.hd).1
theorem RA.c0 (h : RA lo ow R W) : W.cell? ⟨R.b, 0, none⟩ = some (.int .i64 R.np) ∧ W.cell? ⟨R.b, 1, none⟩ = some (.int .i64 R.room) ∧ W.cell? ⟨R.b, 2, none⟩ = some (.map (some R.j)) ∧ W.cell? ⟨R.b, 3, none⟩ = some (.map (some R.q)) :=
  ⟨upd_cell h.hd 0 _ rfl, upd_cell h.hd 1 _ rfl, upd_cell h.hd 2 _ rfl, upd_cell h.hd 3 _ rfl⟩
theorem RA.step (h : RA lo ow R W) (hb : Below W.heap.size W W') : RA lo ow R W' :=
  ⟨(hb.block _ h.lt).trans h.hd, h.ob, h.jn.kept (Part.of_below (fun _ => False) hb) (fun h => h), h.oj, h.pb.kept (Part.of_below (fun _ => False) hb) (fun h => h), h.oq, fun n m hm => ⟨(h.ms n m hm).1.step hb, (h.ms n m hm).2⟩, h.ok.step hb.size, Nat.le_trans h.lo hb.size, h.np, h.rm, h.cj, h.cq, h.nu⟩
/-- Beside blocks that are none of the relay's. -/
theorem RA.beside (h : RA lo ow R W) {S : Nat → Prop} (hp : Part S W W') (hS : ∀ k, S k → ow k = none) : RA lo ow R W' := by
  have nS : ∀ {k t}, ow k = some t → ¬ S k := fun hk hs => by rw [hS _ hs] at hk; cases hk
  exact ⟨(hp.block _ h.lt (nS h.ob)).trans h.hd, h.ob, h.jn.kept hp (nS h.oj), h.oj, h.pb.kept hp (nS h.oq), h.oq, fun n m hm => ⟨(h.ms n m hm).1.keep hp (fun k hk => ⟨by rw [hS k hk]; simp, fun ⟨t, h1, _⟩ => by rw [hS k hk] at h1; cases h1⟩) (Ext.refl W ow), (h.ms n m hm).2⟩, h.ok.step hp.size, Nat.le_trans h.lo hp.size, h.np, h.rm, h.cj, h.cq, h.nu⟩
theorem RL.beside {b : Nat} {M : Mo} (h : RL lo ow b M W) {S : Nat → Prop} (hp : Part S W W') (hS : ∀ k, S k → ow k = none) : RL lo ow b M W' := by
  obtain ⟨R, h1, h2⟩ := h
  exact ⟨R, h1.beside hp hS, h2⟩
def owD (ow : Ow) : Option Addr → Ow
  | some a => ow.put a.block .dat
  | none => ow
/-- New octets of an item. -/
theorem RA.dat (h : RA lo ow R W) (hb : Below W.heap.size W W') {A : Option Addr} (hA : ∀ a, A = some a → W.heap.size ≤ a.block ∧ a.block < W'.heap.size) : RA lo (owD ow A) R W' ∧ Ext W ow (owD ow A) := by
  have he : Ext W ow (owD ow A) := by
    cases A with
    | none => exact Ext.refl W ow
    | some a => exact (Ext.refl W ow).put (hA a rfl).1 _
  have hf : Part (fun _ => False) W W' := Part.of_below _ hb
  have ho : Ok lo (owD ow A) W' := by
    cases A with
    | none => exact h.ok.step hb.size
    | some a => exact h.ok.put _ (Nat.le_trans h.lo (hA a rfl).1) (hA a rfl).2 hb.size
  exact ⟨⟨(hb.block _ h.lt).trans h.hd, (he _ h.lt).trans h.ob, h.jn.kept hf (fun h => h), (he _ h.jn.lt).trans h.oj, h.pb.kept hf (fun h => h), (he _ h.pb.lt).trans h.oq, fun n m hm => ⟨(h.ms n m hm).1.keep hf (fun k hk => hk.elim) he, (h.ms n m hm).2⟩, ho, Nat.le_trans h.lo hb.size, h.np, h.rm, h.cj, h.cq, h.nu⟩, he⟩
theorem RL.step {b : Nat} {M : Mo} (h : RL lo ow b M W) (hb : Below W.heap.size W W') : RL lo ow b M W' := by
  obtain ⟨R, h1, h2⟩ := h
  exact ⟨R, h1.step hb, h2⟩
theorem RP.of {b : Nat} {M : Mo} (h : RL lo ow b M W) (hb : Below W.heap.size W W') : RP lo ow W b M W' := ⟨ow, h.step hb, Ext.refl W ow, Part.of_below _ hb⟩
/-- One party's turn, the tags said. -/
theorem RA.turn2 (h : RA lo ow R W) {n : Nat} {m m' : Gm} (hn : R.P n = some m) (h1 : MA lo ow' n m' W') (h2 : Ok lo ow' W') (he : Ext W ow ow') (hp : Part (Of ow n) W W') (hb : m'.b = m.b) (hw : m'.pt.ws.length ≤ R.room) (hl : m'.pt.lost ≤ R.u) :
    RL lo ow' R.b { R.mo with P := putN R.mo.P n (some m'.pt) } W' ∧ Part (All ow) W W' := by
  have hpa : Part (All ow) W W' := hp.mono fun k hk => hk.all
  have nO : ∀ {k t}, ow k = some t → t.who = none → ¬ Of ow n k := fun hk ht ⟨t', hk', ht'⟩ => by
    rw [hk] at hk'
    injection hk' with hk'
    rw [hk', ht'] at ht
    cases ht
  refine ⟨⟨{ R with P := putN R.P n (some m') }, ⟨(hp.block _ h.lt (nO h.ob rfl)).trans h.hd, (he _ h.lt).trans h.ob, ?_, (he _ h.jn.lt).trans h.oj, h.pb.kept hp (nO h.oq rfl), (he _ h.pb.lt).trans h.oq, fun k z hz => ?_, h2, Nat.le_trans h.lo hp.size, h.np, h.rm, h.cj, h.cq, h.nu⟩, rfl, ?_⟩, hpa⟩
  · have : Gr.js { R with P := putN R.P n (some m') } = R.js := by
      funext i
      unfold Gr.js putN
      dsimp only
      by_cases e : i.toNat = n
      · rw [if_pos e, e, hn]
        show (if 0 ≤ i then some (ptr m'.b) else none) = (if 0 ≤ i then some (ptr m.b) else none)
        rw [hb]
      · rw [if_neg e]
    rw [this]
    exact h.jn.kept hp (nO h.oj rfl)
  · dsimp only at hz
    by_cases e : k = n
    · subst e
      rw [putN_same] at hz
      injection hz with hz
      subst hz
      unfold Gm.pt at hw hl
      dsimp only at hw hl
      rw [List.length_map] at hw
      exact ⟨h1, (h.ms k m hn).2.1, hw, hl⟩
    · rw [putN_ne _ _ e] at hz
      obtain ⟨z1, z2⟩ := h.ms k z hz
      exact ⟨z1.keep hp (fun i hi => ⟨hi.nd, fun ⟨t, q1, q2⟩ => by
        obtain ⟨t', q3, q4⟩ := hi
        rw [q1] at q3
        injection q3 with q3
        rw [q3, q4] at q2
        injection q2 with q2
        exact e q2.symm⟩) he, z2⟩
  · unfold Gr.mo
    dsimp only
    congr 1
    funext k
    by_cases e : k = n
    · subst e
      rw [putN_same, putN_same]
      rfl
    · rw [putN_ne _ _ e, putN_ne _ _ e]
/-- One party's turn. -/
theorem RA.turn (h : RA lo ow R W) {n : Nat} {m : Gm} (hn : R.P n = some m) {y : Pt} (hP : MP lo n ow W m y W') (hw : y.ws.length ≤ R.room) (hl : y.lost ≤ R.u) :
    RP lo ow W R.b { R.mo with P := putN R.mo.P n (some y) } W' := by
  obtain ⟨ow', m', h1, h2, he, hp, hb, hy⟩ := hP
  subst hy
  obtain ⟨z1, z2⟩ := h.turn2 hn h1 h2 he hp hb hw hl
  exact ⟨ow', z1, he, z2⟩
theorem RL.mono_u {b : Nat} {M : Mo} (h : RL lo ow b M W) {v : Nat} (hv : M.u ≤ v) : RL lo ow b { M with u := v } W := by
  obtain ⟨R, h1, h2, h3⟩ := h
  have hu : R.u = M.u := by rw [← h3]; rfl
  refine ⟨{ R with u := v }, ⟨h1.hd, h1.ob, h1.jn, h1.oj, h1.pb, h1.oq, fun n m hm => ?_, h1.ok, h1.lo, h1.np, h1.rm, ?_, ?_, fun s k hk => ?_⟩, h2, by rw [← h3]; rfl⟩
  · obtain ⟨a1, a2, a3, a4⟩ := h1.ms n m hm
    exact ⟨a1, a2, a3, by show m.lost ≤ v; omega⟩
  · have := h1.cj; show R.cj ≤ v; omega
  · have := h1.cq; show R.cq ≤ v; omega
  · have := h1.nu s k hk; show k ≤ v; omega
theorem All.back {W : World} {ow ow1 : Ow} (he : Ext W ow ow1) {k : Nat} (h : All ow1 k) : All ow k ∨ W.heap.size ≤ k := by
  rcases Nat.lt_or_ge k W.heap.size with h0 | h0
  · obtain ⟨t, h1, h2⟩ := h
    exact .inl ⟨t, (he k h0).symm.trans h1, h2⟩
  · exact .inr h0
theorem RP.then {b : Nat} {M2 : Mo} {W1 W2 : World} {ow1 : Ow} (he : Ext W ow ow1) (hp : Part (All ow) W W1) (h : RP lo ow1 W1 b M2 W2) : RP lo ow W b M2 W2 := by
  obtain ⟨ow2, h1, h2, h3⟩ := h
  exact ⟨ow2, h1, he.trans h2 hp.size, hp.trans h3 fun k hk => All.back he hk⟩
end
end Go.Proofs.Ytnbicbnighpkjaa
