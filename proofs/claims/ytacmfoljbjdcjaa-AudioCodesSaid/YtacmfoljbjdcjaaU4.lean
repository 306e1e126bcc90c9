/- Package audio: what a listener is behind each kind of writing; a forwarder as it lies; what it is when one party's turn has changed that party. -/
import Derived.Test.YtacmfoljbjdcjaaU3
namespace Go.Proofs.Ytacmfoljbjdcjaa
open Go.RowKit Go.Maps
set_option linter.unusedVariables false

section
variable {lo n : Nat} {ow ow' : Ow} {m : Gl} {W W' : World}
/-- A listener learns what a speaker said. -/
theorem LA.learn (h : LA lo ow n m W) (ho : Ok lo ow W) {k : Nat} (hk : k < 16) (s : Sp) :
    LA lo ow n { m with sp := putN m.sp k s } (W.setCells m.b (k * 4) s.cells) ∧ Ok lo ow (W.setCells m.b (k * 4) s.cells) ∧ Part (Of ow n) W (W.setCells m.b (k * 4) s.cells) := by
  obtain ⟨cur, h1, h2⟩ := h.hd
  have hp0 := part_setCells m.b s.cells (k * 4) W
  have hP : Part (Of ow n) W (W.setCells m.b (k * 4) s.cells) := hp0.mono fun i hi => by rw [hi]; exact ⟨_, h.ob, rfl⟩
  have hl4 : s.cells.length = 4 := rfl
  obtain ⟨cur', g1, g2, g3⟩ := setCells_row m.b _ s.cells (k * 4) W cur h1 (by rw [hl4, h2.sz]; omega)
  rw [hl4] at g3
  refine ⟨⟨⟨cur', g1, ⟨by rw [g2]; exact h2.sz, fun i hi j v hv => ?_, ?_, ?_⟩⟩, h.ob, ?_, h.ov, fun y hy => (h.iv y hy).step hP (fun k hk => hk.nd) (Ext.refl W ow), h.wl, h.ll⟩, ho.step hp0.size, hP⟩
  · rw [g3]
    have hj : j < 4 := by
      rcases Nat.lt_or_ge j 4 with h0 | h0
      · exact h0
      · rw [List.getElem?_eq_none (by show 4 ≤ j; exact h0)] at hv; cases hv
    by_cases e : i = k
    · subst e
      rw [if_pos (by omega), show i * 4 + j - i * 4 = j by omega]
      dsimp only at hv
      rw [putN_same] at hv
      exact hv
    · rw [if_neg (by omega)]
      dsimp only at hv
      rw [putN_ne _ _ e] at hv
      exact h2.sp i hi j v hv
  · rw [g3, if_neg (by omega)]
    exact h2.sl
  · rw [g3, if_neg (by omega)]
    exact h2.lo
  · exact hp0.own h.wt (own_block (S := fun i => i = m.b) fun a ha => tag_ne (h.ov a ha) h.ob (by simp))
/-- One more is lost. -/
theorem LA.lose (h : LA lo ow n m W) (ho : Ok lo ow W) (hl : m.lost + 1 ≤ 1000000) :
    LA lo ow n { m with lost := m.lost + 1 } (W.setCell ⟨m.b, 65, none⟩ (.int .i64 ((m.lost : Int) + 1))) ∧ Ok lo ow (W.setCell ⟨m.b, 65, none⟩ (.int .i64 ((m.lost : Int) + 1))) ∧ Part (Of ow n) W (W.setCell ⟨m.b, 65, none⟩ (.int .i64 ((m.lost : Int) + 1))) := by
  have hp : Part (fun i => i = m.b) W (W.setCell ⟨m.b, 65, none⟩ (.int .i64 ((m.lost : Int) + 1))) := part_one W m.b 65 _ rfl
  have hP : Part (Of ow n) W (W.setCell ⟨m.b, 65, none⟩ (.int .i64 ((m.lost : Int) + 1))) := hp.mono fun k hk => by rw [hk]; exact ⟨_, h.ob, rfl⟩
  obtain ⟨cur, h1, h2⟩ := h.hd
  have hsz := h2.sz
  refine ⟨⟨⟨_, heap_setCell_same W m.b 65 _ _ _ h1, ⟨by rw [Array.size_setIfInBounds]; exact hsz, fun i hi j v hv => ?_, ?_, ?_⟩⟩, h.ob, hp.own h.wt (own_block (S := fun i => i = m.b) fun a ha => tag_ne (h.ov a ha) h.ob (by simp)), h.ov, fun y hy => (h.iv y hy).step hP (fun k hk => hk.nd) (Ext.refl W ow), h.wl, hl⟩, ho.step hp.size, hP⟩
  · have hj : j < 4 := by
      rcases Nat.lt_or_ge j 4 with h0 | h0
      · exact h0
      · rw [List.getElem?_eq_none (by show 4 ≤ j; exact h0)] at hv; cases hv
    rw [Array.getElem?_setIfInBounds_ne (by omega)]
    exact h2.sp i hi j v hv
  · rw [Array.getElem?_setIfInBounds_ne (by omega)]
    exact h2.sl
  · rw [Array.getElem?_setIfInBounds_self_of_lt (by omega)]
    rfl
def owA (ow : Ow) (n : Nat) : Option Addr → Ow
  | some a => ow.put a.block (.wt n)
  | none => ow
/-- Another row of what waits. -/
theorem LA.wait (h : LA lo ow n m W) (ho : Ok lo ow W) {W1 : World} {A : Option Addr} {k c : Nat} {ws : List Pv} (hk : k = ws.length) (hp : Part (fun i => ∃ a, m.v.1 = some a ∧ i = a.block) W W1) (hr : W1.ownsRow lo 26 6 (.slice A k c) k (flatF Pv.cells ws)) (hA : ∀ a, A = some a → m.v.1 = some a ∨ W.heap.size ≤ a.block)
    (hi : ∀ x ∈ ws, IV ow W x) (hl : ws.length ≤ 64) :
    LA lo (owA ow n A) n { m with v := (A, k, c), ws := ws } (W1.setCell ⟨m.b, 64, none⟩ (.slice A k c)) ∧ Ok lo (owA ow n A) (W1.setCell ⟨m.b, 64, none⟩ (.slice A k c)) ∧ Ext W ow (owA ow n A) ∧ Part (Of ow n) W (W1.setCell ⟨m.b, 64, none⟩ (.slice A k c)) := by
  subst hk
  have he : Ext W ow (owA ow n A) := by
    cases A with
    | none => exact Ext.refl W ow
    | some a =>
      intro i hi
      show ow.put a.block (.wt n) i = ow i
      by_cases e : i = a.block
      · rcases hA a rfl with h1 | h1
        · rw [e, put_same]
          exact (h.ov a h1).symm
        · omega
      · exact put_other e
  have hnb : ∀ i, (∃ a, m.v.1 = some a ∧ i = a.block) → Of ow n i := fun i ⟨a, ha, e⟩ => by subst e; exact ⟨_, h.ov a ha, rfl⟩
  have hq : Part (fun i => i = m.b) W1 (W1.setCell ⟨m.b, 64, none⟩ (.slice A ws.length c)) := part_one W1 m.b 64 _ rfl
  have hP : Part (Of ow n) W (W1.setCell ⟨m.b, 64, none⟩ (.slice A ws.length c)) := (hp.mono hnb).trans hq fun i hi => .inl (by rw [hi]; exact ⟨_, h.ob, rfl⟩)
  obtain ⟨cur, h1, h2⟩ := h.hd
  have hsz := h2.sz
  have hb1 : W1.heap[m.b]? = some (.cells cur 83 (0, 0)) := (hp.block m.b h.lt fun ⟨a, ha, e⟩ => tag_ne h.ob (h.ov a ha) (by simp) e).trans h1
  have hne : ∀ a, A = some a → a.block ≠ m.b := fun a ha => by
    rcases hA a ha with h1 | h1
    · exact tag_ne (h.ov a h1) h.ob (by simp)
    · have := h.lt; omega
  refine ⟨⟨⟨_, heap_setCell_same W1 m.b 64 _ _ _ hb1, ⟨by rw [Array.size_setIfInBounds]; exact hsz, fun i hi j v hv => ?_, ?_, ?_⟩⟩, (he _ h.lt).trans h.ob, ?_, fun a ha => ?_, fun y hy => (hi y hy).step hP (fun k hk => hk.nd) he, hl, h.ll⟩, ?_, he, hP⟩
  · have hj : j < 4 := by
      rcases Nat.lt_or_ge j 4 with h0 | h0
      · exact h0
      · rw [List.getElem?_eq_none (by show 4 ≤ j; exact h0)] at hv; cases hv
    rw [Array.getElem?_setIfInBounds_ne (by omega)]
    exact h2.sp i hi j v hv
  · rw [Array.getElem?_setIfInBounds_self_of_lt (by omega)]
    rfl
  · rw [Array.getElem?_setIfInBounds_ne (by omega)]
    exact h2.lo
  · refine hq.own hr fun b hb => ?_
    cases A with
    | none => cases hb
    | some a =>
      injection hb with hb
      rw [← hb]
      exact hne a rfl
  · obtain rfl : A = some a := ha
    exact put_same
  · cases A with
    | none => exact ho.step hP.size
    | some a =>
      obtain ⟨h1, h2⟩ := hr.lt a.block rfl
      exact ho.put _ h1 (by have : W1.heap.size ≤ _ := hq.size; omega) hP.size
end

/-- A forwarder: how many parties, how much room, who listens; u: nobody lost more. -/
structure Fm where
  np : Nat
  room : Nat
  P : Nat → Option Lm
  u : Nat
/-- A forwarder's blocks. -/
structure Gf where
  b : Nat
  r : Nat
  np : Nat
  room : Nat
  P : Nat → Option Gl
  u : Nat
def Gf.fm (R : Gf) : Fm := ⟨R.np, R.room, fun n => (R.P n).map Gl.lm, R.u⟩
def Gf.pv (R : Gf) (i : Nat) : Value := match R.P i with
  | some m => ptr m.b
  | none => .pointer none
structure FA (lo : Nat) (ow : Ow) (R : Gf) (W : World) : Prop where
  hd : W.heap[R.b]? = some (.cells #[.int .i64 R.room, .slice (some ⟨R.r, 0, none⟩) R.np R.np] 75 (0, 0))
  ob : ow R.b = some .fwd
  rw : ∃ cur, W.heap[R.r]? = some (.cells cur 77 (0, 0)) ∧ cur.size = R.np ∧ ∀ i, i < R.np → cur[i]? = some (R.pv i)
  oj : ow R.r = some .row
  ms : ∀ n m, R.P n = some m → LA lo ow n m W ∧ n < R.np ∧ m.ws.length ≤ R.room ∧ m.lost ≤ R.u
  ok : Ok lo ow W
  lo : lo ≤ W.heap.size
  np : 1 ≤ R.np ∧ R.np ≤ 16
  rm : 1 ≤ R.room ∧ R.room ≤ 64
/-- The forwarder at b, its row at r, with the contents M. -/
def FL (lo : Nat) (ow : Ow) (b r : Nat) (M : Fm) (W : World) : Prop := ∃ R, FA lo ow R W ∧ R.b = b ∧ R.r = r ∧ R.fm = M
/-- What a call leaves. -/
def FP (lo : Nat) (ow : Ow) (W : World) (b r : Nat) (M : Fm) (W' : World) : Prop := ∃ ow', FL lo ow' b r M W' ∧ Ext W ow ow' ∧ Part (All ow) W W'
theorem upd_cell {w : World} {b : Nat} {C : Array Value} {t : TypeId} (h : w.heap[b]? = some (.cells C t (0, 0))) (o : Nat) (v : Value) (hv : C[o]? = some v) : w.cell? ⟨b, o, none⟩ = some v := by
  rw [cell_of_row _ _ _ _ _ _ h]; exact hv
theorem upd_fz {w : World} {b : Nat} {C : Array Value} {t : TypeId} (h : w.heap[b]? = some (.cells C t (0, 0))) (o : Nat) : w.frozen? ⟨b, o, none⟩ = false := frozen_of_row _ _ _ _ _ h
section
variable {lo : Nat} {ow ow' : Ow} {R : Gf} {W W' : World}
theorem FA.fl (h : FA lo ow R W) : FL lo ow R.b R.r R.fm W := ⟨R, h, rfl, rfl, rfl⟩
theorem FA.lt (h : FA lo ow R W) : R.b < W.heap.size := (Array.getElem?_eq_some_iff.1 h.hd).1
theorem FA.ltr (h : FA lo ow R W) : R.r < W.heap.size := by obtain ⟨cur, h1, _⟩ := h.rw; exact (Array.getElem?_eq_some_iff.1 h1).1
theorem FA.c0 (h : FA lo ow R W) : W.cell? ⟨R.b, 0, none⟩ = some (.int .i64 R.room) ∧ W.cell? ⟨R.b, 1, none⟩ = some (.slice (some ⟨R.r, 0, none⟩) R.np R.np) :=
  ⟨upd_cell h.hd 0 _ rfl, upd_cell h.hd 1 _ rfl⟩
theorem FA.cr (h : FA lo ow R W) {i : Nat} (hi : i < R.np) : W.cell? ⟨R.r, i, none⟩ = some (R.pv i) ∧ W.frozen? ⟨R.r, i, none⟩ = false := by
  obtain ⟨cur, h1, h2, h3⟩ := h.rw
  exact ⟨upd_cell h1 i _ (h3 i hi), upd_fz h1 i⟩
/-- But for blocks of no tag, or of octets that stay. -/
theorem FA.part (h : FA lo ow R W) {S : Nat → Prop} (hp : Part S W W') (hS : ∀ k, S k → ow k = none) (he : Ext W ow ow') (ho : Ok lo ow' W') : FA lo ow' R W' := by
  have nS : ∀ {k t}, ow k = some t → ¬ S k := fun hk hs => by rw [hS _ hs] at hk; cases hk
  obtain ⟨cur, h1, h2⟩ := h.rw
  exact ⟨(hp.block _ h.lt (nS h.ob)).trans h.hd, (he _ h.lt).trans h.ob, ⟨cur, (hp.block _ h.ltr (nS h.oj)).trans h1, h2⟩, (he _ h.ltr).trans h.oj, fun n m hm => ⟨(h.ms n m hm).1.keep hp (fun k hk => ⟨by rw [hS k hk]; simp, fun ⟨t, h1, _⟩ => by rw [hS k hk] at h1; cases h1⟩) he, (h.ms n m hm).2⟩, ho, Nat.le_trans h.lo hp.size, h.np, h.rm⟩
theorem FA.beside (h : FA lo ow R W) {S : Nat → Prop} (hp : Part S W W') (hS : ∀ k, S k → ow k = none) : FA lo ow R W' := h.part hp hS (Ext.refl W ow) (h.ok.step hp.size)
theorem FA.step (h : FA lo ow R W) (hb : Below W.heap.size W W') : FA lo ow R W' := h.beside (Part.of_below (fun _ => False) hb) fun _ hk => hk.elim
theorem FL.beside {b r : Nat} {M : Fm} (h : FL lo ow b r M W) {S : Nat → Prop} (hp : Part S W W') (hS : ∀ k, S k → ow k = none) : FL lo ow b r M W' := by
  obtain ⟨R, h1, h2⟩ := h
  exact ⟨R, h1.beside hp hS, h2⟩
def owD (ow : Ow) : Option Addr → Ow
  | some a => ow.put a.block .dat
  | none => ow
/-- New octets of a packet. -/
theorem FA.dat (h : FA lo ow R W) (hb : Below W.heap.size W W') {A : Option Addr} (hA : ∀ a, A = some a → W.heap.size ≤ a.block ∧ a.block < W'.heap.size) : FA lo (owD ow A) R W' ∧ Ext W ow (owD ow A) := by
  have he : Ext W ow (owD ow A) := by
    cases A with
    | none => exact Ext.refl W ow
    | some a => exact (Ext.refl W ow).put (hA a rfl).1 _
  have ho : Ok lo (owD ow A) W' := by
    cases A with
    | none => exact h.ok.step hb.size
    | some a => exact h.ok.put _ (Nat.le_trans h.lo (hA a rfl).1) (hA a rfl).2 hb.size
  exact ⟨h.part (Part.of_below (fun _ => False) hb) (fun _ hk => hk.elim) he ho, he⟩
theorem FL.step {b r : Nat} {M : Fm} (h : FL lo ow b r M W) (hb : Below W.heap.size W W') : FL lo ow b r M W' := by
  obtain ⟨R, h1, h2⟩ := h
  exact ⟨R, h1.step hb, h2⟩
theorem FP.of {b r : Nat} {M : Fm} (h : FL lo ow b r M W) (hb : Below W.heap.size W W') : FP lo ow W b r M W' := ⟨ow, h.step hb, Ext.refl W ow, Part.of_below _ hb⟩
/-- One party's turn. -/
theorem FA.turn (h : FA lo ow R W) {n : Nat} {m m' : Gl} (hn : R.P n = some m) (h1 : LA lo ow' n m' W') (h2 : Ok lo ow' W') (he : Ext W ow ow') (hp : Part (Of ow n) W W') (hb : m'.b = m.b) (hw : m'.lm.ws.length ≤ R.room) (hl : m'.lm.lost ≤ R.u) :
    FL lo ow' R.b R.r { R.fm with P := putN R.fm.P n (some m'.lm) } W' ∧ Part (All ow) W W' := by
  have hpa : Part (All ow) W W' := hp.mono fun k hk => hk.all
  have nO : ∀ {k t}, ow k = some t → t.who = none → ¬ Of ow n k := fun hk ht ⟨t', hk', ht'⟩ => by
    rw [hk] at hk'
    injection hk' with hk'
    rw [hk', ht'] at ht
    cases ht
  obtain ⟨cur, r1, r2, r3⟩ := h.rw
  refine ⟨⟨{ R with P := putN R.P n (some m') }, ⟨(hp.block _ h.lt (nO h.ob rfl)).trans h.hd, (he _ h.lt).trans h.ob, ⟨cur, (hp.block _ h.ltr (nO h.oj rfl)).trans r1, r2, fun i hi => ?_⟩, (he _ h.ltr).trans h.oj, fun k z hz => ?_, h2, Nat.le_trans h.lo hp.size, h.np, h.rm⟩, rfl, rfl, ?_⟩, hpa⟩
  · have : Gf.pv { R with P := putN R.P n (some m') } i = R.pv i := by
      unfold Gf.pv
      dsimp only
      by_cases e : i = n
      · subst e
        rw [putN_same, hn]
        dsimp only
        rw [hb]
      · rw [putN_ne _ _ e]
    rw [this]
    exact r3 i hi
  · dsimp only at hz
    by_cases e : k = n
    · subst e
      rw [putN_same] at hz
      injection hz with hz
      subst hz
      unfold Gl.lm at hw hl
      dsimp only at hw hl
      rw [List.length_map] at hw
      exact ⟨h1, (h.ms k m hn).2.1, hw, hl⟩
    · rw [putN_ne _ _ e] at hz
      obtain ⟨z1, z2⟩ := h.ms k z hz
      exact ⟨z1.keep hp (fun i hi => ⟨hi.nd, fun ⟨t, q1, q2⟩ => by
        obtain ⟨t', q3, q4⟩ := hi
        rw [q1] at q3
        injection q3 with q3
        rw [q3, q4] at q2
        injection q2 with q2
        exact e q2.symm⟩) he, z2⟩
  · unfold Gf.fm
    dsimp only
    congr 1
    funext k
    by_cases e : k = n
    · subst e
      rw [putN_same, putN_same]
      rfl
    · rw [putN_ne _ _ e, putN_ne _ _ e]
/-- What a party is in the row is written; its blocks, if it has any, are new. -/
theorem FA.seat (h : FA lo ow R W) {n : Nat} (hn : n < R.np) {y : Option Gl} {W1 : World} (hb : Below W.heap.size W W1) (he : Ext W ow ow') (ho : Ok lo ow' W1) (hy : ∀ m, y = some m → LA lo ow' n m W1 ∧ W.heap.size ≤ m.b ∧ m.ws.length ≤ R.room ∧ m.lost ≤ R.u ∧ ∀ a, m.v.1 = some a → W.heap.size ≤ a.block)
    (v : Value) (hv : v = match (generalizing := false) y with | some m => ptr m.b | none => .pointer none) :
    FL lo ow' R.b R.r { R.fm with P := putN R.fm.P n (y.map Gl.lm) } (W1.setCell ⟨R.r, n, none⟩ v) ∧ Part (All ow) W (W1.setCell ⟨R.r, n, none⟩ v) := by
  have h1 := h.part (Part.of_below (fun _ => False) hb) (fun _ hk => hk.elim) he ho
  have hp : Part (fun i => i = R.r) W1 (W1.setCell ⟨R.r, n, none⟩ v) := part_one W1 R.r n _ rfl
  have hpa : Part (All ow) W (W1.setCell ⟨R.r, n, none⟩ v) := (Part.of_below (fun i => i = R.r) hb).trans hp (fun i hi => .inl hi) |>.mono fun i hi => by subst hi; exact ⟨_, h.oj, by simp⟩
  obtain ⟨cur, r1, r2, r3⟩ := h1.rw
  have hS : ∀ k, k = R.r → ow' k ≠ some Tag.dat := fun k hk => by subst hk; rw [h1.oj]; simp
  refine ⟨⟨{ R with P := putN R.P n y }, ⟨(hp.block _ h1.lt (tag_ne h1.ob h1.oj (by simp))).trans h1.hd, h1.ob, ⟨_, heap_setCell_same W1 R.r n _ _ v r1, by rw [Array.size_setIfInBounds]; exact r2, fun i hi => ?_⟩, h1.oj, fun k z hz => ?_, ho.step hp.size, Nat.le_trans h1.lo hp.size, h.np, h.rm⟩, rfl, rfl, ?_⟩, hpa⟩
  · unfold Gf.pv
    dsimp only
    by_cases e : i = n
    · subst e
      rw [putN_same, Array.getElem?_setIfInBounds_self_of_lt (by omega), hv]
    · rw [putN_ne _ _ e, Array.getElem?_setIfInBounds_ne (fun q => e q.symm)]
      exact r3 i hi
  · dsimp only at hz
    have hO : ∀ k, k = R.r → ow' k ≠ some Tag.dat ∧ ∀ q, ¬ Of ow' q k := fun k hk => ⟨hS k hk, fun q ⟨t, q1, q2⟩ => by subst hk; rw [h1.oj] at q1; injection q1 with q1; rw [← q1] at q2; cases q2⟩
    by_cases e : k = n
    · subst e
      rw [putN_same] at hz
      obtain ⟨a1, a2, a3, a4, _⟩ := hy z hz
      exact ⟨a1.keep hp (fun i hi => ⟨(hO i hi).1, (hO i hi).2 _⟩) (Ext.refl _ _), hn, a3, a4⟩
    · rw [putN_ne _ _ e] at hz
      obtain ⟨z1, z2⟩ := h1.ms k z hz
      exact ⟨z1.keep hp (fun i hi => ⟨(hO i hi).1, (hO i hi).2 _⟩) (Ext.refl _ _), z2⟩
  · unfold Gf.fm
    dsimp only
    congr 1
    funext k
    by_cases e : k = n
    · subst e
      rw [putN_same, putN_same]
    · rw [putN_ne _ _ e, putN_ne _ _ e]
theorem FL.mono_u {b r : Nat} {M : Fm} (h : FL lo ow b r M W) {v : Nat} (hv : M.u ≤ v) : FL lo ow b r { M with u := v } W := by
  obtain ⟨R, h1, h2, h3, h4⟩ := h
  have hu : R.u = M.u := by rw [← h4]; rfl
  exact ⟨{ R with u := v }, ⟨h1.hd, h1.ob, h1.rw, h1.oj, fun n m hm => by
    obtain ⟨a1, a2, a3, a4⟩ := h1.ms n m hm
    exact ⟨a1, a2, a3, by show m.lost ≤ v; omega⟩, h1.ok, h1.lo, h1.np, h1.rm⟩, h2, h3, by rw [← h4]; rfl⟩
theorem All.back {W : World} {ow ow1 : Ow} (he : Ext W ow ow1) {k : Nat} (h : All ow1 k) : All ow k ∨ W.heap.size ≤ k := by
  rcases Nat.lt_or_ge k W.heap.size with h0 | h0
  · obtain ⟨t, h1, h2⟩ := h
    exact .inl ⟨t, (he k h0).symm.trans h1, h2⟩
  · exact .inr h0
theorem FP.then {b r : Nat} {M2 : Fm} {W1 W2 : World} {ow1 : Ow} (he : Ext W ow ow1) (hp : Part (All ow) W W1) (h : FP lo ow1 W1 b r M2 W2) : FP lo ow W b r M2 W2 := by
  obtain ⟨ow2, h1, h2, h3⟩ := h
  exact ⟨ow2, h1, he.trans h2 hp.size, hp.trans h3 fun k hk => All.back he hk⟩
end
end Go.Proofs.Ytacmfoljbjdcjaa
