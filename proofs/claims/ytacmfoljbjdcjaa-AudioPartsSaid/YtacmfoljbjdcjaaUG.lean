/- Law 20: what a listener pulls of one source is, in order, a part of what was said (AudioParts): what waits. -/
import Derived.Test.YtacmfoljbjdcjaaUD
import Derived.Test.YtacmfoljbjdcjaaNums
namespace Go.Proofs.Ytacmfoljbjdcjaa
open Go.RowKit Go.Maps
set_option linter.unusedVariables false
set_option linter.unusedSimpArgs false

def mrk (k : Nat) : Bool := ((k : Int) % 2 == 0)
def two (k : Nat) : List UInt8 := [b8 (k : Int), b8 0]
def kp (src : Int) (f : Nat → Int) (k : Nat) : Pk := ⟨mrk k, 5, f k, (k : Int), src, two k⟩
def rp (f : Nat → Int) (k : Nat) : Pk := ⟨mrk k, 5, (f k - f 0) % 65536, (k : Int), 1, two k⟩
/-- Two parties; the packets ks wait for the second one, of i that the first one said. -/
structure VS (src : Int) (f : Nat → Int) (rm i : Nat) (ks : List Nat) (M : Fm) : Prop where
  np : M.np = 2
  rm : M.room = rm
  u : M.u ≤ i
  p0 : ∃ x, M.P 0 = some x ∧ x.ws = [] ∧ x.lost = 0
  p1 : ∃ x, M.P 1 = some x ∧ x.ws = ks.map (rp f) ∧ ((i = 0 ∧ x.sp 0 = spZ) ∨ ∃ o, x.sp 0 = ⟨true, src, o, (o - f 0) % 65536⟩)
/-- They stand in order, between at and i. -/
structure IN (at_ i : Nat) (ks : List Nat) : Prop where
  lo : ∀ k ∈ ks, at_ ≤ k ∧ k < i
  up : ks.Pairwise (· < ·)
  le : at_ ≤ i
  ln : ks.length ≤ i
theorem IN.start : IN 0 0 [] := ⟨fun k hk => (by cases hk), List.Pairwise.nil, Nat.le_refl _, Nat.le_refl _⟩
theorem IN.same {at_ i : Nat} {ks : List Nat} (h : IN at_ i ks) : IN at_ (i + 1) ks := ⟨fun k hk => ⟨(h.lo k hk).1, Nat.lt_succ_of_lt (h.lo k hk).2⟩, h.up, Nat.le_succ_of_le h.le, Nat.le_succ_of_le h.ln⟩
theorem IN.snoc {at_ i : Nat} {ks : List Nat} (h : IN at_ i ks) : IN at_ (i + 1) (ks ++ [i]) := by
  refine ⟨fun k hk => ?_, ?_, Nat.le_succ_of_le h.le, by rw [List.length_append]; exact Nat.succ_le_succ h.ln⟩
  · rcases List.mem_append.1 hk with hk | hk
    · exact ⟨(h.lo k hk).1, Nat.lt_succ_of_lt (h.lo k hk).2⟩
    · rw [List.mem_singleton.1 hk]
      exact ⟨h.le, Nat.lt_succ_self _⟩
  · rw [List.pairwise_append]
    refine ⟨h.up, List.pairwise_singleton _ _, fun a ha b hb => ?_⟩
    rw [List.mem_singleton.1 hb]
    exact (h.lo a ha).2
theorem IN.pop {at_ i k : Nat} {r : List Nat} (h : IN at_ i (k :: r)) : at_ ≤ k ∧ k < i ∧ IN (k + 1) i r := by
  obtain ⟨h1, h2⟩ := h.lo k (List.mem_cons_self ..)
  have h3 := List.pairwise_cons.1 h.up
  have := h.ln
  rw [List.length_cons] at this
  exact ⟨h1, h2, fun j hj => ⟨h3.1 j hj, (h.lo j (List.mem_cons_of_mem _ hj)).2⟩, h3.2, h2, by omega⟩
theorem VS.hear {src : Int} {f : Nat → Int} {rm i : Nat} {ks : List Nat} {M : Fm} (h : VS src f rm i ks M) : hearE M 0 5 2 = 0 ∧ ∃ ks', (ks' = ks ∨ ks' = ks ++ [i]) ∧ VS src f rm (i + 1) ks' (hearM M 0 (kp src f i)) := by
  obtain ⟨x0, p0, w0, l0⟩ := h.p0
  obtain ⟨x1, p1, w1, s1⟩ := h.p1
  obtain ⟨e1, e2, _⟩ := hear_ok (M := M) (n := 0) (by rw [h.np]; decide) p0 (y := kp src f i) (by show (5 : Int) < 128; decide) (by show (2 : Nat) ≤ 1188; decide)
  refine ⟨e1, ?_⟩
  have e2' : hearM M 0 (kp src f i) = handTo (moreM M) 0 (kp src f i) M.np := e2
  rw [e2', h.np]
  have r1 : (handTo (moreM M) 0 (kp src f i) 2).P 1 = some (takeL x1 0 rm (kp src f i)) := by
    show (if 1 < 2 ∧ 1 ≠ 0 then (M.P 1).map (fun x => takeL x 0 M.room (kp src f i)) else M.P 1) = _
    rw [if_pos (by decide), p1, h.rm]
    rfl
  have r0 : (handTo (moreM M) 0 (kp src f i) 2).P 0 = some x0 := p0
  have hu : (handTo (moreM M) 0 (kp src f i) 2).u ≤ i + 1 := by show M.u + 1 ≤ _; have := h.u; omega
  have hfol : folI (x1.sp 0) (kp src f i) = (f i - f 0) % 65536 := by
    rcases s1 with ⟨hi, hs⟩ | ⟨o, hs⟩
    · rw [hs, hi]
      show (0 : Int) = _
      omega
    · rw [hs]
      unfold folI kp
      dsimp only
      rw [if_neg (by decide), if_pos rfl]
      omega
  by_cases hb : befB (x1.sp 0) (kp src f i) = true
  · have hnx : nxtS (x1.sp 0) (kp src f i) = ⟨true, src, f i, (f i - f 0) % 65536⟩ := by unfold nxtS; rw [hfol]; rfl
    have hnp : newP (x1.sp 0) (kp src f i) 0 = rp f i := by unfold newP; rw [hfol]; rfl
    by_cases hr : x1.ws.length < rm
    · refine ⟨ks ++ [i], .inr rfl, h.np, h.rm, hu, ⟨x0, r0, w0, l0⟩, ⟨_, r1, ?_, .inr ⟨f i, ?_⟩⟩⟩
      · unfold takeL
        rw [if_pos hb, if_pos hr, hnp]
        dsimp only
        rw [w1, List.map_append]
        rfl
      · unfold takeL
        rw [if_pos hb, if_pos hr, hnx]
        exact putN_same x1.sp 0 _
    · refine ⟨ks, .inl rfl, h.np, h.rm, hu, ⟨x0, r0, w0, l0⟩, ⟨_, r1, ?_, .inr ⟨f i, ?_⟩⟩⟩
      · unfold takeL
        rw [if_pos hb, if_neg hr]
        exact w1
      · unfold takeL
        rw [if_pos hb, if_neg hr, hnx]
        exact putN_same x1.sp 0 _
  · refine ⟨ks, .inl rfl, h.np, h.rm, hu, ⟨x0, r0, w0, l0⟩, ⟨_, r1, ?_, ?_⟩⟩
    · unfold takeL
      rw [if_neg hb]
      exact w1
    · unfold takeL
      rw [if_neg hb]
      rcases s1 with ⟨hi, hs⟩ | hs
      · exact absurd (by rw [hs]; rfl) hb
      · exact .inr hs
theorem VS.pull {src : Int} {f : Nat → Int} {rm i : Nat} {ks : List Nat} {M : Fm} (h : VS src f rm i ks M) : pullI M 1 = (ks.map (rp f)).headD pkZ ∧ pullB M 1 = !ks.isEmpty ∧ VS src f rm i (ks.drop 1) (pullM M 1) := by
  obtain ⟨x0, p0, w0, l0⟩ := h.p0
  obtain ⟨x1, p1, w1, s1⟩ := h.p1
  have e : M.at 1 = some x1 := (at_nat M 1).trans p1
  unfold pullI pullB pullM
  rw [e]
  dsimp only
  rw [w1]
  refine ⟨rfl, by cases ks <;> rfl, h.np, h.rm, h.u, ⟨x0, (putN_ne M.P (some { x1 with ws := (ks.map (rp f)).drop 1 }) (show (0 : Nat) ≠ 1 by decide)).trans p0, w0, l0⟩, ⟨{ x1 with ws := (ks.map (rp f)).drop 1 }, putN_same M.P 1 _, ?_, s1⟩⟩
  dsimp only
  rw [List.map_drop]
theorem VS.nothing {src : Int} {f : Nat → Int} {rm i : Nat} {M : Fm} (h : VS src f rm i [] M) : waitN M 1 = 0 ∧ waitN M 0 = 0 ∧ lostN M 0 = 0 := by
  obtain ⟨x0, p0, w0, l0⟩ := h.p0
  obtain ⟨x1, p1, w1, s1⟩ := h.p1
  have e0 : M.at 0 = some x0 := (at_nat M 0).trans p0
  have e1 : M.at 1 = some x1 := (at_nat M 1).trans p1
  unfold waitN lostN
  rw [e0, e1]
  dsimp only
  rw [w1, w0, l0]
  exact ⟨rfl, rfl, rfl⟩
theorem listen_ok {M : Fm} {n : Nat} (h : n < M.np) (hP : M.P n = none) : listenE M (n : Int) = 0 ∧ listenM M (n : Int) = { M with P := putN M.P n (some lmZ) } := by
  have e : listenE M (n : Int) = 0 := by unfold listenE; rw [if_neg (by rw [has_nat h]; decide), at_nat, hP]; rfl
  refine ⟨e, ?_⟩
  unfold listenM
  rw [if_pos e]
  rfl
def st1 (rm : Nat) : Fm := ⟨2, rm, putN (fun _ => none) 0 (some lmZ), 0⟩
def st2 (rm : Nat) : Fm := ⟨2, rm, putN (putN (fun _ => none) 0 (some lmZ)) 1 (some lmZ), 0⟩
theorem VS.start (src : Int) (f : Nat → Int) (rm : Nat) : listenE (newM 2 rm) 0 = 0 ∧ listenE (listenM (newM 2 rm) 0) 1 = 0 ∧ VS src f rm 0 [] (listenM (listenM (newM 2 rm) 0) 1) := by
  have n1 : (1 : Nat) ≠ 0 := by decide
  have n0 : (0 : Nat) ≠ 1 := by decide
  have hP1 : (st1 rm).P 1 = none := putN_ne (fun _ => none) (some lmZ) n1
  have hP0 : (st1 rm).P 0 = some lmZ := putN_same (fun _ => none) 0 (some lmZ)
  obtain ⟨a1, a2⟩ := listen_ok (M := newM 2 rm) (n := 0) (by show 0 < 2; decide) rfl
  obtain ⟨b1, b2⟩ := listen_ok (M := st1 rm) (n := 1) (by show 1 < 2; decide) hP1
  have a2' : listenM (newM 2 rm) 0 = st1 rm := a2
  have b2' : listenM (st1 rm) 1 = st2 rm := b2
  have q0 : (st2 rm).P 0 = some lmZ := (putN_ne (st1 rm).P (some lmZ) n0).trans hP0
  have q1 : (st2 rm).P 1 = some lmZ := putN_same (st1 rm).P 1 (some lmZ)
  refine ⟨a1, by rw [a2']; exact b1, ?_⟩
  rw [a2', b2']
  exact ⟨rfl, rfl, Nat.le_refl _, ⟨lmZ, q0, rfl, rfl⟩, ⟨lmZ, q1, rfl, .inl ⟨rfl, rfl⟩⟩⟩
/-! ### In memory -/
def VQ (w : World) (g : Nat) (src : Int) (f : Nat → Int) (rm i at_ : Nat) (ks : List Nat) (W : World) : Prop := ∃ M, FQ w g M [] W ∧ VS src f rm i ks M ∧ IN at_ i ks
section
variable {w W W' : World} {g rm i at_ : Nat} {src : Int} {f : Nat → Int} {ks : List Nat}
theorem VQ.bl (h : VQ w g src f rm i at_ ks W) : Below w.heap.size w W := by obtain ⟨M, h1, _⟩ := h; exact h1.bl
theorem VQ.step (h : VQ w g src f rm i at_ ks W) (hb : Below W.heap.size W W') : VQ w g src f rm i at_ ks W' := by obtain ⟨M, h1, h2⟩ := h; exact ⟨M, h1.step hb, h2⟩
theorem VQ.inn (h : VQ w g src f rm i at_ ks W) : IN at_ i ks := by obtain ⟨M, _, _, h3⟩ := h; exact h3
theorem vq_hear (h : VQ w g src f rm i at_ ks W) (hi : i < 100) {A : Option Addr} {c : Nat} (hd : BS W A 2 c (two i)) : Calls Try.prog 19 #[ptr g, .int .i64 0, .agg #[.bool (mrk i), .int .u8 5, .int .u16 (f i), .int .u32 (i : Int), .int .u32 src, .slice A 2 c]] W fun e w' => (∃ x y, e = .returned (.tuple #[.int .i64 x, .int .i64 y])) ∧ ∃ ks', Hid (VQ w g src f rm (i + 1) at_ ks' w') := by
  obtain ⟨M, h1, h2, h3⟩ := h
  obtain ⟨e1, ks', hk, h4⟩ := h2.hear
  refine (Hear_q h1 0 (mrk i) 5 (f i) (i : Int) src hd (by have := h2.u; omega)).mono fun e w' ⟨g1, g2, _⟩ => ⟨⟨_, _, g1⟩, ks', keep ⟨_, g2.out, h4, ?_⟩⟩
  rcases hk with rfl | rfl
  · exact h3.same
  · exact h3.snoc
theorem vq_pull {k : Nat} {r : List Nat} (h : VQ w g src f rm i at_ (k :: r) W) : Calls Try.prog 20 #[ptr g, .int .i64 1] W fun e w' => ∃ A c, e = .returned (.tuple #[.agg #[.bool (mrk k), .int .u8 5, .int .u16 ((f k - f 0) % 65536), .int .u32 (k : Int), .int .u32 1, .slice A 2 c], .bool true]) ∧ Hid (BS w' A 2 c (two k)) ∧ Hid (VQ w g src f rm i (k + 1) r w') := by
  obtain ⟨M, h1, h2, h3⟩ := h
  obtain ⟨e1, e2, h4⟩ := h2.pull
  refine (Pull_q h1 1).mono fun e w' ⟨A, n, c, g1, g2, g3, _, _⟩ => ?_
  rw [e1] at g1 g2
  rw [e2] at g1
  obtain rfl : n = 2 := g2.out.len
  exact ⟨A, c, g1, g2, keep ⟨_, g3.out, h4, h3.pop.2.2⟩⟩
theorem vq_pull_nil (h : VQ w g src f rm i at_ [] W) : Calls Try.prog 20 #[ptr g, .int .i64 1] W fun e w' => ∃ A n c, e = .returned (.tuple #[.agg #[.bool false, .int .u8 0, .int .u16 0, .int .u32 0, .int .u32 0, .slice A n c], .bool false]) ∧ Hid (VQ w g src f rm i at_ [] w') := by
  obtain ⟨M, h1, h2, h3⟩ := h
  obtain ⟨e1, e2, h4⟩ := h2.pull
  refine (Pull_q h1 1).mono fun e w' ⟨A, n, c, g1, g2, g3, _, _⟩ => ?_
  rw [e1, e2] at g1
  exact ⟨A, n, c, g1, keep ⟨_, g3.out, h4, h3⟩⟩
theorem vq_end (h : VQ w g src f rm i at_ [] W) : (Calls Try.prog 21 #[ptr g, .int .i64 1] W fun e w' => e = .returned (.int .i64 0) ∧ W = w') ∧ (Calls Try.prog 21 #[ptr g, .int .i64 0] W fun e w' => e = .returned (.int .i64 0) ∧ W = w') ∧ (Calls Try.prog 22 #[ptr g, .int .i64 0] W fun e w' => e = .returned (.int .i64 0) ∧ W = w') := by
  obtain ⟨M, h1, h2, h3⟩ := h
  obtain ⟨e1, e0, el⟩ := h2.nothing
  exact ⟨(Waiting_q h1 1).mono fun e w' ⟨g1, g2⟩ => ⟨by rw [e1] at g1; exact g1, g2⟩, (Waiting_q h1 0).mono fun e w' ⟨g1, g2⟩ => ⟨by rw [e0] at g1; exact g1, g2⟩, (Lost_q h1 0).mono fun e w' ⟨g1, g2⟩ => ⟨by rw [el] at g1; exact g1, g2⟩⟩
end
end Go.Proofs.Ytacmfoljbjdcjaa
