/- The walk of the law WindowRoom. -/
import Derived.OpenShut
import Derived.Test.YtjogpkkokblmoaaWi6
namespace Go.Proofs.Ytjogpkkokblmoaa
open Go.RowKit
set_option linter.unusedVariables false

set_option maxHeartbeats 4000000 in
theorem windowRoom_walk (s : WS) (f p : Int) (w : World) (_ : True) (hf : (Lit.int .i64 f).wf = true) (hp : (Lit.int .i64 p).wf = true) :
    Calls Try.prog 4 #[.agg s.cells, .int .i64 f, .int .i64 p] w fun e w' => e = .returned (.bool true) ∧ Below w.heap.size w w' := by
  have K0 := keep (fun w => awake_any w)
  have hfb := bounds_i64 hf
  have K1 := fun w => Room_any s f p hfb.2 w
  have K2 : ∀ w : World, Calls Try.prog 13 #[.agg s.cells] w fun e w' => e = .returned (.agg s.cells) ∧ Below w.heap.size w w' := fun w => theirs_any s w
  have K3 := fun w => May_any s w
  have R0 := WB.new 26 w s
  have L0 := below_lay w (.cells s.cells 26)
  obtain ⟨n, hn⟩ : ∃ n, s.room f p = n := ⟨_, rfl⟩
  rw [hn] at K1
  obtain ⟨b, hb⟩ : ∃ b, s.may = b := ⟨_, rfl⟩
  rw [hb] at K3
  have hN : (b = false → n = 0) ∧ (f < 0 → n = 0) ∧ (p < 0 → n = 0) ∧ (b = true → 0 ≤ f → 0 ≤ p → (1 ≤ s.mt ∧ s.mt ≤ s.cw ∧ s.cw ≤ 1073741824) ∧ (f = 0 → n = max (min s.cw p) s.mt) ∧ (f ≠ 0 → n = max (min (s.cw - f) p) 0)) := by
    rw [← hn, ← hb]
    unfold WS.room
    refine ⟨fun h => if_neg (by simp [h]), fun h => if_neg (by omega), fun h => if_neg (by omega), fun h0 h1 h2 => ?_⟩
    rw [if_pos ⟨h0, h1, h2⟩]
    obtain ⟨m1, m2, m3, m4⟩ := may_iff.1 h0
    exact ⟨by omega, fun h => if_pos h, fun h => if_neg h⟩
  clear hf hp hn hb
  obtain ⟨cw, th, pa, mt, re, ex⟩ := s
  dsimp only [StPost, WS.cells] at R0 L0 K1 K2 K3 hN ⊢
  replace R0 := keep R0
  replace L0 := keep L0
  replace K1 := keep K1
  replace K2 := keep K2
  replace K3 := keep K3
  rcases b with _ | _
  · obtain rfl : n = 0 := hN.1 rfl
    clear hN
    go_enter Try.func4, Try.ntmps4
    go_wp2_with (first
      | (go_at_call 7; refine (K0.out _).mono ?_; rintro e w1 ⟨rfl, hb1⟩
         have R1 := R0.out.step hb1
         obtain ⟨⟨d0, d1, d2, d3, d4, d5⟩, _⟩ := R1.all
         dsimp only at d0 d1 d2 d3 d4 d5
         have L1 := keep (up L0.out hb1)
         replace R1 := keep R1
         clear hb1 R0 L0 K0)
      | (go_at_call 14; refine (K1.out _).mono ?_; rintro e w2 ⟨rfl, hb2⟩
         have R2 := R1.out.step hb2
         obtain ⟨⟨d0, d1, d2, d3, d4, d5⟩, _⟩ := R2.all
         dsimp only at d0 d1 d2 d3 d4 d5
         have L2 := keep (up L1.out hb2)
         replace R2 := keep R2
         clear hb2 R1 L1 K1)
      | (go_at_call 13; refine (K2.out _).mono ?_; rintro e w3 ⟨rfl, hb3⟩
         have R3 := R2.out.step hb3
         obtain ⟨⟨d0, d1, d2, d3, d4, d5⟩, _⟩ := R3.all
         dsimp only at d0 d1 d2 d3 d4 d5
         have L3 := keep (up L2.out hb3)
         replace R3 := keep R3
         clear hb3 R2 L2 K2)
      | (go_at_call 12; refine (K3.out _).mono ?_; rintro e w4 ⟨rfl, hb4⟩
         have R4 := R3.out.step hb4
         obtain ⟨⟨d0, d1, d2, d3, d4, d5⟩, _⟩ := R4.all
         dsimp only at d0 d1 d2 d3 d4 d5
         have L4 := keep (up L3.out hb4)
         replace R4 := keep R4
         clear hb4 R3 L3 K3))
    all_goals go_ret
    all_goals exact ⟨rfl, L4.out⟩
  by_cases hf0 : f < 0
  · obtain rfl : n = 0 := hN.2.1 hf0
    clear hN
    go_enter Try.func4, Try.ntmps4
    go_wp2_with (first
      | (go_at_call 7; refine (K0.out _).mono ?_; rintro e w1 ⟨rfl, hb1⟩
         have R1 := R0.out.step hb1
         obtain ⟨⟨d0, d1, d2, d3, d4, d5⟩, _⟩ := R1.all
         dsimp only at d0 d1 d2 d3 d4 d5
         have L1 := keep (up L0.out hb1)
         replace R1 := keep R1
         clear hb1 R0 L0 K0)
      | (go_at_call 14; refine (K1.out _).mono ?_; rintro e w2 ⟨rfl, hb2⟩
         have R2 := R1.out.step hb2
         obtain ⟨⟨d0, d1, d2, d3, d4, d5⟩, _⟩ := R2.all
         dsimp only at d0 d1 d2 d3 d4 d5
         have L2 := keep (up L1.out hb2)
         replace R2 := keep R2
         clear hb2 R1 L1 K1)
      | (go_at_call 13; refine (K2.out _).mono ?_; rintro e w3 ⟨rfl, hb3⟩
         have R3 := R2.out.step hb3
         obtain ⟨⟨d0, d1, d2, d3, d4, d5⟩, _⟩ := R3.all
         dsimp only at d0 d1 d2 d3 d4 d5
         have L3 := keep (up L2.out hb3)
         replace R3 := keep R3
         clear hb3 R2 L2 K2)
      | (go_at_call 12; refine (K3.out _).mono ?_; rintro e w4 ⟨rfl, hb4⟩
         have R4 := R3.out.step hb4
         obtain ⟨⟨d0, d1, d2, d3, d4, d5⟩, _⟩ := R4.all
         dsimp only at d0 d1 d2 d3 d4 d5
         have L4 := keep (up L3.out hb4)
         replace R4 := keep R4
         clear hb4 R3 L3 K3))
    all_goals go_ret
    all_goals exact ⟨rfl, L4.out⟩
  by_cases hp0 : p < 0
  · obtain rfl : n = 0 := hN.2.2.1 hp0
    clear hN
    go_enter Try.func4, Try.ntmps4
    go_wp2_with (first
      | (go_at_call 7; refine (K0.out _).mono ?_; rintro e w1 ⟨rfl, hb1⟩
         have R1 := R0.out.step hb1
         obtain ⟨⟨d0, d1, d2, d3, d4, d5⟩, _⟩ := R1.all
         dsimp only at d0 d1 d2 d3 d4 d5
         have L1 := keep (up L0.out hb1)
         replace R1 := keep R1
         clear hb1 R0 L0 K0)
      | (go_at_call 14; refine (K1.out _).mono ?_; rintro e w2 ⟨rfl, hb2⟩
         have R2 := R1.out.step hb2
         obtain ⟨⟨d0, d1, d2, d3, d4, d5⟩, _⟩ := R2.all
         dsimp only at d0 d1 d2 d3 d4 d5
         have L2 := keep (up L1.out hb2)
         replace R2 := keep R2
         clear hb2 R1 L1 K1)
      | (go_at_call 13; refine (K2.out _).mono ?_; rintro e w3 ⟨rfl, hb3⟩
         have R3 := R2.out.step hb3
         obtain ⟨⟨d0, d1, d2, d3, d4, d5⟩, _⟩ := R3.all
         dsimp only at d0 d1 d2 d3 d4 d5
         have L3 := keep (up L2.out hb3)
         replace R3 := keep R3
         clear hb3 R2 L2 K2)
      | (go_at_call 12; refine (K3.out _).mono ?_; rintro e w4 ⟨rfl, hb4⟩
         have R4 := R3.out.step hb4
         obtain ⟨⟨d0, d1, d2, d3, d4, d5⟩, _⟩ := R4.all
         dsimp only at d0 d1 d2 d3 d4 d5
         have L4 := keep (up L3.out hb4)
         replace R4 := keep R4
         clear hb4 R3 L3 K3))
    all_goals go_ret
    all_goals exact ⟨rfl, L4.out⟩
  obtain ⟨⟨m1, m2, m3⟩, hn1, hn2⟩ := hN.2.2.2 rfl (by omega) (by omega)
  clear hN
  by_cases hz : f = 0
  · have hn := hn1 hz
    obtain ⟨v, hv⟩ : ∃ v, (if p < mt then mt else p) = v := ⟨_, rfl⟩
    have o1 : mt ≤ n := by omega
    have o2 : n ≤ cw := by omega
    have o3 : n ≤ v := by omega
    have o4 : ¬ cw < mt := by omega
    subst hz
    clear hn hn1 hn2
    go_enter Try.func4, Try.ntmps4
    go_wp2_with (first
      | (go_at_call 7; refine (K0.out _).mono ?_; rintro e w1 ⟨rfl, hb1⟩
         have R1 := R0.out.step hb1
         obtain ⟨⟨d0, d1, d2, d3, d4, d5⟩, _⟩ := R1.all
         dsimp only at d0 d1 d2 d3 d4 d5
         have L1 := keep (up L0.out hb1)
         replace R1 := keep R1
         clear hb1 R0 L0 K0)
      | (go_at_call 14; refine (K1.out _).mono ?_; rintro e w2 ⟨rfl, hb2⟩
         have R2 := R1.out.step hb2
         obtain ⟨⟨d0, d1, d2, d3, d4, d5⟩, _⟩ := R2.all
         dsimp only at d0 d1 d2 d3 d4 d5
         have L2 := keep (up L1.out hb2)
         replace R2 := keep R2
         clear hb2 R1 L1 K1)
      | (go_at_call 13; refine (K2.out _).mono ?_; rintro e w3 ⟨rfl, hb3⟩
         have R3 := R2.out.step hb3
         obtain ⟨⟨d0, d1, d2, d3, d4, d5⟩, _⟩ := R3.all
         dsimp only at d0 d1 d2 d3 d4 d5
         have L3 := keep (up L2.out hb3)
         replace R3 := keep R3
         clear hb3 R2 L2 K2)
      | (go_at_call 12; refine (K3.out _).mono ?_; rintro e w4 ⟨rfl, hb4⟩
         have R4 := R3.out.step hb4
         obtain ⟨⟨d0, d1, d2, d3, d4, d5⟩, _⟩ := R4.all
         dsimp only at d0 d1 d2 d3 d4 d5
         have L4 := keep (up L3.out hb4)
         replace R4 := keep R4
         clear hb4 R3 L3 K3))
    all_goals go_ret
    all_goals exact ⟨rfl, L4.out⟩
  · have hn := hn2 hz
    obtain ⟨e1, e2⟩ := wrap_in (cw - f) (by omega)
    have o1 : 0 ≤ n := by omega
    by_cases h0 : n = 0
    · subst h0
      clear hn hn1 hn2
      go_enter Try.func4, Try.ntmps4
      go_wp2_with (first
        | (go_at_call 7; refine (K0.out _).mono ?_; rintro e w1 ⟨rfl, hb1⟩
           have R1 := R0.out.step hb1
           obtain ⟨⟨d0, d1, d2, d3, d4, d5⟩, _⟩ := R1.all
           dsimp only at d0 d1 d2 d3 d4 d5
           have L1 := keep (up L0.out hb1)
           replace R1 := keep R1
           clear hb1 R0 L0 K0)
        | (go_at_call 14; refine (K1.out _).mono ?_; rintro e w2 ⟨rfl, hb2⟩
           have R2 := R1.out.step hb2
           obtain ⟨⟨d0, d1, d2, d3, d4, d5⟩, _⟩ := R2.all
           dsimp only at d0 d1 d2 d3 d4 d5
           have L2 := keep (up L1.out hb2)
           replace R2 := keep R2
           clear hb2 R1 L1 K1)
        | (go_at_call 13; refine (K2.out _).mono ?_; rintro e w3 ⟨rfl, hb3⟩
           have R3 := R2.out.step hb3
           obtain ⟨⟨d0, d1, d2, d3, d4, d5⟩, _⟩ := R3.all
           dsimp only at d0 d1 d2 d3 d4 d5
           have L3 := keep (up L2.out hb3)
           replace R3 := keep R3
           clear hb3 R2 L2 K2)
        | (go_at_call 12; refine (K3.out _).mono ?_; rintro e w4 ⟨rfl, hb4⟩
           have R4 := R3.out.step hb4
           obtain ⟨⟨d0, d1, d2, d3, d4, d5⟩, _⟩ := R4.all
           dsimp only at d0 d1 d2 d3 d4 d5
           have L4 := keep (up L3.out hb4)
           replace R4 := keep R4
           clear hb4 R3 L3 K3))
      all_goals go_ret
      all_goals exact ⟨rfl, L4.out⟩
    · have o2 : n ≤ cw - f := by omega
      have o3 : n ≤ p := by omega
      clear hn hn1 hn2
      go_enter Try.func4, Try.ntmps4
      go_wp2_with (first
        | (go_at_call 7; refine (K0.out _).mono ?_; rintro e w1 ⟨rfl, hb1⟩
           have R1 := R0.out.step hb1
           obtain ⟨⟨d0, d1, d2, d3, d4, d5⟩, _⟩ := R1.all
           dsimp only at d0 d1 d2 d3 d4 d5
           have L1 := keep (up L0.out hb1)
           replace R1 := keep R1
           clear hb1 R0 L0 K0)
        | (go_at_call 14; refine (K1.out _).mono ?_; rintro e w2 ⟨rfl, hb2⟩
           have R2 := R1.out.step hb2
           obtain ⟨⟨d0, d1, d2, d3, d4, d5⟩, _⟩ := R2.all
           dsimp only at d0 d1 d2 d3 d4 d5
           have L2 := keep (up L1.out hb2)
           replace R2 := keep R2
           clear hb2 R1 L1 K1)
        | (go_at_call 13; refine (K2.out _).mono ?_; rintro e w3 ⟨rfl, hb3⟩
           have R3 := R2.out.step hb3
           obtain ⟨⟨d0, d1, d2, d3, d4, d5⟩, _⟩ := R3.all
           dsimp only at d0 d1 d2 d3 d4 d5
           have L3 := keep (up L2.out hb3)
           replace R3 := keep R3
           clear hb3 R2 L2 K2)
        | (go_at_call 12; refine (K3.out _).mono ?_; rintro e w4 ⟨rfl, hb4⟩
           have R4 := R3.out.step hb4
           obtain ⟨⟨d0, d1, d2, d3, d4, d5⟩, _⟩ := R4.all
           dsimp only at d0 d1 d2 d3 d4 d5
           have L4 := keep (up L3.out hb4)
           replace R4 := keep R4
           clear hb4 R3 L3 K3))
      all_goals go_ret
      all_goals exact ⟨rfl, L4.out⟩
end Go.Proofs.Ytjogpkkokblmoaa
