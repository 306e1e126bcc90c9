/- The walk of the law RtoBacks. -/
import Derived.Test.YtkpbaoiaebdngaaRMath
namespace Go.Proofs.Ytkpbaoiaebdngaa
open Go.RowKit
set_option linter.unusedVariables false

def Going (w : World) (sm va : Int) (kn : Bool) (j : Nat) (last v : Int) (W : World) : Prop := RB W w.heap.size ⟨sm, va, v, kn⟩ ∧ Step j last v ∧ Below w.heap.size w W
set_option maxHeartbeats 1000000 in
theorem rtoBacks_walk (s : RS) (w : World) (_ : True) :
    Calls Try.prog 5 #[.agg s.cells] w fun e w' => e = .returned (.bool true) ∧ Below w.heap.size w w' := by
  have K0 := keep (fun w => awake_any w)
  obtain ⟨sm, va, wa, kn⟩ := s
  have R0 := keep (RB.new w ⟨sm, va, wa, kn⟩)
  have L0 := keep (below_lay w (.cells #[.int .i64 sm, .int .i64 va, .int .i64 wa, .bool kn] 23))
  dsimp only [RS.cells] at R0 L0 ⊢
  by_cases hok : 0 ≤ wa ∧ wa ≤ 2147483648
  · have S0 := keep (show Step 0 0 wa from .inl ⟨rfl, rfl, hok.1, hok.2⟩)
    have o1 : ¬ wa < 0 := by omega
    have o2 : ¬ 2147483648 < wa := by omega
    clear hok
    go_enter Try.func5, Try.ntmps5
    go_wp2_with (first
      | (go_at_call 8; refine (K0.out _).mono ?_; rintro e w1 ⟨rfl, hb1⟩
         have R1 := R0.out.step hb1
         obtain ⟨⟨a0, a1, a2, a3⟩, _⟩ := R1.all
         dsimp only at a0 a1 a2 a3
         have G0 := keep (show Going w sm va kn 0 0 wa w1 from ⟨R1, S0.out, up L0.out hb1⟩)
         clear hb1 R0 L0 R1))
    go_loopw [4, 5] (fun vl vi wr => ∃ (j : Nat) (last v : Int), vi = .int .i64 j ∧ vl = .int .i64 last ∧ j ≤ 16 ∧ Hid (Going w sm va kn j last v wr)) (fun _ vi _ => 16 - (intOf vi).toNat)
    case atStart => exact ⟨0, 0, wa, rfl, rfl, by omega, G0⟩
    case round =>
      obtain ⟨j, last, v, rfl, rfl, hj, HG⟩ := hrel
      clear a0 a1 a2 a3 G0 S0
      obtain ⟨⟨a0, a1, a2, a3⟩, _⟩ := HG.out.1.all
      dsimp only at a0 a1 a2 a3
      by_cases hlt : j < 16
      · have hlt' : (j : Int) < 16 := by omega
        obtain ⟨h1, h2⟩ := HG.out.2.1.next
        obtain ⟨u, hu⟩ : ∃ u, bk v = u := ⟨_, rfl⟩
        rw [hu] at h1 h2
        have h1' : ¬ u < last := by omega
        have K3 := keep (fun w => @Back_at sm va v u kn hu w)
        replace h2 := keep h2
        clear hu h1
        go_wp2_with (first
          | (go_at_call 11; refine (K3.out _).mono ?_; rintro e w4 ⟨rfl, hb4⟩
             have R4 := HG.out.1.step hb4
             obtain ⟨⟨d0, d1, d2, d3⟩, f0, f1, f2, f3⟩ := R4.all
             dsimp only at d0 d1 d2 d3
             have R5 := keep (laid4 R4 sm va u kn)
             have B5 := keep (below4 (up HG.out.2.2 hb4) (Nat.le_refl _) (.int .i64 sm) (.int .i64 va) (.int .i64 u) (.bool kn))
             clear hb4 R4 a0 a1 a2 a3))
        go_roundw
        case rel => exact ⟨j + 1, u, u, by go_num, rfl, by omega, keep ⟨R5.out, h2.out, B5.out⟩⟩
        case measure => simp [intOf]; omega
      · obtain rfl : j = 16 := by omega
        obtain rfl := HG.out.2.1.last
        have B := keep HG.out.2.2
        go_wp2_with fail
        go_ret
        exact ⟨rfl, B.out⟩
  · have e1 : bk wa = wa := bk_out hok
    have K3 := keep (fun w => @Back_at sm va wa wa kn e1 w)
    have hw := fun w => run_wait sm va wa kn w
    clear e1
    have hcase : wa < 0 ∨ (¬ wa < 0 ∧ 2147483648 < wa) := by omega
    clear hok
    rcases hcase with o1 | ⟨o1, o2⟩
    all_goals
      go_enter Try.func5, Try.ntmps5
      go_wp2_with (first
        | (go_at_call 8; refine (K0.out _).mono ?_; rintro e w1 ⟨rfl, hb1⟩
           have R1 := keep (R0.out.step hb1)
           obtain ⟨⟨a0, a1, a2, a3⟩, _⟩ := R1.out.all
           dsimp only at a0 a1 a2 a3
           have L1 := keep (up L0.out hb1)
           clear hb1 R0 L0))
      go_region_with (first
        | (go_at_call 11; refine (K3.out _).mono ?_; rintro e w4 ⟨rfl, hb4⟩
           have R4 := R1.out.drew.step hb4
           obtain ⟨⟨d0, d1, d2, d3⟩, f0, f1, f2, f3⟩ := R4.all
           dsimp only at d0 d1 d2 d3
           have L4 := keep (up L1.out.drew hb4)
           clear hb4 R4))
      all_goals (try go_wp2_with fail)
      all_goals go_ret
      all_goals exact ⟨rfl, L4.out⟩
end Go.Proofs.Ytkpbaoiaebdngaa
