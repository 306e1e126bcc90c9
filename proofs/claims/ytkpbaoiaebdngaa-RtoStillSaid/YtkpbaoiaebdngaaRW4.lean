/- The walk of the law RtoStill. -/
import Derived.Test.YtkpbaoiaebdngaaRMath
namespace Go.Proofs.Ytkpbaoiaebdngaa
open Go.RowKit
set_option linter.unusedVariables false

def Still (w : World) (g : Nat) (k v wa : Int) (W : World) : Prop := RB W g ⟨k, v, wa, true⟩ ∧ (0 ≤ v ∧ v ≤ 1073741824 ∧ wa = clampI (k + morI v)) ∧ Below w.heap.size w W
set_option maxHeartbeats 1000000 in
theorem rtoStill_walk (r n : Int) (w : World) (_ : (Lit.int .i64 r).wf = true) (_ : (Lit.int .i64 n).wf = true) :
    Calls Try.prog 6 #[.int .i64 r, .int .i64 n] w fun e w' => e = .returned (.bool true) ∧ Below w.heap.size w w' := by
  obtain ⟨k, hk, k0, k1⟩ := and30 r
  obtain ⟨m, hm, _⟩ := and8 n
  have K0 := keep (fun w => awake_any w)
  have K1 := keep (fun w => Start_at w)
  obtain ⟨v0, hv0⟩ : ∃ v, k / 2 = v := ⟨_, rfl⟩
  obtain ⟨u0, hu0⟩ : ∃ u, clampI (k + morI v0) = u := ⟨_, rfl⟩
  have hs := samp_start k0 k1
  rw [hv0, hu0] at hs
  have K2 := keep (fun w => Sample_at hs w)
  have Z0 := keep (show 0 ≤ v0 ∧ v0 ≤ 1073741824 ∧ u0 = clampI (k + morI v0) from ⟨by omega, by omega, hu0.symm⟩)
  have HK := keep (And.intro k0 k1)
  clear k0 k1 hs hv0 hu0
  go_enter Try.func6, Try.ntmps6
  go_wp2_with (first
    | (go_at_call 8; refine (K0.out _).mono ?_; rintro e w1 ⟨rfl, hb1⟩; replace hb1 := keep hb1)
    | (go_at_call 13; refine (K1.out _).mono ?_; rintro e w2 ⟨rfl, hb2⟩; replace hb2 := keep (up hb1.out hb2))
    | (go_at_call 9; refine (K2.out _).mono ?_; rintro e w3 ⟨rfl, hb3⟩
       have hB := up hb2.out hb3
       have R3 := RB.new w3 ⟨k, v0, u0, true⟩
       obtain ⟨⟨a0, a1, a2, a3⟩, _⟩ := R3.all
       dsimp only at a0 a1 a2 a3
       have N0 := keep (show Still w w3.heap.size k v0 u0 (w3.alloc (.cells #[.int .i64 k, .int .i64 v0, .int .i64 u0, .bool true] 23)) from ⟨R3, Z0.out, hB.alloc hB.size _⟩)
       have HG := keep (hB.size)
       clear hb3 hB hb1 hb2 R3))
  go_loopw [8, 9] (fun vl vi wr => ∃ (j : Nat) (v wa : Int), vi = .int .i64 j ∧ vl = .int .i64 wa ∧ j ≤ m ∧ Hid (Still w w3.heap.size k v wa wr)) (fun _ vi _ => m - (intOf vi).toNat)
  case atStart => exact ⟨0, _, _, rfl, rfl, Nat.zero_le _, N0⟩
  case round =>
    obtain ⟨j, v, wa, rfl, rfl, hj, HS⟩ := hrel
    clear a0 a1 a2 a3 N0 K2 Z0
    obtain ⟨⟨a0, a1, a2, a3⟩, _⟩ := HS.out.1.all
    dsimp only at a0 a1 a2 a3
    by_cases hlt : j < m
    · have hlt' : (j : Int) < (m : Int) := by omega
      obtain ⟨b0, b1, b2⟩ := HS.out.2.1
      have hc := clampI_in (k + morI v)
      rw [← b2] at hc
      have hs := samp_same HK.out.1 HK.out.2 b0 b1 hc.1 hc.2
      have hl := @wait_less k v b0
      rw [← b2] at hl
      obtain ⟨v', hv'⟩ : ∃ v', 3 * v / 4 = v' := ⟨_, rfl⟩
      rw [hv'] at hs hl
      obtain ⟨u, hu⟩ : ∃ u, clampI (k + morI v') = u := ⟨_, rfl⟩
      rw [hu] at hs hl
      have Z1 := keep (show 0 ≤ v' ∧ v' ≤ 1073741824 ∧ u = clampI (k + morI v') from ⟨by omega, by omega, hu.symm⟩)
      have K3 := keep (fun w => Sample_at hs w)
      have hl' : ¬ wa < u := by omega
      clear hs hu hv' b0 b1 b2 hc hl
      go_wp2_with (first
        | (go_at_call 9; refine (K3.out _).mono ?_; rintro e w4 ⟨rfl, hb4⟩
           have R4 := HS.out.1.step hb4
           obtain ⟨⟨d0, d1, d2, d3⟩, f0, f1, f2, f3⟩ := R4.all
           dsimp only at d0 d1 d2 d3
           have R5 := keep (laid4 R4 k v' u true)
           have B5 := keep (below4 (up HS.out.2.2 hb4) HG.out (.int .i64 k) (.int .i64 v') (.int .i64 u) (.bool true))
           clear hb4 R4 a0 a1 a2 a3))
      go_roundw
      case rel => exact ⟨j + 1, v', u, by go_num, rfl, by omega, keep ⟨R5.out, Z1.out, B5.out⟩⟩
      case measure => simp [intOf]; omega
    · obtain rfl : j = m := by omega
      have B := keep HS.out.2.2
      obtain ⟨b0, b1, b2⟩ := HS.out.2.1
      have hw := @wait_least k v
      rw [← b2] at hw
      have e1 : (if k < 1000 then (1000 : Int) else k) = max k 1000 := by omega
      obtain ⟨q, hq⟩ : ∃ q, max k 1000 = q := ⟨_, rfl⟩
      rw [hq] at e1 hw
      have e2 : (if 60000 < q then (60000 : Int) else q) = min q 60000 := by omega
      have e3 : (if q < 60000 then q else (60000 : Int)) = min q 60000 := by omega
      obtain ⟨p, hp⟩ : ∃ p, min q 60000 = p := ⟨_, rfl⟩
      rw [hp] at e2 e3 hw
      clear b0 b1 b2 hq hp
      go_wp2_with fail
      all_goals go_ret
      all_goals exact ⟨rfl, B.out⟩
end Go.Proofs.Ytkpbaoiaebdngaa
