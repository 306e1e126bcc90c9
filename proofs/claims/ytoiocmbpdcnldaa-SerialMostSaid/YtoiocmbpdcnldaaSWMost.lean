/- The walk of the law SerialMost. -/
import Derived.Test.YtoiocmbpdcnldaaSWSteps
import Derived.Test.YtoiocmbpdcnldaaNums
namespace Go.Proofs.Ytoiocmbpdcnldaa
open Go.RowKit
set_option linter.unusedVariables false

theorem most_on (a f d : Int) (f0 : 0 ≤ f) (f1 : f < 1073741824) (d0 : 0 ≤ d) (d1 : d < 1073741824) :
    most32 ((a + f) % 4294967296) ((a + d) % 4294967296) = (a + max f d) % 4294967296 := by
  have e : dist32 ((a + f) % 4294967296) ((a + d) % 4294967296) = (d - f) % 4294967296 := by
    unfold dist32 dist
    omega
  unfold most32
  rw [show less32 ((a + f) % 4294967296) ((a + d) % 4294967296) = decide (0 < dist32 ((a + f) % 4294967296) ((a + d) % 4294967296) ∧ dist32 ((a + f) % 4294967296) ((a + d) % 4294967296) < 2147483648) from rfl, e]
  by_cases h : f < d
  · rw [decide_eq_true (by omega), Int.max_eq_right (by omega)]
    rfl
  · rw [decide_eq_false (by omega), Int.max_eq_left (by omega)]
    rfl

theorem serialMost_walk (a : Int) (A : Option Addr) (n c : Nat) (zs : List Int) (w : World) (ha : (Lit.int .u32 a).wf = true) (hz : NS .u32 w A n c zs) :
    Calls Try.prog 7 #[.int .u32 a, .slice A n c] w fun e w' => e = .returned (.bool true) ∧ Below w.heap.size w w' := by
  obtain ⟨a0, a1⟩ := bounds_u32 ha
  clear ha
  by_cases hn : n ≤ 500
  · have hn' : (n : Int) ≤ 500 := by omega
    have HZ := keep hz
    have hfst : Hid (a = (a + 0) % 4294967296) := by show a = _; omega
    clear hz
    have hD := dist_on a
    have HD := keep hD
    clear hD
    go_enter Try.func7, Try.ntmps7
    go_wp2_with (go_at_call 8; refine (awake_any _).mono ?_; rintro e w' ⟨rfl, rfl⟩)
    go_loop [6, 7, 8] (fun m far i => ∃ j : Nat, ∃ F : Int, j ≤ n ∧ 0 ≤ F ∧ F < 1073741824 ∧ i = .int .i64 j ∧ far = .int .u32 F ∧ m = .int .u32 ((a + F) % 4294967296)) (fun _ _ i => n - (intOf i).toNat)
    case atStart => exact ⟨0, 0, Nat.zero_le _, by omega, by omega, rfl, rfl, congrArg _ hfst.out⟩
    case round =>
      obtain ⟨j, F, hj, F0, F1, rfl, rfl, rfl⟩ := hrel
      by_cases hlt : j < n
      · obtain ⟨b, o, z, rfl, _, hcell, _, hwf⟩ := HZ.out.at_ (j := j) hlt
        obtain ⟨z0, z1⟩ := bounds_u32 hwf
        clear hwf
        obtain ⟨d, hd, d0, d1⟩ : ∃ d, bits BinOp.and IntKind.u32 z 1073741823 = d ∧ 0 ≤ d ∧ d < 1073741824 := ⟨_, and30 z z0 (by omega), by omega, by omega⟩
        have hm := most_on a F d F0 F1 d0 d1
        go_wp2_with (go_at_call 15; refine (Max_any _ _ _).mono ?_; rintro e w' ⟨rfl, rfl⟩)
        go_round
        case rel => exact ⟨j + 1, max F d, by omega, by omega, by omega, by go_num, by go_num, by go_num⟩
        case measure => simp [intOf]; omega
      · obtain rfl : n = j := by omega
        have hF := HD.out F F0 (by omega)
        go_wp2_with (go_at_call 13; refine (Dist_any _ _ _).mono ?_; rintro e w' ⟨rfl, rfl⟩)
        go_ret
        exact ⟨rfl, Below.refl _ _⟩
  · have hn' : 500 < (n : Int) := by omega
    clear hz hn
    go_enter Try.func7, Try.ntmps7
    go_wp2_with (go_at_call 8; refine (awake_any _).mono ?_; rintro e w' ⟨rfl, rfl⟩)
    go_ret
    exact ⟨rfl, Below.refl _ _⟩
end Go.Proofs.Ytoiocmbpdcnldaa
