/- The walk of the law SerialSteps. -/
import Derived.Test.YtoiocmbpdcnldaaSWIs
namespace Go.Proofs.Ytoiocmbpdcnldaa
open Go.RowKit
set_option linter.unusedVariables false

theorem and_mask (n : Nat) (hn : n < 4294967296) (k : Nat) (hk : k ≤ 32) : bits .and .u32 (n : Int) ((2 ^ k - 1 : Nat) : Int) = ((n % 2 ^ k : Nat) : Int) := by
  have hp : 2 ^ k ≤ 2 ^ 32 := Nat.pow_le_pow_right (by omega) hk
  have hq : 0 < 2 ^ k := Nat.two_pow_pos k
  have h1 : (BitVec.ofInt 32 (n : Int)).toNat = n := by
    rw [BitVec.ofInt_natCast, BitVec.toNat_ofNat]; exact Nat.mod_eq_of_lt (by omega)
  have h2 : (BitVec.ofInt 32 ((2 ^ k - 1 : Nat) : Int)).toNat = 2 ^ k - 1 := by
    rw [BitVec.ofInt_natCast, BitVec.toNat_ofNat]; exact Nat.mod_eq_of_lt (by omega)
  show IntKind.u32.wrap ((BitVec.ofInt 32 (n : Int) &&& BitVec.ofInt 32 ((2 ^ k - 1 : Nat) : Int)).toNat : Int) = _
  rw [BitVec.toNat_and, h1, h2, wrap_u32, Nat.and_two_pow_sub_one_eq_mod]
  have := Nat.mod_lt n hq
  omega
theorem and31 (n : Int) (h0 : 0 ≤ n) (h1 : n < 4294967296) : bits .and .u32 n 2147483647 = n % 2147483648 := by
  have h := and_mask n.toNat (by omega) 31 (by omega)
  rw [Int.toNat_of_nonneg h0] at h
  have e : ((n.toNat % 2 ^ 31 : Nat) : Int) = n % 2147483648 := by omega
  exact h.trans e
theorem and30 (n : Int) (h0 : 0 ≤ n) (h1 : n < 4294967296) : bits .and .u32 n 1073741823 = n % 1073741824 := by
  have h := and_mask n.toNat (by omega) 30 (by omega)
  rw [Int.toNat_of_nonneg h0] at h
  have e : ((n.toNat % 2 ^ 30 : Nat) : Int) = n % 1073741824 := by omega
  exact h.trans e

theorem dist_on (a m : Int) (h0 : 0 ≤ m) (h1 : m < 4294967296) : dist32 a ((a + m) % 4294967296) = m := by
  unfold dist32 dist
  omega
theorem dist_back (a m : Int) : dist32 ((a + m) % 4294967296) a = (0 - m) % 4294967296 := by
  unfold dist32 dist
  omega

theorem serialSteps_walk (a n k : Int) (w : World) (ha : (Lit.int .u32 a).wf = true) (hn : (Lit.int .u32 n).wf = true) (hk : (Lit.int .u32 k).wf = true) :
    Calls Try.prog 6 #[.int .u32 a, .int .u32 n, .int .u32 k] w fun e w' => e = .returned (.bool true) ∧ Below w.heap.size w w' := by
  obtain ⟨a0, a1⟩ := bounds_u32 ha
  obtain ⟨n0, n1⟩ := bounds_u32 hn
  obtain ⟨k0, k1⟩ := bounds_u32 hk
  clear ha hn hk
  obtain ⟨m, hm, m0, m1⟩ : ∃ m, bits BinOp.and IntKind.u32 n 2147483647 = m ∧ 0 ≤ m ∧ m < 2147483648 := ⟨_, and31 n n0 (by omega), by omega, by omega⟩
  have d1 : dist32 a ((a + m) % 4294967296) = m := dist_on _ _ m0 (by omega)
  have d2 : less32 a ((a + m) % 4294967296) = decide (0 < m) := by
    rw [show less32 a ((a + m) % 4294967296) = decide (0 < dist32 a ((a + m) % 4294967296) ∧ dist32 a ((a + m) % 4294967296) < 2147483648) from rfl, d1]
    exact decide_eq_decide.2 (by omega)
  have d3 : most32 a ((a + m) % 4294967296) = (a + m) % 4294967296 := by
    unfold most32
    rw [d2]
    by_cases h : 0 < m
    · rw [decide_eq_true h]; rfl
    · rw [decide_eq_false h]
      simp only [Bool.false_eq_true, if_false]
      omega
  have d4 : betw32 a ((a + k % (m + 1)) % 4294967296) ((a + m) % 4294967296) = true := by
    unfold betw32
    have hr0 := Int.emod_nonneg k (show m + 1 ≠ 0 by omega)
    have hr1 := Int.emod_lt_of_pos k (show 0 < m + 1 by omega)
    rw [dist_on a (k % (m + 1)) hr0 (by omega), d1]
    exact decide_eq_true (by omega)
  have d5 : betw32 a ((a + m + 1) % 4294967296) ((a + m) % 4294967296) = false := by
    unfold betw32
    rw [Int.add_assoc, dist_on a (m + 1) (by omega) (by omega), d1]
    exact decide_eq_false (by omega)
  have d6 : (dist32 ((a + m) % 4294967296) a + m) % 4294967296 = 0 := by
    rw [dist_back]
    omega
  have hmz : (m == 0) = true ∨ (m == 0) = false := by cases (m == 0) <;> simp
  clear a0 a1 n0 n1
  rcases hmz with hmz | hmz
  all_goals
    go_enter Try.func6, Try.ntmps6
    go_wp2_with (first
      | (go_at_call 8; refine (awake_any _).mono ?_; rintro e w' ⟨rfl, rfl⟩)
      | (go_at_call 9; refine (Less_any _ _ _).mono ?_; rintro e w' ⟨rfl, rfl⟩)
      | (go_at_call 15; refine (Max_any _ _ _).mono ?_; rintro e w' ⟨rfl, rfl⟩)
      | (go_at_call 17; refine (Between_any _ _ _ _).mono ?_; rintro e w' ⟨rfl, rfl⟩)
      | (go_at_call 13; refine (Dist_any _ _ _).mono ?_; rintro e w' ⟨rfl, rfl⟩))
    go_ret
    exact ⟨rfl, Below.refl _ _⟩
end Go.Proofs.Ytoiocmbpdcnldaa
