/- The library's sort at numbers of 16 bits: how many bits a number below 256 has; a power of two. -/
import Derived.Test.YtofebpikihandaaSq1
namespace Go.Proofs.Ytofebpikihandaa
open Go.RowKit Go.Sort
set_option linter.unusedVariables false

theorem len_c (D : ByteArray) (hD : ∀ j, j < 256 → (D.data.getD j 0).toNat = bitsLen j) (i : Nat) (hi : i < D.size) (h : i < 256) (w : World) :
    Ending.returned (.int .i64 (wrap64 (wrap64 ((D[i]'hi).toNat : Int)))) = Ending.returned (.int .i64 ((bitsLen i : Nat) : Int)) ∧ w = w := by
  have e : (D[i]'hi).toNat = bitsLen i := by
    rw [← hD i h]
    show (D.data[i]'hi).toNat = _
    rw [Array.getD_eq_getD_getElem?, Array.getElem?_eq_getElem hi]
    rfl
  have : bitsLen i ≤ 8 := (bitsLen_le_iff i 8).2 (by omega)
  rw [e]
  exact ⟨by congr 2; unfold wrap64; omega, rfl⟩
set_option maxHeartbeats 2000000 in
set_option maxRecDepth 1000000 in
theorem Len64_at (x : Int) (w : World) (h0 : 0 ≤ x) (h1 : x < 65536) (h2 : ¬ 256 ≤ x) : Calls Try.prog 47 #[.int .u64 x] w fun e w' => e = .returned (.int .i64 ((bitsLen x.toNat : Nat) : Int)) ∧ w' = w := by
  go_enter Try.func47, Try.ntmps47
  go_wp2
  go_ret
  refine len_c _ ?_ _ _ (by omega) _
  exact of_decide_eq_true (by kernel_rfl)
theorem Len_at (x : Int) (w : World) (h0 : 0 ≤ x) (h1 : x < 65536) (h2 : ¬ 256 ≤ x) : Calls Try.prog 36 #[.int .u64 x] w fun e w' => e = .returned (.int .i64 ((bitsLen x.toNat : Nat) : Int)) ∧ w' = w := by
  go_enter Try.func36, Try.ntmps36
  go_wp2_with (go_at_call 47; refine (Len64_at _ _ h0 h1 h2).mono ?_; rintro e w' ⟨rfl, rfl⟩)
  go_ret
  exact ⟨rfl, rfl⟩
theorem pow_in : ∀ k : Nat, k < 9 → IntKind.u64.wrap (2 ^ min k 64) = ((2 ^ k : Nat) : Int) := by decide
set_option maxHeartbeats 1000000 in
/-- A power of two that is no less than the number, and at most twice as great. -/
theorem pow_any (n : Nat) (h1 : 1 ≤ n) (h2 : n < 256) (w : World) :
    Calls Try.prog 49 #[.int .i64 (n : Int)] w fun e w' => ∃ k : Nat, e = .returned (.int .u64 ((2 ^ k : Nat) : Int)) ∧ k ≤ 8 ∧ 2 ^ k ≤ 2 * n ∧ w' = w := by
  have K := keep (Len_at (n : Int) w (by omega) (by omega) (by omega))
  have hk : bitsLen n ≤ 8 := (bitsLen_le_iff n 8).2 (by omega)
  have hp := two_pow_bitsLen_le (n := n) (by omega)
  rw [Int.toNat_natCast] at K
  generalize bitsLen n = k at K hk hp
  have n0 : (0 : Int) ≤ (n : Int) := by omega
  have n1 : (n : Int) < 256 := by omega
  have HK := keep hk
  have HP := keep hp
  clear h1 h2 hp hk
  go_enter Try.func49, Try.ntmps49
  go_wp2_with (go_at_call 36; refine K.out.mono ?_; rintro e w' ⟨rfl, rfl⟩)
  go_ret
  have e := pow_in k (by have := HK.out; omega)
  exact ⟨k, congrArg (fun z => Ending.returned (.int .u64 z)) e, HK.out, HP.out, rfl⟩
end Go.Proofs.Ytofebpikihandaa
