/- '& (2^k - 1)' on a number of 32 bits. Over every program. -/
import Derived.Test.YtidolhhipdhknaaMem
import Derived.WalkSmall
import Derived.Test.YtidolhhipdhknaaSer1
namespace Go.Proofs.Ytidolhhipdhknaa
open Go.RowKit
set_option linter.unusedVariables false

theorem and_mask (n : Nat) (hn : n < 4294967296) (k : Nat) (hk : k ≤ 32) : bits .and .u32 (n : Int) ((2 ^ k - 1 : Nat) : Int) = ((n % 2 ^ k : Nat) : Int) := by
  have hp : 2 ^ k ≤ 2 ^ 32 := Nat.pow_le_pow_right (by omega) hk
  have hq : 0 < 2 ^ k := Nat.two_pow_pos k
  have h1 : (BitVec.ofInt 32 (n : Int)).toNat = n := by
    rw [BitVec.ofInt_natCast, BitVec.toNat_ofNat]; exact Nat.mod_eq_of_lt (by omega)
  have h2 : (BitVec.ofInt 32 ((2 ^ k - 1 : Nat) : Int)).toNat = 2 ^ k - 1 := by
    rw [BitVec.ofInt_natCast, BitVec.toNat_ofNat]; exact Nat.mod_eq_of_lt (by omega)
  show IntKind.u32.wrap ((BitVec.ofInt 32 (n : Int) &&& BitVec.ofInt 32 ((2 ^ k - 1 : Nat) : Int)).toNat : Int) = _
  rw [BitVec.toNat_and, h1, h2, wrap_u32, Nat.and_two_pow_sub_one_eq_mod]
  have := Nat.mod_lt n hq
  omega
theorem and31 (n : Int) (h0 : 0 ≤ n) (h1 : n < 4294967296) : bits .and .u32 n 2147483647 = n % 2147483648 := by
  have h := and_mask n.toNat (by omega) 31 (by omega)
  rw [Int.toNat_of_nonneg h0] at h
  have e : ((n.toNat % 2 ^ 31 : Nat) : Int) = n % 2147483648 := by omega
  exact h.trans e
theorem and30 (n : Int) (h0 : 0 ≤ n) (h1 : n < 4294967296) : bits .and .u32 n 1073741823 = n % 1073741824 := by
  have h := and_mask n.toNat (by omega) 30 (by omega)
  rw [Int.toNat_of_nonneg h0] at h
  have e : ((n.toNat % 2 ^ 30 : Nat) : Int) = n % 1073741824 := by omega
  exact h.trans e
end Go.Proofs.Ytidolhhipdhknaa
