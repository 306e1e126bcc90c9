/- '& (2^k - 1)' on an int. Over every program. -/
import Derived.Test.YtacmfoljbjdcjaaMem
import Derived.WalkSmall
namespace Go.Proofs.Ytacmfoljbjdcjaa
open Go.RowKit
set_option linter.unusedVariables false

theorem and_i64 (i : Int) (k : Nat) (hk : k ≤ 32) : bits .and .i64 i ((2 ^ k - 1 : Nat) : Int) = i % ((2 ^ k : Nat) : Int) := by
  have hp : 2 ^ k ≤ 2 ^ 32 := Nat.pow_le_pow_right (by omega) hk
  have hq : 0 < 2 ^ k := Nat.two_pow_pos k
  have h2 : (BitVec.ofInt 64 ((2 ^ k - 1 : Nat) : Int)).toNat = 2 ^ k - 1 := by
    rw [BitVec.ofInt_natCast, BitVec.toNat_ofNat]; exact Nat.mod_eq_of_lt (by omega)
  show IntKind.i64.wrap ((BitVec.ofInt 64 i &&& BitVec.ofInt 64 ((2 ^ k - 1 : Nat) : Int)).toNat : Int) = _
  rw [BitVec.toNat_and, h2, Nat.and_two_pow_sub_one_eq_mod, BitVec.toNat_ofInt]
  have hd : ((2 ^ k : Nat) : Int) ∣ ((2 ^ 64 : Nat) : Int) := by
    refine Int.natCast_dvd_natCast.2 (Nat.pow_dvd_pow 2 (by omega))
  have h3 : (((i % ((2 ^ 64 : Nat) : Int)).toNat % 2 ^ k : Nat) : Int) = i % ((2 ^ k : Nat) : Int) := by
    rw [Int.natCast_emod, Int.toNat_of_nonneg (Int.emod_nonneg _ (by decide))]
    exact Int.emod_emod_of_dvd i hd
  rw [h3]
  have h4 := Int.emod_nonneg i (show ((2 ^ k : Nat) : Int) ≠ 0 by omega)
  have h5 := Int.emod_lt_of_pos i (show (0 : Int) < ((2 ^ k : Nat) : Int) by omega)
  have : ((2 ^ k : Nat) : Int) ≤ 4294967296 := by omega
  generalize i % ((2 ^ k : Nat) : Int) = r at *
  simp [IntKind.wrap, IntKind.signed, IntKind.bits]
  omega
theorem and255 (i : Int) : ∃ k : Nat, bits .and .i64 i 255 = (k : Int) ∧ k < 256 := by
  have h := and_i64 i 8 (by decide)
  refine ⟨(i % 256).toNat, h.trans ?_, by omega⟩
  show i % 256 = _
  omega
theorem and65535 (i : Int) : ∃ k : Nat, bits .and .i64 i 65535 = (k : Int) ∧ k < 65536 := by
  have h := and_i64 i 16 (by decide)
  refine ⟨(i % 65536).toNat, h.trans ?_, by omega⟩
  show i % 65536 = _
  omega
end Go.Proofs.Ytacmfoljbjdcjaa
