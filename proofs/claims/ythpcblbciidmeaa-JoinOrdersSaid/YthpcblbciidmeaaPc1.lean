/- Package split: has; a copy of octets. -/
import Derived.Test.YthpcblbciidmeaaSp6
import Derived.Test.YthpcblbciidmeaaBits
namespace Go.Proofs.Ythpcblbciidmeaa
open Go.RowKit
set_option linter.unusedVariables false

theorem and_flags : ∀ n : Fin 256, bits .and .u8 (n.1 : Int) 1 = (if (n.1 : Int) % 2 = 1 then 1 else 0) ∧ bits .and .u8 (n.1 : Int) 2 = (if (n.1 : Int) / 2 % 2 = 1 then 2 else 0) ∧ bits .and .u8 (n.1 : Int) 4 = (if (n.1 : Int) / 4 % 2 = 1 then 4 else 0) := by decide +kernel
theorem and_flag {x : Int} (h : 0 ≤ x ∧ x < 256) : bits .and .u8 x 1 = (if x % 2 = 1 then 1 else 0) ∧ bits .and .u8 x 2 = (if x / 2 % 2 = 1 then 2 else 0) ∧ bits .and .u8 x 4 = (if x / 4 % 2 = 1 then 4 else 0) := by
  have := and_flags ⟨x.toNat, by omega⟩
  have e : ((x.toNat : Nat) : Int) = x := by omega
  simp only [e] at this
  exact this
section
variable {c0 c2 c3 c4 c5 c6 c7 c8 c9 c10 c11 : Value} {x : Int}
/-- Has it an End, a Begin, is it Free? -/
theorem has1_at (h : 0 ≤ x ∧ x < 256) (w : World) : Calls Try.prog 40 #[.agg #[c0, .int .u8 x, c2, c3, c4, c5, c6, c7, c8, c9, c10, c11], .int .u8 1] w fun e w' => e = .returned (.bool (decide (x % 2 = 1))) ∧ Below w.heap.size w w' := by
  obtain ⟨h1, h2, h3⟩ := and_flag h
  have HL := keep (below_lay w (.cells #[c0, .int .u8 x, c2, c3, c4, c5, c6, c7, c8, c9, c10, c11] 34))
  clear h2 h3
  by_cases hq : x % 2 = 1
  · rw [if_pos hq] at h1
    rw [decide_eq_true hq]
    clear hq h
    go_enter Try.func40, Try.ntmps40
    go_wp2_with fail
    go_ret
    exact ⟨rfl, HL.out⟩
  · rw [if_neg hq] at h1
    rw [decide_eq_false hq]
    clear hq h
    go_enter Try.func40, Try.ntmps40
    go_wp2_with fail
    go_ret
    exact ⟨rfl, HL.out⟩
theorem has2_at (h : 0 ≤ x ∧ x < 256) (w : World) : Calls Try.prog 40 #[.agg #[c0, .int .u8 x, c2, c3, c4, c5, c6, c7, c8, c9, c10, c11], .int .u8 2] w fun e w' => e = .returned (.bool (decide (x / 2 % 2 = 1))) ∧ Below w.heap.size w w' := by
  obtain ⟨h1, h2, h3⟩ := and_flag h
  have HL := keep (below_lay w (.cells #[c0, .int .u8 x, c2, c3, c4, c5, c6, c7, c8, c9, c10, c11] 34))
  clear h1 h3
  by_cases hq : x / 2 % 2 = 1
  · rw [if_pos hq] at h2
    rw [decide_eq_true hq]
    clear hq h
    go_enter Try.func40, Try.ntmps40
    go_wp2_with fail
    go_ret
    exact ⟨rfl, HL.out⟩
  · rw [if_neg hq] at h2
    rw [decide_eq_false hq]
    clear hq h
    go_enter Try.func40, Try.ntmps40
    go_wp2_with fail
    go_ret
    exact ⟨rfl, HL.out⟩
theorem has4_at (h : 0 ≤ x ∧ x < 256) (w : World) : Calls Try.prog 40 #[.agg #[c0, .int .u8 x, c2, c3, c4, c5, c6, c7, c8, c9, c10, c11], .int .u8 4] w fun e w' => e = .returned (.bool (decide (x / 4 % 2 = 1))) ∧ Below w.heap.size w w' := by
  obtain ⟨h1, h2, h3⟩ := and_flag h
  have HL := keep (below_lay w (.cells #[c0, .int .u8 x, c2, c3, c4, c5, c6, c7, c8, c9, c10, c11] 34))
  clear h1 h2
  by_cases hq : x / 4 % 2 = 1
  · rw [if_pos hq] at h3
    rw [decide_eq_true hq]
    clear hq h
    go_enter Try.func40, Try.ntmps40
    go_wp2_with fail
    go_ret
    exact ⟨rfl, HL.out⟩
  · rw [if_neg hq] at h3
    rw [decide_eq_false hq]
    clear hq h
    go_enter Try.func40, Try.ntmps40
    go_wp2_with fail
    go_ret
    exact ⟨rfl, HL.out⟩
end
end Go.Proofs.Ythpcblbciidmeaa
