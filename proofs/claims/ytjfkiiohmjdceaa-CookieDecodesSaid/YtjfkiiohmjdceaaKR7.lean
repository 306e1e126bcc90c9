/- The document's Decode for layer 9: a sealed cookie. -/
import Derived.Test.YtjfkiiohmjdceaaKR6
namespace Go.Proofs.Ytjfkiiohmjdceaa
open Go.RowKit
set_option linter.unusedVariables false

theorem mul_small {p : Int} (h0 : 0 ≤ p) (h1 : ¬ 18014398509481984 < p) (x : UInt8) : IntKind.i64.wrap (p * 256) = p * 256 ∧ wrap64 (p * 256) = p * 256 ∧ IntKind.i64.wrap (p * 256 + (x.toNat : Int)) = p * 256 + (x.toNat : Int) ∧ wrap64 (p * 256 + (x.toNat : Int)) = p * 256 + (x.toNat : Int) := by
  have := x.toNat_lt
  refine ⟨by rw [IntKind.wrap_i64]; omega, by unfold wrap64; omega, by rw [IntKind.wrap_i64]; omega, by unfold wrap64; omega⟩
theorem at_in {j k : Nat} (hj : j < 11) (hk : k < wid j) : ((off j + k : Nat) : Int) < 60 ∧ (0 : Int) ≤ ((off j + k : Nat) : Int) ∧ off j + k < 48 := by
  obtain ⟨o1, o2, _, _⟩ := off_wid j hj
  omega
end Go.Proofs.Ytjfkiiohmjdceaa
