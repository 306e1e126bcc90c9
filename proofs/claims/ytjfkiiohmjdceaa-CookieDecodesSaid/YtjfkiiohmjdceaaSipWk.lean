/- The laws' examples. -/
import Derived.Test.YtjfkiiohmjdceaaSip5
import Derived.Test.YtjfkiiohmjdceaaOct1
import Derived.Deep.AppendLies
namespace Go.Proofs.Ytjfkiiohmjdceaa
open Go.RowKit
set_option linter.unusedVariables false

/-- Octets that count from 0 on. -/
def cnt (n : Nat) : List UInt8 := (List.range n).map fun i => UInt8.ofNat i
theorem cnt_snoc (j : Nat) : cnt (j + 1) = cnt j ++ [UInt8.ofNat j] := by
  unfold cnt
  rw [List.range_succ, List.map_append]
  rfl
theorem cnt_length (j : Nat) : (cnt j).length = j := by unfold cnt; rw [List.length_map, List.length_range]
theorem Round_zero (w : World) : Calls Try.prog 48 #[.agg #[.int .u64 0, .int .u64 0, .int .u64 0, .int .u64 0]] w fun e w' => e = .returned (.agg #[.int .u64 0, .int .u64 0, .int .u64 0, .int .u64 0]) ∧ Below w.heap.size w w' := by
  have h : Hid (rnd .zero = .zero) := by show _ = _; kernel_rfl
  exact Round_any .zero .zero h w
theorem eq_zero (w : World) : (binOp .eql 72 (.agg #[.int .u64 0, .int .u64 0, .int .u64 0, .int .u64 0]) (.agg #[.int .u64 0, .int .u64 0, .int .u64 0, .int .u64 0])).run Try.prog w = .ok (.bool true) w := by kernel_rfl
theorem code_example : ((code (cnt 16) (cnt 15)).toNat : Int) = 11613035633349379557 := by decide +kernel
end Go.Proofs.Ytjfkiiohmjdceaa
