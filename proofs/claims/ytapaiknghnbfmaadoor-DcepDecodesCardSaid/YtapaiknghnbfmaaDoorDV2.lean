/- The reference: one. -/
import Derived.Test.YtapaiknghnbfmaaDoorDV1
namespace Go.Proofs.YtapaiknghnbfmaaDoor
open Go.RowKit
set_option linter.unusedVariables false

def btwI (s : ByteArray) (k lo hi : Int) : Bool := btw s k.toNat lo.toNat hi.toNat
theorem betweenI (s : ByteArray) (hs : s.size ≤ 9223372036854775807) (k lo hi : Int) (h : 0 ≤ k ∧ 0 ≤ lo ∧ 0 ≤ hi) (w : World) : Calls Tryd.prog 77 #[.string s, .int .i64 k, .int .u8 lo, .int .u8 hi] w fun e w' => e = .returned (.bool (btwI s k lo hi)) ∧ w = w' := by
  have := between_any s k.toNat lo.toNat hi.toNat hs w
  rw [Int.toNat_of_nonneg h.1, Int.toNat_of_nonneg h.2.1, Int.toNat_of_nonneg h.2.2] at this
  exact this
def oneI (s : ByteArray) : Nat :=
  if btwI s 0 0 127 = true then 1
  else if (btwI s 0 194 223 && btwI s 1 128 191) = true then 2
  else if btwI s 2 128 191 = false then 0
  else if (btwI s 0 224 224 && btwI s 1 160 191) = true then 3
  else if (btwI s 0 237 237 && btwI s 1 128 159) = true then 3
  else if ((btwI s 0 225 236 || btwI s 0 238 239) && btwI s 1 128 191) = true then 3
  else if btwI s 3 128 191 = false then 0
  else if (btwI s 0 240 240 && btwI s 1 144 191) = true then 4
  else if (btwI s 0 241 243 && btwI s 1 128 191) = true then 4
  else if (btwI s 0 244 244 && btwI s 1 128 143) = true then 4
  else 0
theorem oneI_B (s : ByteArray) : oneI s = oneB s := rfl
end Go.Proofs.YtapaiknghnbfmaaDoor
