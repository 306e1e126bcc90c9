/- Contracts of octet's readers: Bytes and Pad; and all of a reader that is nil. -/
import Derived.Test.YtapaiknghnbfmaaDoorRd4
namespace Go.Proofs.YtapaiknghnbfmaaDoor
open Go.RowKit
set_option linter.unusedVariables false

theorem rd_then {w w1 w2 : World} {g : Nat} {bs : List UInt8} (h : RdPost w g bs w1) (hb : Below w1.heap.size w1 w2) : RdPost w g bs w2 := by
  obtain ⟨A, n, c, hr, hg, hs⟩ := h
  exact ⟨A, n, c, hr.step hb, grown_then hg hb, hs⟩

theorem get8_nil (w : World) : Calls Tryd.prog 66 #[.pointer none] w fun e w' => e = .returned (.tuple #[.int .u8 0, .int .i64 1]) ∧ w = w' := by
  have K := keep (number_nil 1 w)
  go_enter Tryd.func66, Tryd.ntmps66
  go_wp2_with (go_at_call 75; refine K.out.mono ?_; rintro e w' ⟨rfl, rfl⟩)
  go_ret2
  exact ⟨rfl, rfl⟩
theorem get16_nil (w : World) : Calls Tryd.prog 67 #[.pointer none] w fun e w' => e = .returned (.tuple #[.int .u16 0, .int .i64 1]) ∧ w = w' := by
  have K := keep (number_nil 2 w)
  go_enter Tryd.func67, Tryd.ntmps67
  go_wp2_with (go_at_call 75; refine K.out.mono ?_; rintro e w' ⟨rfl, rfl⟩)
  go_ret2
  exact ⟨rfl, rfl⟩
theorem get32_nil (w : World) : Calls Tryd.prog 68 #[.pointer none] w fun e w' => e = .returned (.tuple #[.int .u32 0, .int .i64 1]) ∧ w = w' := by
  have K := keep (number_nil 4 w)
  go_enter Tryd.func68, Tryd.ntmps68
  go_wp2_with (go_at_call 75; refine K.out.mono ?_; rintro e w' ⟨rfl, rfl⟩)
  go_ret2
  exact ⟨rfl, rfl⟩

/-- What Pad answers where enough octets are left: the m next ones are zeros, and read; or they are not. -/
def RPadPost (m : Nat) (w : World) (g : Nat) (bs : List UInt8) (e : Ending) (w' : World) : Prop :=
  (bs.take m = List.replicate m 0 ∧ e = .returned (.int .i64 0) ∧ RdPost w g (bs.drop m) w') ∨
  (¬ bs.take m = List.replicate m 0 ∧ e = .returned (.int .i64 3) ∧ w = w')
theorem take_zeros (bs : List UInt8) (j : Nat) (h : j < bs.length) (hz : bs.take j = List.replicate j 0) (h0 : bs[j] = 0) : bs.take (j + 1) = List.replicate (j + 1) 0 := by
  rw [List.take_succ_eq_append_getElem h, hz, h0, List.replicate_succ']
theorem take_not (bs : List UInt8) (j m : Nat) (hj : j < m) (hm : j < bs.length) (h0 : bs[j] ≠ 0) : ¬ bs.take m = List.replicate m 0 := by
  intro h
  have h1 : (bs.take m)[j]? = some bs[j] := by rw [List.getElem?_take, if_pos hj, List.getElem?_eq_getElem hm]
  rw [h, List.getElem?_replicate, if_pos hj] at h1
  injection h1 with h1
  exact h0 h1.symm
end Go.Proofs.YtapaiknghnbfmaaDoor
