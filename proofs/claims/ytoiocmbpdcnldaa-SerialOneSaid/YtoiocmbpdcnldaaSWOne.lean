/- The walk of the law SerialOne. -/
import Derived.Test.YtoiocmbpdcnldaaSWIs
namespace Go.Proofs.Ytoiocmbpdcnldaa
open Go.RowKit
set_option linter.unusedVariables false

/-- What the law asks of one modulus, as one of four ways: the same, one half apart, less, greater. -/
def Four (l r : Bool) (ne : Bool) (half : Bool) : Prop :=
  (l = false ∧ r = false ∧ ne = false ∧ half = false) ∨ (l = false ∧ r = false ∧ ne = true ∧ half = true) ∨ (l = true ∧ r = false ∧ ne = true ∧ half = false) ∨ (l = false ∧ r = true ∧ ne = true ∧ half = false)
theorem four_of (m h a b : Int) (hm : m = 2 * h) (hh : 0 < h) (a0 : 0 ≤ a) (a1 : a < m) (b0 : 0 ≤ b) (b1 : b < m) :
    Four (lessI m h a b) (lessI m h b a) (a != b) ((a - b) % m == h) := by
  have e1 : (b - a) % m = if a ≤ b then b - a else b - a + m := by
    split
    · exact Int.emod_eq_of_lt (by omega) (by omega)
    · rw [← Int.add_emod_right]; exact Int.emod_eq_of_lt (by omega) (by omega)
  have e2 : (a - b) % m = if b ≤ a then a - b else a - b + m := by
    split
    · exact Int.emod_eq_of_lt (by omega) (by omega)
    · rw [← Int.add_emod_right]; exact Int.emod_eq_of_lt (by omega) (by omega)
  unfold Four lessI dist
  simp only [decide_eq_true_eq, decide_eq_false_iff_not, bne_iff_ne, beq_iff_eq, ne_eq, bne_eq_false_iff_eq, beq_eq_false_iff_ne]
  rw [e1, e2]
  split <;> split <;> omega
theorem not_self (m h a : Int) : lessI m h a a = false := by simp [lessI, dist]

theorem serialOne_walk (a b : Int) (w : World) (ha : (Lit.int .u32 a).wf = true) (hb : (Lit.int .u32 b).wf = true) :
    Calls Try.prog 4 #[.int .u32 a, .int .u32 b] w fun e w' => e = .returned (.bool true) ∧ Below w.heap.size w w' := by
  obtain ⟨a0, a1⟩ := bounds_u32 ha
  obtain ⟨b0, b1⟩ := bounds_u32 hb
  clear ha hb
  have f32 : Four (less32 a b) (less32 b a) (a != b) ((a - b) % 4294967296 == 2147483648) := four_of 4294967296 2147483648 a b (by omega) (by omega) a0 (by omega) b0 (by omega)
  have f16 : Four (less16 (IntKind.u16.wrap a) (IntKind.u16.wrap b)) (less16 (IntKind.u16.wrap b) (IntKind.u16.wrap a)) (IntKind.u16.wrap a != IntKind.u16.wrap b) (IntKind.u16.wrap (IntKind.u16.wrap a - IntKind.u16.wrap b) == 32768) := wrap_u16 (IntKind.u16.wrap a - IntKind.u16.wrap b) ▸ four_of 65536 32768 (IntKind.u16.wrap a) (IntKind.u16.wrap b) (by omega) (by omega) (w16_lo a) (w16_hi a) (w16_lo b) (w16_hi b)
  have s32 : less32 a a = false := not_self _ _ _
  have s16 : less16 (IntKind.u16.wrap a) (IntKind.u16.wrap a) = false := not_self _ _ _
  go_enter Try.func4, Try.ntmps4
  go_wp2_with (first
    | (go_at_call 8; refine (awake_any _).mono ?_; rintro e w' ⟨rfl, rfl⟩)
    | (go_at_call 9; refine (Less_any _ _ _).mono ?_; rintro e w' ⟨rfl, rfl⟩)
    | (go_at_call 11; refine (Less16_any _ _ _).mono ?_; rintro e w' ⟨rfl, rfl⟩))
  all_goals
    go_ret
    refine ⟨ret_bool ?_, Below.refl _ _⟩
    unfold Four at f32 f16
    rcases f32 with ⟨_, _, _, _⟩ | ⟨_, _, _, _⟩ | ⟨_, _, _, _⟩ | ⟨_, _, _, _⟩ <;> rcases f16 with ⟨_, _, _, _⟩ | ⟨_, _, _, _⟩ | ⟨_, _, _, _⟩ | ⟨_, _, _, _⟩ <;> simp_all
end Go.Proofs.Ytoiocmbpdcnldaa
