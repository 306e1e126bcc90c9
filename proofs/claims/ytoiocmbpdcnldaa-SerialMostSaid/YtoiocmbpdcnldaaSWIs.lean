/- The walk of the law SerialIs. -/
import Derived.Test.YtoiocmbpdcnldaaSer1
import Derived.OpenShut
namespace Go.Proofs.Ytoiocmbpdcnldaa
open Go.RowKit
set_option linter.unusedVariables false

theorem w16_lo (a : Int) : 0 ≤ IntKind.u16.wrap a := by rw [wrap_u16]; omega
theorem w16_hi (a : Int) : IntKind.u16.wrap a < 65536 := by rw [wrap_u16]; omega

theorem serialIs_walk (a b x : Int) (w : World) (ha : (Lit.int .u32 a).wf = true) (hb : (Lit.int .u32 b).wf = true) (hx : (Lit.int .u32 x).wf = true) :
    Calls Try.prog 3 #[.int .u32 a, .int .u32 b, .int .u32 x] w fun e w' => e = .returned (.bool true) ∧ Below w.heap.size w w' := by
  obtain ⟨a0, a1⟩ := bounds_u32 ha
  obtain ⟨b0, b1⟩ := bounds_u32 hb
  obtain ⟨x0, x1⟩ := bounds_u32 hx
  clear ha hb hx
  have p0 := w16_lo a
  have p1 := w16_hi a
  have q0 := w16_lo b
  have q1 := w16_hi b
  go_enter Try.func3, Try.ntmps3
  go_wp2_with (first
    | (go_at_call 8; refine (awake_any _).mono ?_; rintro e w' ⟨rfl, rfl⟩)
    | (go_at_call 9; refine (Less_any _ _ _).mono ?_; rintro e w' ⟨rfl, rfl⟩)
    | (go_at_call 11; refine (Less16_any _ _ _).mono ?_; rintro e w' ⟨rfl, rfl⟩)
    | (go_at_call 15; refine (Max_any _ _ _).mono ?_; rintro e w' ⟨rfl, rfl⟩)
    | (go_at_call 17; refine (Between_any _ _ _ _).mono ?_; rintro e w' ⟨rfl, rfl⟩)
    | (go_at_call 13; refine (Dist_any _ _ _).mono ?_; rintro e w' ⟨rfl, rfl⟩)
    | (go_at_call 10; refine (refLess_any _ _ (by omega) (by omega) (by omega) (by omega) _).mono ?_; rintro e w' ⟨rfl, rfl⟩)
    | (go_at_call 12; refine (refLess16_any _ _ (by omega) (by omega) (by omega) (by omega) _).mono ?_; rintro e w' ⟨rfl, rfl⟩)
    | (go_at_call 16; refine (refMax_any _ _ (by omega) (by omega) (by omega) (by omega) _).mono ?_; rintro e w' ⟨rfl, rfl⟩)
    | (go_at_call 18; refine (refBetween_any _ _ _ (by omega) (by omega) (by omega) (by omega) (by omega) (by omega) _).mono ?_; rintro e w' ⟨rfl, rfl⟩)
    | (go_at_call 14; refine (refDist_any _ _ (by omega) (by omega) (by omega) (by omega) _).mono ?_; rintro e w' ⟨rfl, rfl⟩))
  go_goals
  go_ret
  exact ⟨rfl, Below.refl _ _⟩
end Go.Proofs.Ytoiocmbpdcnldaa
