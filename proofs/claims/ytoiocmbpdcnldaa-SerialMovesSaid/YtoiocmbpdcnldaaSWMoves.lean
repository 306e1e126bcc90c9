/- The walk of the law SerialMoves. -/
import Derived.Test.YtoiocmbpdcnldaaSWIs
namespace Go.Proofs.Ytoiocmbpdcnldaa
open Go.RowKit
set_option linter.unusedVariables false

theorem dist_moves (m a b y : Int) : dist m ((a + y) % m) ((b + y) % m) = dist m a b := by
  unfold dist
  rw [← Int.sub_emod]
  congr 1
  omega
theorem less_moves (m h a b y : Int) : lessI m h ((a + y) % m) ((b + y) % m) = lessI m h a b := by
  unfold lessI
  rw [dist_moves]
theorem dist16_moves (a b y : Int) : dist 65536 (IntKind.u16.wrap ((a + y) % 4294967296)) (IntKind.u16.wrap ((b + y) % 4294967296)) = dist 65536 (IntKind.u16.wrap a) (IntKind.u16.wrap b) := by
  simp only [wrap_u16, dist]
  omega

set_option maxHeartbeats 4000000 in
theorem serialMoves_walk (a x b y : Int) (w : World) (ha : (Lit.int .u32 a).wf = true) (hx : (Lit.int .u32 x).wf = true) (hb : (Lit.int .u32 b).wf = true) (hy : (Lit.int .u32 y).wf = true) :
    Calls Try.prog 5 #[.int .u32 a, .int .u32 x, .int .u32 b, .int .u32 y] w fun e w' => e = .returned (.bool true) ∧ Below w.heap.size w w' := by
  obtain ⟨a0, a1⟩ := bounds_u32 ha
  obtain ⟨b0, b1⟩ := bounds_u32 hb
  obtain ⟨x0, x1⟩ := bounds_u32 hx
  obtain ⟨y0, y1⟩ := bounds_u32 hy
  clear ha hb hx hy
  have m1 : less32 ((a + y) % 4294967296) ((b + y) % 4294967296) = less32 a b := less_moves _ _ _ _ _
  have m2 : dist32 ((a + y) % 4294967296) ((b + y) % 4294967296) = dist32 a b := dist_moves _ _ _ _
  have m3 : most32 ((a + y) % 4294967296) ((b + y) % 4294967296) = (most32 a b + y) % 4294967296 := by
    unfold most32
    rw [m1]
    split <;> rfl
  have m4 : betw32 ((a + y) % 4294967296) ((x + y) % 4294967296) ((b + y) % 4294967296) = betw32 a x b := by
    unfold betw32 dist32
    rw [dist_moves, dist_moves]
  have m5 : less16 (IntKind.u16.wrap ((a + y) % 4294967296)) (IntKind.u16.wrap ((b + y) % 4294967296)) = less16 (IntKind.u16.wrap a) (IntKind.u16.wrap b) := by
    unfold less16 lessI
    rw [dist16_moves]
  clear a0 a1 b0 b1 x0 x1 y0 y1
  go_enter Try.func5, Try.ntmps5
  go_wp2_with (first
    | (go_at_call 8; refine (awake_any _).mono ?_; rintro e w' ⟨rfl, rfl⟩)
    | (go_at_call 9; refine (Less_any _ _ _).mono ?_; rintro e w' ⟨rfl, rfl⟩)
    | (go_at_call 11; refine (Less16_any _ _ _).mono ?_; rintro e w' ⟨rfl, rfl⟩)
    | (go_at_call 15; refine (Max_any _ _ _).mono ?_; rintro e w' ⟨rfl, rfl⟩)
    | (go_at_call 17; refine (Between_any _ _ _ _).mono ?_; rintro e w' ⟨rfl, rfl⟩)
    | (go_at_call 13; refine (Dist_any _ _ _).mono ?_; rintro e w' ⟨rfl, rfl⟩))
  go_ways
  go_ret
  exact ⟨rfl, Below.refl _ _⟩
end Go.Proofs.Ytoiocmbpdcnldaa
