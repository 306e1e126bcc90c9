/- The walk of the law RtoSamples. -/
import Derived.Test.YtkpbaoiaebdngaaRo6
namespace Go.Proofs.Ytkpbaoiaebdngaa
open Go.RowKit
set_option linter.unusedVariables false

/-- One block of a state, and what lies below. -/
structure One (B : Nat) (w : World) (g : Nat) (s : RS) (W : World) : Prop where
  r : RB W g s
  below : Below B w W
theorem One.step {B : Nat} {w W W' : World} {g : Nat} {s : RS} (h : One B w g s W) (hb : Below W.heap.size W W') (hB : B ≤ W.heap.size) : One B w g s W' := ⟨h.r.step hb, h.below.trans (hb.mono hB)⟩

set_option maxHeartbeats 1000000 in
theorem rtoSamples_walk (s : RS) (r : Int) (w : World) (_ : True) (_ : (Lit.int .i64 r).wf = true) : Calls Try.prog 3 #[.agg s.cells, .int .i64 r] w fun e w' => e = .returned (.bool true) ∧ Below w.heap.size w w' := by
  obtain ⟨sm, va, wa, kn⟩ := s
  obtain ⟨x, y, z, k, hs⟩ : ∃ x y z k, RS.samp ⟨sm, va, wa, kn⟩ r = ⟨x, y, z, k⟩ := ⟨_, _, _, _, rfl⟩
  obtain ⟨v, hv⟩ : ∃ v, bk wa = v := ⟨_, rfl⟩
  have K1 := keep (fun w => Sample_at hs w)
  have K2 := keep (fun w => refSample_at hs w)
  have K3 := keep (fun w => @Back_at sm va wa v kn hv w)
  have K4 := keep (fun w => refBack_any wa w)
  rw [hv] at K4
  have K0 := keep (fun w => awake_any w)
  clear hs hv
  dsimp only [RS.cells]
  have R0 := keep (RB.new w ⟨sm, va, wa, kn⟩)
  have L0 := keep (below_lay w (.cells #[.int .i64 sm, .int .i64 va, .int .i64 wa, .bool kn] 23))
  go_enter Try.func3, Try.ntmps3
  go_wp2_with (first
    | (go_at_call 8; refine (K0.out _).mono ?_; rintro e w1 ⟨rfl, hb1⟩
       have R1 := R0.out.step hb1
       obtain ⟨⟨a0, a1, a2, a3⟩, _⟩ := R1.all
       dsimp only at a0 a1 a2 a3
       have L1 := keep (up L0.out hb1)
       replace R1 := keep R1
       clear hb1 R0 L0)
    | (go_at_call 9; refine (K1.out _).mono ?_; rintro e w2 ⟨rfl, hb2⟩
       have R2 := (R1.out.step hb2).step (below_lay w2 (.cells #[.int .i64 x, .int .i64 y, .int .i64 z, .bool k] 23))
       obtain ⟨⟨a0, a1, a2, a3⟩, _⟩ := R2.all
       dsimp only at a0 a1 a2 a3
       have T2 := RB.new w2 ⟨x, y, z, k⟩
       have L2 := keep ((up L1.out hb2).alloc (up L1.out hb2).size (.cells #[.int .i64 x, .int .i64 y, .int .i64 z, .bool k] 23))
       replace R2 := keep R2
       replace T2 := keep T2
       clear hb2 R1 L1)
    | (go_at_call 10; refine (K2.out _).mono ?_; rintro e w3 ⟨rfl, rfl⟩)
    | (go_at_call 11; refine (K3.out _).mono ?_; rintro e w4 ⟨rfl, hb4⟩
       have Lb := below_lay w4 (.cells #[.int .i64 sm, .int .i64 va, .int .i64 v, .bool kn] 23)
       have R4 := (R2.out.step hb4).step Lb
       have T4 := (T2.out.step hb4).step Lb
       have U4 := RB.new w4 ⟨sm, va, v, kn⟩
       obtain ⟨⟨a0, a1, a2, a3⟩, _⟩ := R4.all
       obtain ⟨⟨b0, b1, b2, b3⟩, _⟩ := T4.all
       obtain ⟨⟨c0, c1, c2, c3⟩, _⟩ := U4.all
       dsimp only at a0 a1 a2 a3 b0 b1 b2 b3 c0 c1 c2 c3
       have L4 := keep (up (up L2.out hb4) Lb)
       clear hb4 Lb R4 T4 U4 R2 T2 L2))
  go_quiet ((go_at_call 12; exact Calls.quiet_of_same ((K4.out _).mono fun _ _ h => ⟨h.1, h.2.symm⟩)))
  go_wp2_with fail
  go_ret
  exact ⟨rfl, below_drewN L4.out _⟩
end Go.Proofs.Ytkpbaoiaebdngaa
