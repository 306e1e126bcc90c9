/- Package rto: awake. -/
import Derived.Test.YtkpbaoiaebdngaaRo5
namespace Go.Proofs.Ytkpbaoiaebdngaa
open Go.RowKit
set_option linter.unusedVariables false

theorem Start_at (w : World) : Calls Try.prog 13 #[] w fun e w' => e = .returned (.agg #[.int .i64 0, .int .i64 0, .int .i64 3000, .bool false]) ∧ Below w.heap.size w w' := Start_any w
theorem Sample_at {sm va wa r x y z : Int} {kn k : Bool} (h : RS.samp ⟨sm, va, wa, kn⟩ r = ⟨x, y, z, k⟩) (w : World) :
    Calls Try.prog 9 #[.agg #[.int .i64 sm, .int .i64 va, .int .i64 wa, .bool kn], .int .i64 r] w fun e w' => e = .returned (.agg #[.int .i64 x, .int .i64 y, .int .i64 z, .bool k]) ∧ Below w.heap.size w w' := by
  have := Sample_any ⟨sm, va, wa, kn⟩ r w
  rw [h] at this
  exact this
theorem Back_at {sm va wa v : Int} {kn : Bool} (h : bk wa = v) (w : World) :
    Calls Try.prog 11 #[.agg #[.int .i64 sm, .int .i64 va, .int .i64 wa, .bool kn]] w fun e w' => e = .returned (.agg #[.int .i64 sm, .int .i64 va, .int .i64 v, .bool kn]) ∧ Below w.heap.size w w' := by
  have := Back_any ⟨sm, va, wa, kn⟩ w
  rw [show RS.back ⟨sm, va, wa, kn⟩ = ⟨sm, va, v, kn⟩ by rw [← h]; rfl] at this
  exact this
theorem refSample_at {sm va wa r x y z : Int} {kn k : Bool} (h : RS.samp ⟨sm, va, wa, kn⟩ r = ⟨x, y, z, k⟩) (w : World) :
    Calls Try.prog 10 #[.int .i64 sm, .int .i64 va, .int .i64 wa, .bool kn, .int .i64 r] w fun e w' => e = .returned (.tuple #[.int .i64 x, .int .i64 y, .int .i64 z, .bool k]) ∧ w = w' := by
  have := refSample_any ⟨sm, va, wa, kn⟩ r w
  rw [h] at this
  exact this
theorem run_wait (a b c : Int) (d : Bool) (w : World) : (Instr.field 23 (.agg #[.int .i64 a, .int .i64 b, .int .i64 c, .bool d]) 2).run Try.prog w = .ok (.int .i64 c) w := by kernel_rfl
set_option maxHeartbeats 1000000 in
theorem awake_any (w : World) : Calls Try.prog 8 #[] w fun e w' => e = .returned (.bool true) ∧ Below w.heap.size w w' := by
  have e2 : RS.start.samp 100 = ⟨100, 50, 1000, true⟩ := by rfl
  have e3 : RS.start.back = ⟨0, 0, 6000, false⟩ := by rfl
  have K1 : ∀ w : World, Calls Try.prog 13 #[] w fun e w' => e = .returned (.agg #[.int .i64 0, .int .i64 0, .int .i64 3000, .bool false]) ∧ Below w.heap.size w w' := fun w => Start_any w
  have K2 : ∀ w : World, Calls Try.prog 9 #[.agg #[.int .i64 0, .int .i64 0, .int .i64 3000, .bool false], .int .i64 100] w fun e w' => e = .returned (.agg #[.int .i64 100, .int .i64 50, .int .i64 1000, .bool true]) ∧ Below w.heap.size w w' := fun w => by
    have := Sample_any RS.start 100 w
    rw [e2] at this
    exact this
  have K3 : ∀ w : World, Calls Try.prog 11 #[.agg #[.int .i64 0, .int .i64 0, .int .i64 3000, .bool false]] w fun e w' => e = .returned (.agg #[.int .i64 0, .int .i64 0, .int .i64 6000, .bool false]) ∧ Below w.heap.size w w' := fun w => by
    have := Back_any RS.start w
    rw [e3] at this
    exact this
  clear e2 e3
  replace K1 := keep K1
  replace K2 := keep K2
  replace K3 := keep K3
  have hw1 := fun w => run_wait 0 0 3000 false w
  have hw2 := fun w => run_wait 0 0 6000 false w
  have H0 := keep (Below.refl w.heap.size w)
  go_enter Try.func8, Try.ntmps8
  go_wp2_with (first
    | (go_at_call 9; refine (K2.out _).mono ?_; rintro e w2 ⟨rfl, hb2⟩
       have T2 := RB.new w2 ⟨100, 50, 1000, true⟩
       have H2 := keep ((up H0.out hb2).alloc (up H0.out hb2).size (.cells #[.int .i64 100, .int .i64 50, .int .i64 1000, .bool true] 23))
       replace T2 := keep T2
       clear hb2 H0 K2)
    | (go_at_call 11; refine (K3.out _).mono ?_; rintro e w3 ⟨rfl, hb3⟩
       have H5 := keep (up H4.out hb3)
       obtain ⟨⟨d0, d1, d2, d3⟩, _⟩ := (T4.out.step hb3).all
       dsimp only at d0 d1 d2 d3
       clear hb3 H4 T4 K3 K1)
    | (go_at_call 13; refine (K1.out _).mono ?_; rintro e w1 ⟨rfl, hb1⟩
       first
       | (have H4 := keep (up H3.out hb1)
          have T4 := T3.out.step hb1
          obtain ⟨⟨d0, d1, d2, d3⟩, _⟩ := T4.all
          dsimp only at d0 d1 d2 d3
          replace T4 := keep T4
          clear hb1 H3 T3)
       | (have H3 := keep (up H2.out hb1)
          have T3 := T2.out.step hb1
          obtain ⟨⟨d0, d1, d2, d3⟩, _⟩ := T3.all
          dsimp only at d0 d1 d2 d3
          replace T3 := keep T3
          clear hb1 H2 T2)
       | (replace H0 := keep (up H0.out hb1)
          clear hb1)))
  go_ret
  exact ⟨rfl, H5.out⟩
end Go.Proofs.Ytkpbaoiaebdngaa
