/- The walk of the law RtoBounds. -/
import Derived.Test.YtkpbaoiaebdngaaRMath
import Derived.Test.YtkpbaoiaebdngaaNums
namespace Go.Proofs.Ytkpbaoiaebdngaa
open Go.RowKit
set_option linter.unusedVariables false

/-- The state that the law keeps. -/
def Now (w : World) (g : Nat) (s : RS) (W : World) : Prop := RB W g s ∧ InR s ∧ Below w.heap.size w W
set_option maxHeartbeats 1000000 in
theorem rtoBounds_walk (A : Option Addr) (n c : Nat) (zs : List Int) (w : World) (hz : NS .i64 w A n c zs) :
    Calls Try.prog 4 #[.slice A n c] w fun e w' => e = .returned (.bool true) ∧ Below w.heap.size w w' := by
  have K0 := keep (fun w => awake_any w)
  by_cases hn : n ≤ 2000
  · have hn' : (n : Int) ≤ 2000 := by omega
    have HZ := keep hz
    have K1 := keep (fun w => Start_at w)
    clear hz
    go_enter Try.func4, Try.ntmps4
    go_wp2_with (first
      | (go_at_call 8; refine (K0.out _).mono ?_; rintro e w1 ⟨rfl, hb1⟩; replace hb1 := keep hb1)
      | (go_at_call 13; refine (K1.out _).mono ?_; rintro e w2 ⟨rfl, hb2⟩
         have hB := up hb1.out hb2
         have N0 := keep (show Now w w2.heap.size RS.start (w2.alloc (.cells #[.int .i64 0, .int .i64 0, .int .i64 3000, .bool false] 23)) from ⟨RB.new w2 RS.start, InR.start, hB.alloc hB.size _⟩)
         have HG := keep (hB.size)
         clear hb2 hB hb1))
    go_loopw [5] (fun vi wr => ∃ (j : Nat) (s : RS), vi = .int .i64 j ∧ j ≤ n ∧ Hid (Now w w2.heap.size s wr)) (fun vi _ => n - (intOf vi).toNat)
    case atStart => exact ⟨0, _, rfl, Nat.zero_le _, N0⟩
    case round =>
      obtain ⟨j, ⟨sm, va, wa, kn⟩, rfl, hj, HN⟩ := hrel
      by_cases hlt : j < n
      · obtain ⟨b, o, z, rfl, hbl, hcell, _, _⟩ := (HZ.out.step HN.out.2.2).at_ (j := j) hlt
        have hlt' : (j : Int) < (n : Int) := by omega
        obtain ⟨⟨d0, d1, d2, d3⟩, _⟩ := HN.out.1.all
        dsimp only at d0 d1 d2 d3
        clear N0 hn hn'
        by_cases hneg : z < 0
        · obtain ⟨v, hv⟩ : ∃ v, bk wa = v := ⟨_, rfl⟩
          have hI := HN.out.2.1.bk
          dsimp only at hI
          rw [hv] at hI
          have K3 := keep (fun w => @Back_at sm va wa v kn hv w)
          obtain ⟨i0, i1, i2, i3, i4, i5⟩ := hI
          dsimp only at i0 i1 i2 i3 i4 i5
          have HI := keep (show InR ⟨sm, va, v, kn⟩ from ⟨i0, i1, i2, i3, i4, i5⟩)
          clear hv
          go_wp2_with (go_at_call 11; refine (K3.out _).mono ?_; rintro e w4 ⟨rfl, hb4⟩
                       have R4 := HN.out.1.step hb4
                       obtain ⟨⟨d0, d1, d2, d3⟩, f0, f1, f2, f3⟩ := R4.all
                       dsimp only at d0 d1 d2 d3
                       have R5 := keep (laid4 R4 sm va v kn)
                       have B5 := keep (below4 (up HN.out.2.2 hb4) HG.out (.int .i64 sm) (.int .i64 va) (.int .i64 v) (.bool kn))
                       clear hb4 R4)
          go_roundw
          case rel => exact ⟨j + 1, ⟨sm, va, v, kn⟩, by go_num, by omega, keep ⟨R5.out, HI.out, B5.out⟩⟩
          case measure => simp [intOf]; omega
        · obtain ⟨x, y, u, k, hs⟩ : ∃ x y u k, RS.samp ⟨sm, va, wa, kn⟩ z = ⟨x, y, u, k⟩ := ⟨_, _, _, _, rfl⟩
          have hI := HN.out.2.1.samp z
          rw [hs] at hI
          have K3 := keep (fun w => Sample_at hs w)
          obtain ⟨i0, i1, i2, i3, i4, i5⟩ := hI
          dsimp only at i0 i1 i2 i3 i4 i5
          have HI := keep (show InR ⟨x, y, u, k⟩ from ⟨i0, i1, i2, i3, i4, i5⟩)
          replace i0 := keep i0
          replace i1 := keep i1
          replace i2 := keep i2
          replace i3 := keep i3
          replace i4 := keep i4
          replace i5 := keep i5
          clear hs
          go_wp2_with fail
          go_region_with (first
            | (go_at_call 9; refine (K3.out _).mono ?_; rintro e w4 ⟨rfl, hb4⟩
               have R4 := HN.out.1.drew.step hb4
               obtain ⟨⟨d0, d1, d2, d3⟩, f0, f1, f2, f3⟩ := R4.all
               dsimp only at d0 d1 d2 d3
               have R5 := keep (laid4 R4 x y u k)
               have B5 := keep (below4 (up HN.out.2.2.drew hb4) HG.out (.int .i64 x) (.int .i64 y) (.int .i64 u) (.bool k))
               clear hb4 R4))
          all_goals
            replace i0 := i0.out
            replace i1 := i1.out
            replace i2 := i2.out
            replace i3 := i3.out
            replace i4 := i4.out
            replace i5 := i5.out
            (try go_wp2_with fail)
          all_goals
            go_roundw
            case rel => exact ⟨j + 1, ⟨x, y, u, k⟩, by go_num, by omega, keep ⟨R5.out, HI.out, B5.out⟩⟩
            case measure => simp [intOf]; omega
      · obtain rfl : n = j := by omega
        have B := keep HN.out.2.2
        go_wp2_with fail
        go_ret
        exact ⟨rfl, B.out⟩
  · have hn' : 2000 < (n : Int) := by omega
    clear hz hn
    go_enter Try.func4, Try.ntmps4
    go_wp2_with (go_at_call 8; refine (K0.out _).mono ?_; rintro e w1 ⟨rfl, hb1⟩; replace hb1 := keep hb1)
    go_ret
    exact ⟨rfl, hb1.out⟩
end Go.Proofs.Ytkpbaoiaebdngaa
