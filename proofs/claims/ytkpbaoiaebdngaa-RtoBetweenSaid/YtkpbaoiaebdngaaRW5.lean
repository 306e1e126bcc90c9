/- The walk of the law RtoBetween. -/
import Derived.Test.YtkpbaoiaebdngaaRW2
namespace Go.Proofs.Ytkpbaoiaebdngaa
open Go.RowKit
set_option linter.unusedVariables false

set_option maxHeartbeats 1000000 in
theorem rtoBetween_walk (A : Option Addr) (n c : Nat) (zs : List Int) (r : Int) (w : World) (hz : NS .i64 w A n c zs) (_ : (Lit.int .i64 r).wf = true) :
    Calls Try.prog 7 #[.slice A n c, .int .i64 r] w fun e w' => e = .returned (.bool true) ∧ Below w.heap.size w w' := by
  have K0 := keep (fun w => awake_any w)
  by_cases hn : n ≤ 200
  · have hn' : (n : Int) ≤ 200 := by omega
    have HZ := keep hz
    have K1 := keep (fun w => Start_at w)
    clear hz
    go_enter Try.func7, Try.ntmps7
    go_wp2_with (first
      | (go_at_call 8; refine (K0.out _).mono ?_; rintro e w1 ⟨rfl, hb1⟩; replace hb1 := keep hb1)
      | (go_at_call 13; refine (K1.out _).mono ?_; rintro e w2 ⟨rfl, hb2⟩
         have hB := up hb1.out hb2
         have N0 := keep (show Now w w2.heap.size RS.start (w2.alloc (.cells #[.int .i64 0, .int .i64 0, .int .i64 3000, .bool false] 23)) from ⟨RB.new w2 RS.start, InR.start, hB.alloc hB.size _⟩)
         have HG := keep (hB.size)
         clear hb2 hB hb1))
    go_loopw [7] (fun vi wr => ∃ (j : Nat) (s : RS), vi = .int .i64 j ∧ j ≤ n ∧ Hid (Now w w2.heap.size s wr)) (fun vi _ => n - (intOf vi).toNat)
    case atStart => exact ⟨0, _, rfl, Nat.zero_le _, N0⟩
    case round =>
      obtain ⟨j, ⟨sm, va, wa, kn⟩, rfl, hj, HN⟩ := hrel
      by_cases hlt : j < n
      · obtain ⟨b, o, z, rfl, hbl, hcell, _, _⟩ := (HZ.out.step HN.out.2.2).at_ (j := j) hlt
        have hlt' : (j : Int) < (n : Int) := by omega
        obtain ⟨⟨d0, d1, d2, d3⟩, _⟩ := HN.out.1.all
        dsimp only at d0 d1 d2 d3
        clear N0 hn hn'
        obtain ⟨q, hq, _, _⟩ := and30 z
        obtain ⟨x, y, u, k, hs⟩ : ∃ x y u k, RS.samp ⟨sm, va, wa, kn⟩ q = ⟨x, y, u, k⟩ := ⟨_, _, _, _, rfl⟩
        have hI := HN.out.2.1.samp q
        rw [hs] at hI
        have K3 := keep (fun w => Sample_at hs w)
        have HI := keep hI
        clear hs hI
        go_wp2_with fail
        go_region_with (first
          | (go_at_call 9; refine (K3.out _).mono ?_; rintro e w4 ⟨rfl, hb4⟩
             have R4 := HN.out.1.drew.step hb4
             obtain ⟨⟨d0, d1, d2, d3⟩, f0, f1, f2, f3⟩ := R4.all
             dsimp only at d0 d1 d2 d3
             have R5 := keep (laid4 R4 x y u k)
             have B5 := keep (below4 (up HN.out.2.2.drew hb4) HG.out (.int .i64 x) (.int .i64 y) (.int .i64 u) (.bool k))
             clear hb4 R4))
        all_goals (try go_wp2_with fail)
        all_goals
          go_roundw
          case rel => exact ⟨j + 1, ⟨x, y, u, k⟩, by go_num, by omega, keep ⟨R5.out, HI.out, B5.out⟩⟩
          case measure => simp [intOf]; omega
      · obtain rfl : n = j := by omega
        clear N0 hn hn'
        obtain ⟨⟨d0, d1, d2, d3⟩, _⟩ := HN.out.1.all
        dsimp only at d0 d1 d2 d3
        obtain ⟨q, hq, q0, q1⟩ := and30 r
        obtain ⟨x, y, hs, x0, hno, hyes, hwt⟩ := between HN.out.2.1 q0 q1
        obtain ⟨u, hu⟩ : ∃ u, clampI (x + morI y) = u := ⟨_, rfl⟩
        rw [hu] at hs hwt
        have K3 := keep (fun w => Sample_at hs w)
        have hI := HN.out.2.1
        have si0 := hI.s0
        have si1 := hI.s1
        dsimp only at hno hyes si0 si1
        clear hs hu hI
        have e1 : (if sm < q then sm else q) = min sm q := by omega
        have e2 : (if sm < q then q else sm) = max sm q := by omega
        have e4 : (if x < 60000 then x else (60000 : Int)) = min x 60000 := by omega
        obtain ⟨p1, hp1⟩ : ∃ p, min sm q = p := ⟨_, rfl⟩
        obtain ⟨p2, hp2⟩ : ∃ p, max sm q = p := ⟨_, rfl⟩
        obtain ⟨p3, hp3⟩ : ∃ p, min x 60000 = p := ⟨_, rfl⟩
        have e5 := wrap_in (p1 - 1) (by omega)
        have e7 : Hid (wrap64 (sm - 1) = sm - 1 ∧ wrap64 (q - 1) = q - 1 ∧ (kn = true → min sm q - 1 ≤ x ∧ x ≤ max sm q)) := keep ⟨(wrap_in _ (by omega)).2, (wrap_in _ (by omega)).2, hyes⟩
        have e6 : Hid ((x < 60000 → x ≤ u) ∧ (¬ x < 60000 → 60000 ≤ u)) := keep ⟨fun _ => by omega, fun _ => by omega⟩
        rw [hp1] at e1 hyes
        rw [hp2] at e2 hyes
        rw [hp3] at e4 hwt
        obtain ⟨e5, e5'⟩ := e5
        clear hp1 hp2 hp3 si0 si1 q0 q1 x0
        cases kn
        · have hx := hno rfl
          subst hx
          clear hno hyes e1 e2 e4 e5 e5' hwt
          go_wp2_with (first
            | (go_at_call 9; refine (K3.out _).mono ?_; rintro e w4 ⟨rfl, hb4⟩
               have R4 := (HN.out.1.step hb4).step (below_lay w4 (.cells #[.int .i64 x, .int .i64 y, .int .i64 u, .bool true] 23))
               have T4 := RB.new w4 ⟨x, y, u, true⟩
               obtain ⟨⟨d0, d1, d2, d3⟩, _⟩ := R4.all
               obtain ⟨⟨b0, b1, b2, b3⟩, _⟩ := T4.all
               dsimp only at d0 d1 d2 d3 b0 b1 b2 b3
               have B5 := keep ((up HN.out.2.2 hb4).alloc (up HN.out.2.2 hb4).size (.cells #[.int .i64 x, .int .i64 y, .int .i64 u, .bool true] 23))
               clear hb4 R4 T4))
          go_ret
          exact ⟨rfl, B5.out⟩
        · obtain ⟨y1, y2⟩ := hyes rfl
          clear hno hyes
          go_wp2_with (first
            | (go_at_call 9; refine (K3.out _).mono ?_; rintro e w4 ⟨rfl, hb4⟩
               have R4 := (HN.out.1.step hb4).step (below_lay w4 (.cells #[.int .i64 x, .int .i64 y, .int .i64 u, .bool true] 23))
               have T4 := RB.new w4 ⟨x, y, u, true⟩
               obtain ⟨⟨d0, d1, d2, d3⟩, _⟩ := R4.all
               obtain ⟨⟨b0, b1, b2, b3⟩, _⟩ := T4.all
               dsimp only at d0 d1 d2 d3 b0 b1 b2 b3
               have B5 := keep ((up HN.out.2.2 hb4).alloc (up HN.out.2.2 hb4).size (.cells #[.int .i64 x, .int .i64 y, .int .i64 u, .bool true] 23))
               clear hb4 R4 T4))
          all_goals go_ret
          all_goals
            obtain ⟨e6a, e6b⟩ := e6.out
            first | exact ⟨ret_bool (decide_eq_true (by omega)), B5.out⟩ | exact ⟨rfl, B5.out⟩ | (exfalso; obtain ⟨g1, g2, g3⟩ := e7.out; obtain ⟨g4, g5⟩ := g3 (by trivial); omega)
  · have hn' : 200 < (n : Int) := by omega
    clear hz hn
    go_enter Try.func7, Try.ntmps7
    go_wp2_with (go_at_call 8; refine (K0.out _).mono ?_; rintro e w1 ⟨rfl, hb1⟩; replace hb1 := keep hb1)
    go_ret
    exact ⟨rfl, hb1.out⟩
end Go.Proofs.Ytkpbaoiaebdngaa
