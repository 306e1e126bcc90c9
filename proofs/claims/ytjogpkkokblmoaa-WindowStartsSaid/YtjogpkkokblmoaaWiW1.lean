/- The walk of the law WindowStarts. -/
import Derived.Test.YtjogpkkokblmoaaWi6
import Derived.Test.YtjogpkkokblmoaaAnd
namespace Go.Proofs.Ytjogpkkokblmoaa
open Go.RowKit
set_option linter.unusedVariables false

theorem Room_at {cw th pa mt ex f p r : Int} {re : Bool} (hf : f ≤ 9223372036854775807) (h : WS.room ⟨cw, th, pa, mt, re, ex⟩ f p = r) (w : World) :
    Calls Try.prog 14 #[.agg #[.int .i64 cw, .int .i64 th, .int .i64 pa, .int .i64 mt, .bool re, .int .u32 ex], .int .i64 f, .int .i64 p] w fun e w' => e = .returned (.int .i64 r) ∧ Below w.heap.size w w' := by
  have := Room_any ⟨cw, th, pa, mt, re, ex⟩ f p hf w
  rw [h] at this
  exact this
set_option maxHeartbeats 1000000 in
theorem windowStarts_walk (m p f : Int) (w : World) (hm : (Lit.int .i64 m).wf = true) (hp : (Lit.int .i64 p).wf = true) (hf : (Lit.int .i64 f).wf = true) :
    Calls Try.prog 6 #[.int .i64 m, .int .i64 p, .int .i64 f] w fun e w' => e = .returned (.bool true) ∧ Below w.heap.size w w' := by
  have K0 := keep (fun w => awake_any w)
  obtain ⟨p', hp1, hp2, hp3⟩ := and30 p
  obtain ⟨f', hf1, hf2, hf3⟩ := and30 f
  have hk := mtu_in m
  obtain ⟨k, hk1⟩ : ∃ k, mtuOf m = k := ⟨_, rfl⟩
  have hs : WS.start m = ⟨3 * k, 1073741824, 0, k, false, 0⟩ := by rw [← hk1]; rfl
  rw [hk1] at hk
  have hmay : WS.may ⟨3 * k, 1073741824, 0, k, false, 0⟩ = true := by rw [← hs]; exact may_start m
  have K1 := keep (fun w => Start_at hs w)
  obtain ⟨n, hn⟩ : ∃ n, WS.room ⟨3 * k, 1073741824, 0, k, false, 0⟩ 0 p' = n := ⟨_, rfl⟩
  have K2 := keep (fun w => Room_at (by omega) hn w)
  obtain ⟨q, hq⟩ : ∃ q, WS.room ⟨3 * k, 1073741824, 0, k, false, 0⟩ f' p' = q := ⟨_, rfl⟩
  have K3 := keep (fun w => Room_at (by omega) hq w)
  obtain ⟨z, hz0⟩ : ∃ z, -1 - f' = z := ⟨_, rfl⟩
  have hz : WS.room ⟨3 * k, 1073741824, 0, k, false, 0⟩ z p' = 0 := by
    unfold WS.room
    rw [if_neg (by omega)]
  have K4 := keep (fun w => Room_at (by omega) hz w)
  obtain ⟨a1, a2⟩ := wrap_in z (by omega)
  obtain ⟨a3, a4⟩ := wrap_in (3 * k) (by omega)
  obtain ⟨a5, a6⟩ := wrap_in (3 * k - f') (by omega)
  obtain ⟨u, m1⟩ : ∃ u, (if p' < 3 * k then p' else 3 * k) = u := ⟨_, rfl⟩
  obtain ⟨v, m2⟩ : ∃ v, (if k < u then u else k) = v := ⟨_, rfl⟩
  obtain ⟨u2, m3⟩ : ∃ u, (if p' < 3 * k - f' then p' else 3 * k - f') = u := ⟨_, rfl⟩
  obtain ⟨v2, m4⟩ : ∃ v, (if 0 < u2 then u2 else 0) = v := ⟨_, rfl⟩
  have hn1 : n = v := by
    unfold WS.room at hn
    rw [if_pos ⟨hmay, by omega, by omega⟩, if_pos rfl] at hn
    rw [← hn]
    show max (min (3 * k) p') k = v
    omega
  have hq1 : f' ≠ 0 → q = v2 := fun h => by
    unfold WS.room at hq
    rw [if_pos ⟨hmay, by omega, by omega⟩, if_neg h] at hq
    rw [← hq]
    show max (min (3 * k - f') p') 0 = v2
    omega
  clear hn hq hz hs hmay hk1 hm hp hf hk hp2 hp3
  subst hn1
  by_cases hf0 : f' = 0
  · subst hf0
    clear hq1 a5 a6 K3
    go_enter Try.func6, Try.ntmps6
    go_wp2_with (first
      | (go_at_call 7; refine (K0.out _).mono ?_; rintro e w1 ⟨rfl, hb1⟩; replace hb1 := keep hb1)
      | (go_at_call 8; refine (K1.out _).mono ?_; rintro e w2 ⟨rfl, hb2⟩
         have R2 := WB.new 26 w2 ⟨3 * k, 1073741824, 0, k, false, 0⟩
         obtain ⟨⟨d0, d1, d2, d3, d4, d5⟩, _⟩ := R2.all
         dsimp only at d0 d1 d2 d3 d4 d5
         have hB := up hb1.out hb2
         have L2 := keep (hB.alloc hB.size (.cells (WS.cells ⟨3 * k, 1073741824, 0, k, false, 0⟩) 26))
         replace R2 := keep R2
         clear hb2 hB hb1 K1 K0)
      | (go_at_call_of 14 (Value.int IntKind.i64 z); refine (K4.out _).mono ?_; rintro e w5 ⟨rfl, hb5⟩
         have L5 := keep (up L4.out hb5)
         clear hb5 R4 L4)
      | (go_at_call 14; refine (K2.out _).mono ?_; rintro e w3 ⟨rfl, hb3⟩
         first
         | (have R4 := R3.out.step hb3
            obtain ⟨⟨d0, d1, d2, d3, d4, d5⟩, _⟩ := R4.all
            dsimp only at d0 d1 d2 d3 d4 d5
            have L4 := keep (up L3.out hb3)
            replace R4 := keep R4
            clear hb3 R3 L3)
         | (have R3 := R2.out.step hb3
            obtain ⟨⟨d0, d1, d2, d3, d4, d5⟩, _⟩ := R3.all
            dsimp only at d0 d1 d2 d3 d4 d5
            have L3 := keep (up L2.out hb3)
            replace R3 := keep R3
            clear hb3 R2 L2)))
    go_ret
    exact ⟨rfl, L5.out⟩
  · have hq2 := hq1 hf0
    subst hq2
    clear hq1
    go_enter Try.func6, Try.ntmps6
    go_wp2_with (first
      | (go_at_call 7; refine (K0.out _).mono ?_; rintro e w1 ⟨rfl, hb1⟩; replace hb1 := keep hb1)
      | (go_at_call 8; refine (K1.out _).mono ?_; rintro e w2 ⟨rfl, hb2⟩
         have R2 := WB.new 26 w2 ⟨3 * k, 1073741824, 0, k, false, 0⟩
         obtain ⟨⟨d0, d1, d2, d3, d4, d5⟩, _⟩ := R2.all
         dsimp only at d0 d1 d2 d3 d4 d5
         have hB := up hb1.out hb2
         have L2 := keep (hB.alloc hB.size (.cells (WS.cells ⟨3 * k, 1073741824, 0, k, false, 0⟩) 26))
         replace R2 := keep R2
         clear hb2 hB hb1 K1 K0)
      | (go_at_call_of 14 (Value.int IntKind.i64 f'); refine (K3.out _).mono ?_; rintro e w4 ⟨rfl, hb4⟩
         have R4 := R3.out.step hb4
         obtain ⟨⟨d0, d1, d2, d3, d4, d5⟩, _⟩ := R4.all
         dsimp only at d0 d1 d2 d3 d4 d5
         have L4 := keep (up L3.out hb4)
         replace R4 := keep R4
         clear hb4 R3 L3 K3)
      | (go_at_call_of 14 (Value.int IntKind.i64 z); refine (K4.out _).mono ?_; rintro e w5 ⟨rfl, hb5⟩
         have L5 := keep (up L4.out hb5)
         clear hb5 R4 L4)
      | (go_at_call 14; refine (K2.out _).mono ?_; rintro e w3 ⟨rfl, hb3⟩
         have R3 := R2.out.step hb3
         obtain ⟨⟨d0, d1, d2, d3, d4, d5⟩, _⟩ := R3.all
         dsimp only at d0 d1 d2 d3 d4 d5
         have L3 := keep (up L2.out hb3)
         replace R3 := keep R3
         clear hb3 R2 L2))
    go_ret
    exact ⟨rfl, L5.out⟩
end Go.Proofs.Ytjogpkkokblmoaa
