/- Law 20: AudioMany, the walk. -/
import Derived.Test.YtacmfoljbjdcjaaUD
namespace Go.Proofs.Ytacmfoljbjdcjaa
open Go.RowKit Go.Maps
set_option linter.unusedVariables false
set_option linter.unusedSimpArgs false

def LQ (w : World) (g : Nat) (a b : Int) (i : Nat) (W : World) : Prop := ∃ M, FQ w g M [] W ∧ MS a b i i (tl 0 i) M
def LQ2 (w : World) (g : Nat) (a b : Int) (i : Nat) (W : World) : Prop := ∃ M, FQ w g M [] W ∧ MS a b (i + 1) i (tl 0 i ++ [hdA i]) M
def PQ (w : World) (g k : Nat) (l : List Pk) (W : World) : Prop := ∃ M, FQ w g M [] W ∧ PS k l M
/-- What still waits, when x packets of the first one, y of the second one were pulled. -/
def rst (k x y : Nat) : List Pk := if y = x then tl x (k - x) else hdB y :: tl x (k - x)
theorem lq_a {w W : World} {g : Nat} {a b : Int} {i : Nat} (h : LQ w g a b i W) (hi : i < 16) (sq : Int) (hs : sq = (a + (i : Int)) % 65536) : Calls Try.prog 19 #[ptr g, .int .i64 0, .agg #[.bool false, .int .u8 0, .int .u16 sq, .int .u32 0, .int .u32 9, .slice none 0 0]] W fun e w' => (∃ x, e = .returned (.tuple #[.int .i64 x, .int .i64 0])) ∧ Hid (LQ2 w g a b i w') := by
  obtain ⟨M, h1, h2⟩ := h
  obtain ⟨e1, e2⟩ := h2.sayA hi (by rw [tl_len]; omega)
  have hp : (⟨false, 0, sq, 0, 9, []⟩ : Pk) = sayP 1 a i := by unfold sayP; rw [hs, Int.one_mul]
  refine (Hear_q h1 0 false 0 sq 0 9 (BS.nil W) (by have := h2.u; omega)).mono fun e w' ⟨g1, g2, _⟩ => ?_
  rw [hp] at g1 g2
  rw [e1] at g1
  exact ⟨⟨_, g1⟩, keep ⟨_, g2.out, e2⟩⟩
theorem lq_b {w W : World} {g : Nat} {a b : Int} {i : Nat} (h : LQ2 w g a b i W) (hi : i < 16) (sq : Int) (hs : sq = (b + 2 * (i : Int)) % 65536) : Calls Try.prog 19 #[ptr g, .int .i64 1, .agg #[.bool false, .int .u8 0, .int .u16 sq, .int .u32 0, .int .u32 9, .slice none 0 0]] W fun e w' => (∃ x, e = .returned (.tuple #[.int .i64 x, .int .i64 0])) ∧ Hid (LQ w g a b (i + 1) w') := by
  obtain ⟨M, h1, h2⟩ := h
  obtain ⟨e1, e2⟩ := h2.sayB hi (by rw [List.length_append, tl_len]; show 2 * i + 1 < 64; omega)
  have hp : (⟨false, 0, sq, 0, 9, []⟩ : Pk) = sayP 2 b i := by unfold sayP; rw [hs]
  refine (Hear_q h1 1 false 0 sq 0 9 (BS.nil W) (by have := h2.u; omega)).mono fun e w' ⟨g1, g2, _⟩ => ?_
  rw [hp] at g1 g2
  rw [e1] at g1
  rw [List.append_assoc] at e2
  have ht := tl_snoc i 0
  rw [Nat.zero_add] at ht
  exact ⟨⟨_, g1⟩, keep ⟨_, g2.out, by rw [ht]; exact e2⟩⟩
theorem pq_pull {w W : World} {g k : Nat} {l : List Pk} (h : PQ w g k l W) : Calls Try.prog 20 #[ptr g, .int .i64 2] W fun e w' => ∃ A n c, e = .returned (.tuple #[.agg #[.bool (l.headD pkZ).mr, .int .u8 (l.headD pkZ).kd, .int .u16 (l.headD pkZ).sq, .int .u32 (l.headD pkZ).st, .int .u32 (l.headD pkZ).so, .slice A n c], .bool (!l.isEmpty)]) ∧ Hid (PQ w g k (l.drop 1) w') := by
  obtain ⟨M, h1, h2⟩ := h
  obtain ⟨e1, e2, e3⟩ := h2.pull
  refine (Pull_q h1 2).mono fun e w' ⟨A, n, c, g1, _, g3, _, _⟩ => ?_
  rw [e1, e2] at g1
  exact ⟨A, n, c, g1, keep ⟨_, g3.out, e3⟩⟩
theorem pq_wait {w W : World} {g k : Nat} {l : List Pk} (h : PQ w g k l W) : (Calls Try.prog 21 #[ptr g, .int .i64 0] W fun e w' => e = .returned (.int .i64 (k : Int)) ∧ W = w') ∧ (Calls Try.prog 21 #[ptr g, .int .i64 1] W fun e w' => e = .returned (.int .i64 (k : Int)) ∧ W = w') := by
  obtain ⟨M, h1, h2⟩ := h
  obtain ⟨e0, e1⟩ := h2.wait
  exact ⟨(Waiting_q h1 0).mono fun e w' ⟨g1, g2⟩ => ⟨by rw [e0] at g1; exact g1, g2⟩, (Waiting_q h1 1).mono fun e w' ⟨g1, g2⟩ => ⟨by rw [e1] at g1; exact g1, g2⟩⟩
theorem PQ.bl {w W : World} {g k : Nat} {l : List Pk} (h : PQ w g k l W) : Below w.heap.size w W := by obtain ⟨M, h1, _⟩ := h; exact h1.bl
theorem PQ.step {w W W' : World} {g k : Nat} {l : List Pk} (h : PQ w g k l W) (hb : Below W.heap.size W W') : PQ w g k l W' := by obtain ⟨M, h1, h2⟩ := h; exact ⟨M, h1.step hb, h2⟩
theorem rst_lt {k x : Nat} (h : x < k) : rst k x x = hdA x :: rst k (x + 1) x ∧ rst k (x + 1) x = hdB x :: rst k (x + 1) (x + 1) := by
  unfold rst
  rw [if_pos rfl, if_neg (by omega), if_pos rfl, show k - x = (k - (x + 1)) + 1 by omega]
  exact ⟨rfl, rfl⟩
theorem rst_end (k : Nat) : rst k k k = [] := by unfold rst; rw [if_pos rfl, Nat.sub_self]; rfl
set_option maxHeartbeats 8000000 in
set_option maxRecDepth 1000000 in
theorem audioMany_walk (a b nn : Int) (w : World) (ha : (Lit.int .u16 a).wf = true) (hb : (Lit.int .u16 b).wf = true) (hn : (Lit.int .i64 nn).wf = true) :
    Calls Try.prog 7 #[.int .u16 a, .int .u16 b, .int .i64 nn] w fun e w' => e = .returned (.bool true) ∧ Below w.heap.size w w' := by
  have KA := keep (awake_any w)
  obtain ⟨r, hr, hr16⟩ : ∃ r : Nat, bits .and .i64 nn 15 = (r : Int) ∧ r < 16 := by
    have := and_i64 nn 4 (by decide)
    refine ⟨(nn % 16).toNat, this.trans ?_, by omega⟩
    show nn % 16 = _
    omega
  have KN := keep fun W (hb : Below w.heap.size w W) => New_q (w := w) 3 64 hb
  rw [show clampT 3 16 = 3 from rfl, show clampT 64 64 = 64 from rfl] at KN
  have hwr1 : IntKind.i64.wrap (1 + (r : Int)) = 1 + (r : Int) := IntWalk.i64_in _ (by omega)
  obtain ⟨k, hk⟩ : ∃ k : Nat, k = 1 + r := ⟨_, rfl⟩
  have hkI : 1 + (r : Int) = (k : Int) := by omega
  have HK := keep (show k ≤ 16 by omega)
  rw [hkI] at hwr1
  clear hk hr16
  go_enter Try.func7, Try.ntmps7
  go_wp2_with fail
  refine KA.out.mono ?_
  rintro e w1 ⟨rfl, hb1⟩
  have HB1 := keep hb1
  clear hb1
  go_wp2_with fail
  refine (KN.out _ HB1.out).mono ?_
  rintro e w2 ⟨g, rfl, h2⟩
  have HQ := keep (show FQ w g (LM 0) [] w2 from h2.out)
  clear h2 KN KA hr hwr1 hkI
  unfold ptr
  have hkI16 : (k : Int) ≤ 16 := by have := HK.out; omega
  go_wp2_with fail
  go_loopw [10] (fun pv wr => ∃ j : Nat, pv = .int .i64 (j : Int) ∧ j ≤ 3 ∧ Hid (FQ w g (LM j) [] wr)) (fun pv _ => 3 - (intOf pv).toNat)
  case atStart => exact ⟨0, rfl, Nat.zero_le _, HQ⟩
  case round =>
    obtain ⟨j, rfl, hj, hQ⟩ := hrel
    by_cases hlt : j < 3
    · have hltI : (j : Int) < 3 := by omega
      have KJ := keep (Listen_q hQ.out (j : Int))
      rw [lm_ok hlt] at KJ
      unfold ptr at KJ
      have HLT := keep hlt
      clear hlt hQ
      go_wp2_with fail
      refine KJ.out.mono ?_
      rintro e w6 ⟨rfl, hQ6, _⟩
      go_wp2_with fail
      go_roundw
      case rel => exact ⟨j + 1, by simp, HLT.out, hQ6⟩
      all_goals (have := HLT.out; simp [intOf]; omega)
    · obtain rfl : j = 3 := by omega
      have H0 := keep (show LQ w g a b 0 wr from ⟨_, hQ.out, MS.start a b⟩)
      rw [show ((3 : Nat) : Int) = 3 from rfl]
      clear hlt hQ HQ
      go_wp2_with fail
      rename World => ws
      go_loopw [11] (fun iv wr => ∃ i : Nat, iv = .int .i64 (i : Int) ∧ i ≤ k ∧ Hid (LQ w g a b i wr)) (fun iv _ => k - (intOf iv).toNat)
      case atStart => exact ⟨0, rfl, Nat.zero_le _, H0⟩
      case round =>
        obtain ⟨i, rfl, hi, hQi⟩ := hrel
        by_cases hik : i < k
        · have hikI : (i : Int) < (k : Int) := by omega
          have hi16 : i < 16 := by have := HK.out; omega
          obtain ⟨sa, hsa⟩ : ∃ sa, sa = (a + (i : Int)) % 65536 := ⟨_, rfl⟩
          obtain ⟨sb, hsb⟩ : ∃ sb, sb = (b + 2 * (i : Int)) % 65536 := ⟨_, rfl⟩
          have KX := keep (lq_a hQi.out hi16 sa hsa)
          unfold ptr at KX
          have hw1 : IntKind.u16.wrap (i : Int) = (i : Int) := by rw [wrap_u16]; omega
          have hw2 : IntKind.u16.wrap (a + (i : Int)) = sa := by rw [wrap_u16, hsa]
          have hw3 : IntKind.i64.wrap (2 * (i : Int)) = 2 * (i : Int) := IntWalk.i64_in _ (by omega)
          have hw4 : IntKind.u16.wrap (2 * (i : Int)) = 2 * (i : Int) := by rw [wrap_u16]; omega
          have hw5 : IntKind.u16.wrap (b + 2 * (i : Int)) = sb := by rw [wrap_u16, hsb]
          have HIK := keep (And.intro hik (And.intro hi16 hsb))
          clear hik hi16 hsa hsb hQi
          go_wp2_with fail
          refine KX.out.mono ?_
          rintro e w7 ⟨⟨x7, rfl⟩, hQ7⟩
          have KY := keep (lq_b hQ7.out HIK.out.2.1 sb HIK.out.2.2)
          unfold ptr at KY
          clear KX hQ7
          go_wp2_with fail
          refine KY.out.mono ?_
          rintro e w8 ⟨⟨x8, rfl⟩, hQ8⟩
          clear KY
          go_wp2_with fail
          go_roundw
          case rel => exact ⟨i + 1, by simp, HIK.out.1, hQ8⟩
          all_goals (have := HIK.out.1; simp [intOf]; omega)
        · obtain rfl : i = k := by omega
          have HP0 := keep (show PQ w g i (rst i 0 0) wr from by
            obtain ⟨M, q1, q2⟩ := hQi.out
            exact ⟨M, q1, by unfold rst; rw [if_pos rfl]; exact q2.ps⟩)
          clear hik hQi H0
          go_wp2_with fail
          rename World => wt
          go_loopw [12, 13] (fun xv yv wr => ∃ x y : Nat, xv = .int .i64 (x : Int) ∧ yv = .int .i64 (y : Int) ∧ (y = x ∨ y + 1 = x) ∧ x ≤ i ∧ Hid (PQ w g i (rst i x y) wr)) (fun xv yv _ => 2 * i + 1 - ((intOf xv).toNat + (intOf yv).toNat))
          case atStart => exact ⟨0, 0, rfl, rfl, .inl rfl, Nat.zero_le _, HP0⟩
          case round =>
            obtain ⟨x, y, rfl, rfl, hxy, hxi, hP⟩ := hrel
            have KP := keep (pq_pull hP.out)
            unfold ptr at KP
            by_cases hend : y = i
            · obtain rfl : x = y := by omega
              subst hend
              rw [rst_end] at KP
              have KW := keep (fun W h => (pq_wait (w := w) (W := W) (g := g) (k := x) (l := []) h))
              unfold ptr at KW
              dsimp only [List.headD, List.isEmpty, Bool.not_true, List.drop, pkZ] at KP
              clear hP hxy hxi HP0
              go_wp2_with fail
              refine KP.out.mono ?_
              rintro e w7 ⟨A, n7, c7, rfl, hQ7⟩
              have HQ8 := keep (hQ7.out.step (below_lay w7 (.cells #[.bool false, .int .u8 0, .int .u16 0, .int .u32 0, .int .u32 0, .slice A n7 c7] 26)))
              have KW0 := keep (KW.out _ HQ8.out).1
              have KW1 := keep (KW.out _ HQ8.out).2
              have HBL := keep HQ8.out.bl
              clear KP KW hQ7 HQ8
              go_wp2_with (first | (go_at_call_of 21 (Value.int IntKind.i64 0); have _ := KW0; refine KW0.out.mono ?_; clear KW0; rintro e w9 ⟨rfl, rfl⟩) | (go_at_call 21; refine KW1.out.mono ?_; rintro e w9 ⟨rfl, rfl⟩))
              go_ret
              exact ⟨by simp, HBL.out⟩
            · rcases hxy with rfl | hxy
              · obtain ⟨r1, r2⟩ := rst_lt (k := i) (x := y) (by omega)
                rw [r1] at KP
                dsimp only [List.headD, List.isEmpty, Bool.not_false, List.drop, hdA] at KP
                have HXI := keep (show y < i by omega)
                have hyI : (y : Int) ≤ 16 := by have := HK.out; omega
                have hw1 : IntKind.i64.wrap ((y : Int) + 1) = (y : Int) + 1 := IntWalk.i64_in _ (by omega)
                have hw2 : IntKind.i64.wrap (y : Int) = (y : Int) := IntWalk.i64_in _ (by omega)
                clear hP hxi HP0 hend r1 r2
                go_wp2_with fail
                refine KP.out.mono ?_
                rintro e w7 ⟨A, n7, c7, rfl, hQ7⟩
                have HQ8 := keep (hQ7.out.step (below_lay w7 (.cells #[.bool false, .int .u8 0, .int .u16 (y : Int), .int .u32 0, .int .u32 1, .slice A n7 c7] 26)))
                clear KP hQ7
                go_wp2_with fail
                go_roundw
                case rel => exact ⟨y + 1, y, by simp, by simp, .inr rfl, HXI.out, HQ8⟩
                all_goals (have := HXI.out; simp [intOf]; omega)
              · subst hxy
                obtain ⟨r1, r2⟩ := rst_lt (k := i) (x := y) (by omega)
                rw [r2] at KP
                dsimp only [List.headD, List.isEmpty, Bool.not_false, List.drop, hdB] at KP
                have HXI := keep (show y < i by omega)
                have hyI : (y : Int) ≤ 16 := by have := HK.out; omega
                have hw1 : IntKind.i64.wrap ((y : Int) + 1) = (y : Int) + 1 := IntWalk.i64_in _ (by omega)
                have hw2 : IntKind.i64.wrap (2 * (y : Int)) = 2 * (y : Int) := IntWalk.i64_in _ (by omega)
                clear hP hxi HP0 hend r1 r2
                go_wp2_with fail
                refine KP.out.mono ?_
                rintro e w7 ⟨A, n7, c7, rfl, hQ7⟩
                have HQ8 := keep (hQ7.out.step (below_lay w7 (.cells #[.bool false, .int .u8 0, .int .u16 (2 * (y : Int)), .int .u32 0, .int .u32 2, .slice A n7 c7] 26)))
                clear KP hQ7
                go_wp2_with fail
                go_roundw
                case rel => exact ⟨y + 1, y + 1, by simp, by simp, .inl rfl, HXI.out, HQ8⟩
                all_goals (have := HXI.out; simp [intOf]; omega)
end Go.Proofs.Ytacmfoljbjdcjaa
