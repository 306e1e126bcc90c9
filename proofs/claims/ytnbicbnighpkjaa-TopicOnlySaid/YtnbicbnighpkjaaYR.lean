/- Law 19: who did not subscribe gets nothing: the walk (TopicOnly). -/
import Derived.Test.YtnbicbnighpkjaaYQ
namespace Go.Proofs.Ytnbicbnighpkjaa
open Go.RowKit Go.Maps
set_option linter.unusedVariables false
set_option linter.unusedSimpArgs false

theorem oq_join {w W : World} {b j : Nat} (h : ∃ M, RQ w b M W ∧ OP (J5 j) M ∧ M.u ≤ j) (hj : j < 5) : Calls Try.prog 22 #[ptr b, .int .i64 (j : Int)] W fun e w' => e = .returned (.int .i64 0) ∧ Hid (∃ M, RQ w b M w' ∧ OP (J5 (j + 1)) M ∧ M.u ≤ j + 1) := by
  obtain ⟨M, h1, h2, h3⟩ := h
  obtain ⟨e1, e2, e3⟩ := h2.join hj h3
  have K := Join_q h1 (wf_nat (n := j) (by omega)) (by omega)
  rw [e1] at K
  exact K.mono fun e w' ⟨k1, k2⟩ => ⟨k1, keep ⟨_, k2.out, e2, e3⟩⟩
set_option maxHeartbeats 16000000 in
set_option maxRecDepth 1000000 in
theorem topicOnly_walk (a b : ByteArray) (B : Option Addr) (m d : Nat) (bs : List UInt8) (w : World) (ha0 : a.size ≤ maxLen) (hb0 : b.size ≤ maxLen) (hB : BS w B m d bs) :
    Calls Try.prog 7 #[.string a, .string b, .slice B m d] w fun e w' => e = .returned (.bool true) ∧ Below w.heap.size w w' := by
  have KA := keep (awake_any w)
  clear ha0 hb0
  by_cases hab : a = b
  · subst hab
    clear hB
    go_enter Try.func7, Try.ntmps7
    go_wp2_with fail
    refine KA.out.mono ?_
    rintro e w1 ⟨rfl, hb1⟩
    go_wp2
    go_ret
    exact ⟨rfl, hb1⟩
  have hsq : (a.toList == b.toList) = false := by
    cases h : (a.toList == b.toList) with
    | false => rfl
    | true => exact absurd (sq_iff.1 h) hab
  by_cases ha : a.size = 0
  · obtain rfl := txt_nil ha
    clear hB hab ha
    go_enter Try.func7, Try.ntmps7
    go_wp2_with fail
    refine KA.out.mono ?_
    rintro e w1 ⟨rfl, hb1⟩
    clear hsq
    go_wp2
    all_goals (go_ret; exact ⟨rfl, hb1⟩)
  obtain ⟨p1, p2, p3⟩ := txt_ne (s := a) (by omega)
  by_cases hb : b.size = 0
  · obtain rfl := txt_nil hb
    clear hB hab ha hb
    go_enter Try.func7, Try.ntmps7
    go_wp2_with fail
    refine KA.out.mono ?_
    rintro e w1 ⟨rfl, hb1⟩
    go_wp2
    go_ret
    exact ⟨rfl, hb1⟩
  obtain ⟨q1, q2, q3⟩ := txt_ne (s := b) (by omega)
  by_cases la : 256 < a.size
  · have laI : (256 : Int) < (a.size : Int) := by omega
    clear hB hab ha hb la
    go_enter Try.func7, Try.ntmps7
    go_wp2_with fail
    refine KA.out.mono ?_
    rintro e w1 ⟨rfl, hb1⟩
    go_wp2
    go_ret
    exact ⟨rfl, hb1⟩
  have laI : ¬ (256 : Int) < (a.size : Int) := by omega
  by_cases lb : 256 < b.size
  · have lbI : (256 : Int) < (b.size : Int) := by omega
    clear hB hab ha hb la lb
    go_enter Try.func7, Try.ntmps7
    go_wp2_with fail
    refine KA.out.mono ?_
    rintro e w1 ⟨rfl, hb1⟩
    go_wp2
    go_ret
    exact ⟨rfl, hb1⟩
  have lbI : ¬ (256 : Int) < (b.size : Int) := by omega
  by_cases lm : 1000 < m
  · have lmI : (1000 : Int) < (m : Int) := by omega
    clear hB hab ha hb la lb lm
    go_enter Try.func7, Try.ntmps7
    go_wp2_with fail
    refine KA.out.mono ?_
    rintro e w1 ⟨rfl, hb1⟩
    go_wp2
    go_ret
    exact ⟨rfl, hb1⟩
  have lmI : ¬ (1000 : Int) < (m : Int) := by omega
  have da : decide ((256 : Int) < (a.size : Int)) = false := decide_eq_false laI
  have db : decide ((256 : Int) < (b.size : Int)) = false := decide_eq_false lbI
  have dm : decide ((1000 : Int) < (m : Int)) = false := decide_eq_false lmI
  have HS := keep (show (0 < a.size ∧ a.size ≤ 256) ∧ (0 < b.size ∧ b.size ≤ 256) ∧ a ≠ b ∧ m ≤ 1000 from ⟨by omega, by omega, hab, by omega⟩)
  have HB := keep hB
  have KN := keep fun W (hb : Below w.heap.size w W) => New_q (w := w) 5 9 hb
  rw [show clampT 5 16 = 5 from rfl, show clampT 9 64 = 9 from rfl] at KN
  clear hB hab ha hb la lb lm
  go_enter Try.func7, Try.ntmps7
  go_wp2_with fail
  refine KA.out.mono ?_
  rintro e w1 ⟨rfl, hb1⟩
  have HB1 := keep hb1
  clear hb1
  go_wp2_with fail
  refine (KN.out _ HB1.out).mono ?_
  rintro e w2 ⟨g, rfl, h2⟩
  have HQ := keep (show ∃ M, RQ w g M w2 ∧ OP (J5 0) M ∧ M.u ≤ 0 from ⟨_, h2.out, ⟨rfl, rfl, Nat.zero_le _, rfl, fun _ => rfl⟩, Nat.le_refl _⟩)
  clear h2 KN KA
  unfold ptr
  go_wp2_with fail
  go_loopw [9] (fun pv wr => ∃ j : Nat, pv = .int .i64 (j : Int) ∧ j ≤ 5 ∧ Hid (∃ M, RQ w g M wr ∧ OP (J5 j) M ∧ M.u ≤ j)) (fun pv _ => 5 - (intOf pv).toNat)
  case atStart => exact ⟨0, rfl, Nat.zero_le _, HQ⟩
  case round =>
    obtain ⟨j, rfl, hj, hQ⟩ := hrel
    by_cases hlt : j < 5
    · have hltI : (j : Int) < 5 := by omega
      have KJ := keep (oq_join hQ.out hlt)
      unfold ptr at KJ
      have HLT := keep hlt
      clear hlt hQ
      go_wp2_with fail
      refine KJ.out.mono ?_
      rintro e w3 ⟨rfl, hQ3⟩
      go_wp2_with fail
      go_roundw
      case rel => exact ⟨j + 1, by simp, HLT.out, hQ3⟩
      all_goals (have := HLT.out; simp [intOf]; omega)
    · obtain rfl : j = 5 := by omega
      have H0 := keep (show OQ w g (J5 5) wr from by obtain ⟨M, k1, k2, _⟩ := hQ.out; exact ⟨M, k1, k2⟩)
      clear hlt hQ HQ
      go_wp2_with fail
      have K0 := keep (oq_sub (x := J5 5) H0.out (n := 0) (by decide) rfl HS.out.1 (md := 0) ⟨by decide, by decide⟩)
      unfold ptr at K0
      rw [show ((0 : Nat) : Int) = 0 from rfl] at K0
      refine K0.out.mono ?_
      rintro e w10 ⟨rfl, H1⟩
      clear K0
      go_wp2_with fail
      have K1 := keep (oq_sub H1.out (n := 1) (by decide) rfl HS.out.2.1 (md := 0) ⟨by decide, by decide⟩)
      unfold ptr at K1
      rw [show ((1 : Nat) : Int) = 1 from rfl] at K1
      refine K1.out.mono ?_
      rintro e w11 ⟨rfl, H2⟩
      clear K1
      go_wp2_with fail
      have K2 := keep (oq_sub H2.out (n := 2) (by decide) rfl HS.out.1 (md := 0) ⟨by decide, by decide⟩)
      unfold ptr at K2
      rw [show ((2 : Nat) : Int) = 2 from rfl] at K2
      refine K2.out.mono ?_
      rintro e w12 ⟨rfl, H3⟩
      clear K2
      go_wp2_with fail
      have K3 := keep (oq_drop H3.out (n := 2) (by decide) (y := X1 a 0) rfl (s := a) (by rw [x1_same]; rfl) HS.out.1.2)
      unfold ptr at K3
      rw [show ((2 : Nat) : Int) = 2 from rfl] at K3
      refine K3.out.mono ?_
      rintro e w13 ⟨rfl, H4⟩
      clear K3
      go_wp2_with fail
      have K4 := keep (oq_sub H4.out (n := 3) (by decide) rfl HS.out.1 (md := 0) ⟨by decide, by decide⟩)
      unfold ptr at K4
      rw [show ((3 : Nat) : Int) = 3 from rfl] at K4
      refine K4.out.mono ?_
      rintro e w14 ⟨rfl, H5⟩
      clear K4
      go_wp2_with fail
      have K5 := keep (oq_leave H5.out (n := 3) (by decide) (y := X1 a 0) rfl)
      unfold ptr at K5
      rw [show ((3 : Nat) : Int) = 3 from rfl] at K5
      refine K5.out.mono ?_
      rintro e w15 ⟨rfl, H6⟩
      clear K5
      go_wp2_with fail
      have K6 := keep (oq_sub H6.out (n := 4) (by decide) rfl HS.out.1 (md := 2) ⟨by decide, by decide⟩)
      unfold ptr at K6
      rw [show ((4 : Nat) : Int) = 4 from rfl] at K6
      refine K6.out.mono ?_
      rintro e w16 ⟨rfl, H7⟩
      clear K6
      go_wp2_with fail
      obtain ⟨M, hM1, hM2⟩ := H7.out
      have HZ := keep (show OP (Z7 a b) M from hM2)
      have HM1 := keep hM1
      clear hM1 hM2 H0 H1 H2 H3 H4 H5 H6 H7
      have hbl := HB.out.len
      obtain ⟨f1, f2, f3, f4, f5⟩ := only_facts HS.out.2.2.1 HS.out.1 HZ.out (bs := bs) (by rw [← hbl]; exact HS.out.2.2.2)
      have KP := Publish_q HM1.out (p := 0) (by decide) (s := a) (by have := HS.out.1.2; omega) true (HB.out.step HM1.out.bl) (by have := HZ.out.u; omega)
      rw [f1, f2] at KP
      replace KP := keep KP
      have HF := keep (And.intro f3 (And.intro f4 f5))
      unfold ptr at KP
      clear f1 f2 f3 f4 f5 hbl
      refine KP.out.mono ?_
      rintro e w20 ⟨rfl, h20⟩
      clear KP
      go_wp2_with fail
      have KU := Pull_q h20.out (p := 4) (by decide)
      rw [HF.out.1, HF.out.2.1] at KU
      dsimp only at KU
      replace KU := keep KU
      unfold ptr at KU
      refine KU.out.mono ?_
      rintro e w21 ⟨A, n, c, rfl, hd21, h21⟩
      clear KU h20
      have hn : n = bs.length := hd21.out.len
      have hm : m = bs.length := HB.out.len
      have BOXB := below_lay w21 (.cells #[.string a, .int .i64 0, .int .i64 0, .bool true, .slice A n c] 49)
      have h22 := keep (h21.out.step BOXB)
      have k1 := run_bytes_str (P := Try.prog) (w21.alloc (.cells #[.string a, .int .i64 0, .int .i64 0, .bool true, .slice A n c] 49)) 30 5 Try.underlying30 Try.underlying5 A bs c (hd21.out.br.step BOXB) 9 Try.underlying9
      have k2 := run_bytes_str (P := Try.prog) (w21.alloc (.cells #[.string a, .int .i64 0, .int .i64 0, .bool true, .slice A n c] 49)) 30 5 Try.underlying30 Try.underlying5 B bs d (HB.out.br.step h22.out.bl) 9 Try.underlying9
      rw [← hn] at k1
      rw [← hm] at k2
      have HW := keep fun (q : Nat) (hq : q < 5) => (Waiting_q h22.out (p := (q : Int)) (wf_nat (n := q) (by omega))).mono fun e w' (hk : e = .returned (.int .i64 (waitN (pullM (pubM M 0 a true bs) 4) (q : Int) : Nat)) ∧ _ = w') => (⟨by rw [HF.out.2.2 q hq] at hk; exact hk.1, hk.2⟩ : e = Ending.returned (.int .i64 0) ∧ _ = w')
      have W0 := keep (HW.out 0 (by decide))
      have W1 := keep (HW.out 1 (by decide))
      have W2 := keep (HW.out 2 (by decide))
      have W3 := keep (HW.out 3 (by decide))
      have W4 := keep (HW.out 4 (by decide))
      rw [show ((0 : Nat) : Int) = 0 from rfl] at W0
      rw [show ((1 : Nat) : Int) = 1 from rfl] at W1
      rw [show ((2 : Nat) : Int) = 2 from rfl] at W2
      rw [show ((3 : Nat) : Int) = 3 from rfl] at W3
      rw [show ((4 : Nat) : Int) = 4 from rfl] at W4
      unfold ptr at W0 W1 W2 W3 W4
      clear HW BOXB hn hm hd21 h21
      go_wp2_with fail
      refine W0.out.mono ?_
      rintro e w30 ⟨rfl, rfl⟩
      go_wp2_with fail
      refine W1.out.mono ?_
      rintro e w31 ⟨rfl, rfl⟩
      go_wp2_with fail
      refine W2.out.mono ?_
      rintro e w32 ⟨rfl, rfl⟩
      go_wp2_with fail
      refine W3.out.mono ?_
      rintro e w33 ⟨rfl, rfl⟩
      go_wp2_with fail
      refine W4.out.mono ?_
      rintro e w34 ⟨rfl, rfl⟩
      go_wp2
      go_ret
      exact ⟨rfl, h22.out.bl⟩
end Go.Proofs.Ytnbicbnighpkjaa
