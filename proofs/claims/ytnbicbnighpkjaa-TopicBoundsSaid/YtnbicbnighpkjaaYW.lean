/- Law 19: no queue is too long: the walk (TopicBounds). -/
import Derived.Test.YtnbicbnighpkjaaYV
import Derived.BigQuiet
import Derived.Deep.RegionHeld3
namespace Go.Proofs.Ytnbicbnighpkjaa
open Go.RowKit Go.Maps
set_option linter.unusedVariables false
set_option linter.unusedSimpArgs false

set_option maxHeartbeats 32000000 in
set_option maxRecDepth 1000000 in
theorem topicBounds_low (a : Int) (A : Option Addr) (n c : Nat) (l : List TO) (w : World) (hZ : TSt w A n c l) (hcase : a < 1) :
    Calls Try.prog 4 #[.int .i64 a, .slice A n c] w fun e w' => e = .returned (.bool true) ∧ Below w.heap.size w w' := by
  have KA := keep (awake_any w)
  have HZ := keep hZ
  have HNL := keep hZ.1.1
  have HCL := keep (show clampT a 64 = 64 from by unfold clampT; rw [if_pos (.inl hcase)])
  have hc1 : a < 1 := hcase
  clear hZ hcase
  have KN := keep fun W (hb : Below w.heap.size w W) => New_q (w := w) 4 a hb
  rw [show clampT 4 16 = 4 from rfl] at KN
  go_enter Try.func4, Try.ntmps4
  go_wp2_with fail
  refine KA.out.mono ?_
  rintro e w1 ⟨rfl, hb1⟩
  have HB1 := keep hb1
  clear hb1
  go_wp2_with fail
  refine (few_any (HZ.out.step HB1.out)).mono ?_
  rintro e w2 ⟨⟨r, rfl, hr⟩, rfl⟩
  cases r with
  | false =>
    go_wp2
    go_ret
    exact ⟨rfl, HB1.out⟩
  | true =>
    have HN150 := keep (hr.out rfl).1
    have HTX := keep (hr.out rfl).2
    have hnI : (n : Int) ≤ 150 := by have := HN150.out; omega
    clear hr
    go_wp2_with fail
    refine (KN.out _ HB1.out).mono ?_
    rintro e w3 ⟨g, rfl, h3⟩
    have HQ := keep (show ∃ M, RQ w g M w3 ∧ TB a 0 M from ⟨_, h3.out, rfl, rfl, Nat.le_refl _⟩)
    clear h3 KN KA
    unfold ptr
    go_wp2_with fail
    go_loopw [8, 9, 10, 11] (fun iv _ _ _ wr => ∃ j : Nat, iv = .int .i64 (j : Int) ∧ j ≤ n ∧ Hid (∃ M, RQ w g M wr ∧ TB a j M)) (fun iv _ _ _ _ => n - (intOf iv).toNat)
    case atStart => exact ⟨0, rfl, Nat.zero_le _, HQ⟩
    case round =>
      obtain ⟨j, rfl, hj, HR⟩ := hrel
      clear HQ
      by_cases hlt : j < n
      · obtain ⟨b, o, x, rfl, _, hlj, hxv, _, _, _, _, _, _⟩ := HZ.out.at_ hlt
        have HXV := keep hxv
        have HXT := keep (HTX.out x (List.mem_of_getElem? hlj))
        have HD := keep (show ∀ W, Below w.heap.size w W → W.cell? ⟨b, o + j * 6, none⟩ = some (.int .i64 x.wh) ∧ W.cell? ⟨b, o + j * 6 + 1, none⟩ = some (.int .i64 x.p) ∧ W.cell? ⟨b, o + j * 6 + 2, none⟩ = some (.int .i64 x.md) ∧ W.cell? ⟨b, o + j * 6 + 3, none⟩ = some (.string x.tp) ∧ W.cell? ⟨b, o + j * 6 + 4, none⟩ = some (.bool x.tx) ∧ W.cell? ⟨b, o + j * 6 + 5, none⟩ = some (.slice x.da.1 x.da.2.1 x.da.2.2) from fun W hb => by
          obtain ⟨g', o', x', e1, _, e2, _, h0, h1, h2, h3, h4, h5⟩ := (HZ.out.step hb).at_ hlt
          rw [hlj] at e2
          injection e2 with e2
          injection e1 with e1
          injection e1 with e1 e3
          subst e1 e2 e3
          exact ⟨h0, h1, h2, h3, h4, h5⟩)
        obtain ⟨xw, xp, xm, xt, xx, ⟨l1, l2, l3⟩, xb⟩ := x
        dsimp only at HD HXT
        have hjI : (j : Int) < (n : Int) := by omega
        have hj0 : (0 : Int) ≤ (j : Int) := by omega
        have HLT := keep hlt
        obtain ⟨M, hM1, hM2⟩ := HR.out
        have HM1 := keep hM1
        have HM2 := keep hM2
        obtain ⟨d0, d1, d2, d3, d4, d5⟩ := HD.out _ HM1.out.bl
        clear hlj hxv hlt hj HR hM1 hM2
        by_cases h0 : xw = 0
        · subst h0
          as_aux_lemma =>
          have KJ := keep (Join_q HM1.out HXV.out.p (by have := HM2.out.u; have := HLT.out; have := HN150.out; omega))
          unfold ptr at KJ
          go_wp2_with fail
          refine KJ.out.mono ?_
          rintro e w5 ⟨rfl, h5⟩
          have HN := keep (show ∃ M', RQ w g M' w5 ∧ TB a (j + 1) M' from ⟨_, h5.out, HM2.out.join _⟩)
          clear KJ h5 d0 d1 d2 d3 d4 d5
          go_wp2_with fail
          go_loopw [11] (fun qv wr2 => ∃ q : Nat, qv = .int .i64 (q : Int) ∧ q ≤ 4 ∧ Hid (∃ M', RQ w g M' wr2 ∧ TB a (j + 1) M')) (fun qv _ => 4 - (intOf qv).toNat)
          case atStart => exact ⟨0, rfl, Nat.zero_le _, HN⟩
          case round =>
            obtain ⟨q, rfl, hq, HW⟩ := hrel
            by_cases hq4 : q < 4
            · obtain ⟨M', hW1, hW2⟩ := HW.out
              have KW := keep (Waiting_q hW1 (p := (q : Int)) (wf_nat (n := q) (by omega)))
              have KL := keep (Lost_q hW1 (p := (q : Int)) (wf_nat (n := q) (by omega)))
              have hwt := hW2.wait hW1 (q : Int)
              rw [HCL.out] at hwt
              obtain ⟨wn, hwn⟩ : ∃ wn, waitN M' (q : Int) = wn := ⟨_, rfl⟩
              obtain ⟨ln, hln⟩ : ∃ ln, lostN M' (q : Int) = ln := ⟨_, rfl⟩
              rw [hwn] at KW hwt
              rw [hln] at KL
              have hwI : ¬ (64 : Int) < (wn : Int) := by omega
              have hlI : ¬ (ln : Int) < 0 := by omega
              have hqI : (q : Int) < 4 := by omega
              have HQ4 := keep hq4
              unfold ptr at KW KL
              clear hW1 hW2 hwt hwn hln hq hq4
              go_wp2_with fail
              refine KW.out.mono ?_
              rintro e w8 ⟨rfl, rfl⟩
              go_wp2_with fail
              refine KL.out.mono ?_
              rintro e w9 ⟨rfl, rfl⟩
              go_wp2_with fail
              go_roundw
              case rel => exact ⟨q + 1, by simp, HQ4.out, HW⟩
              all_goals (have := HQ4.out; simp [intOf]; omega)
            · obtain rfl : q = 4 := by omega
              clear hq hq4 HN
              go_wp2_with fail
              go_roundw
              case rel => exact ⟨j + 1, by simp, HLT.out, HW⟩
              all_goals (have := HLT.out; simp [intOf]; omega)
        have hz0 : (xw == 0) = false := by simpa using h0
        by_cases h1 : xw = 1
        · subst h1
          as_aux_lemma =>
          have KJ := Leave_q HM1.out HXV.out.p
          obtain ⟨z, hz⟩ : ∃ z, leaveE M xp = z := ⟨_, rfl⟩
          have HLW := keep (fun (h : z = 0) => leave_wait M xp (hz.trans h))
          rw [hz] at KJ
          replace KJ := keep KJ
          unfold ptr at KJ
          clear hz
          by_cases hz0 : z = 0
          · have hlw := HLW.out hz0
            subst hz0
            go_wp2_with fail
            refine KJ.out.mono ?_
            rintro e w5 ⟨rfl, h5⟩
            obtain ⟨_, d1', _, _, _, _⟩ := HD.out _ h5.out.bl
            have HN := keep (show ∃ M', RQ w g M' w5 ∧ TB a (j + 1) M' from ⟨_, h5.out, HM2.out.leave _⟩)
            have KW := Waiting_q h5.out HXV.out.p
            rw [hlw] at KW
            replace KW := keep KW
            unfold ptr at KW
            clear KJ h5 d0 d1 d2 d3 d4 d5 HLW hlw
            go_wp2_with fail
            refine KW.out.mono ?_
            rintro e w6 ⟨rfl, rfl⟩
            clear KW d1'
            go_wp2_with fail
            go_loopw [11] (fun qv wr2 => ∃ q : Nat, qv = .int .i64 (q : Int) ∧ q ≤ 4 ∧ Hid (∃ M', RQ w g M' wr2 ∧ TB a (j + 1) M')) (fun qv _ => 4 - (intOf qv).toNat)
            case atStart => exact ⟨0, rfl, Nat.zero_le _, HN⟩
            case round =>
              obtain ⟨q, rfl, hq, HW⟩ := hrel
              by_cases hq4 : q < 4
              · obtain ⟨M', hW1, hW2⟩ := HW.out
                have KW := keep (Waiting_q hW1 (p := (q : Int)) (wf_nat (n := q) (by omega)))
                have KL := keep (Lost_q hW1 (p := (q : Int)) (wf_nat (n := q) (by omega)))
                have hwt := hW2.wait hW1 (q : Int)
                rw [HCL.out] at hwt
                obtain ⟨wn, hwn⟩ : ∃ wn, waitN M' (q : Int) = wn := ⟨_, rfl⟩
                obtain ⟨ln, hln⟩ : ∃ ln, lostN M' (q : Int) = ln := ⟨_, rfl⟩
                rw [hwn] at KW hwt
                rw [hln] at KL
                have hwI : ¬ (64 : Int) < (wn : Int) := by omega
                have hlI : ¬ (ln : Int) < 0 := by omega
                have hqI : (q : Int) < 4 := by omega
                have HQ4 := keep hq4
                unfold ptr at KW KL
                clear hW1 hW2 hwt hwn hln hq hq4
                go_wp2_with fail
                refine KW.out.mono ?_
                rintro e w8 ⟨rfl, rfl⟩
                go_wp2_with fail
                refine KL.out.mono ?_
                rintro e w9 ⟨rfl, rfl⟩
                go_wp2_with fail
                go_roundw
                case rel => exact ⟨q + 1, by simp, HQ4.out, HW⟩
                all_goals (have := HQ4.out; simp [intOf]; omega)
              · obtain rfl : q = 4 := by omega
                clear hq hq4 HN
                go_wp2_with fail
                go_roundw
                case rel => exact ⟨j + 1, by simp, HLT.out, HW⟩
                all_goals (have := HLT.out; simp [intOf]; omega)
          · go_wp2_with fail
            refine KJ.out.mono ?_
            rintro e w5 ⟨rfl, h5⟩
            have HN := keep (show ∃ M', RQ w g M' w5 ∧ TB a (j + 1) M' from ⟨_, h5.out, HM2.out.leave _⟩)
            clear KJ h5 d0 d1 d2 d3 d4 d5 HLW
            go_wp2_with fail
            go_loopw [11] (fun qv wr2 => ∃ q : Nat, qv = .int .i64 (q : Int) ∧ q ≤ 4 ∧ Hid (∃ M', RQ w g M' wr2 ∧ TB a (j + 1) M')) (fun qv _ => 4 - (intOf qv).toNat)
            case atStart => exact ⟨0, rfl, Nat.zero_le _, HN⟩
            case round =>
              obtain ⟨q, rfl, hq, HW⟩ := hrel
              by_cases hq4 : q < 4
              · obtain ⟨M', hW1, hW2⟩ := HW.out
                have KW := keep (Waiting_q hW1 (p := (q : Int)) (wf_nat (n := q) (by omega)))
                have KL := keep (Lost_q hW1 (p := (q : Int)) (wf_nat (n := q) (by omega)))
                have hwt := hW2.wait hW1 (q : Int)
                rw [HCL.out] at hwt
                obtain ⟨wn, hwn⟩ : ∃ wn, waitN M' (q : Int) = wn := ⟨_, rfl⟩
                obtain ⟨ln, hln⟩ : ∃ ln, lostN M' (q : Int) = ln := ⟨_, rfl⟩
                rw [hwn] at KW hwt
                rw [hln] at KL
                have hwI : ¬ (64 : Int) < (wn : Int) := by omega
                have hlI : ¬ (ln : Int) < 0 := by omega
                have hqI : (q : Int) < 4 := by omega
                have HQ4 := keep hq4
                unfold ptr at KW KL
                clear hW1 hW2 hwt hwn hln hq hq4
                go_wp2_with fail
                refine KW.out.mono ?_
                rintro e w8 ⟨rfl, rfl⟩
                go_wp2_with fail
                refine KL.out.mono ?_
                rintro e w9 ⟨rfl, rfl⟩
                go_wp2_with fail
                go_roundw
                case rel => exact ⟨q + 1, by simp, HQ4.out, HW⟩
                all_goals (have := HQ4.out; simp [intOf]; omega)
              · obtain rfl : q = 4 := by omega
                clear hq hq4 HN
                go_wp2_with fail
                go_roundw
                case rel => exact ⟨j + 1, by simp, HLT.out, HW⟩
                all_goals (have := HLT.out; simp [intOf]; omega)
        have hz1 : (xw == 1) = false := by simpa using h1
        by_cases h2 : xw = 2
        · subst h2
          as_aux_lemma =>
          have KJ := keep (fun W (hb : Below wr.heap.size wr W) => Subscribe_q (HM1.out.step hb) HXV.out.p (s := xt) HXT.out xm)
          unfold ptr at KJ
          go_wp2_with fail
          go_region_held3 (fun w' => w'.cell? ⟨b, o + j * 6 + 1, none⟩ = some (.int .i64 xp) ∧ w'.cell? ⟨b, o + j * 6 + 3, none⟩ = some (.string xt) ∧ w'.cell? ⟨b, o + j * 6 + 2, none⟩ = some (.int .i64 xm))
            (first | exact ⟨d1, d3, d2⟩ | exact s3)
            (first
            | (go_at_call 24; refine (KJ.out _ (Below.refl _ wr).drew).mono ?_
               rintro e w5 ⟨rfl, h5⟩
               have s3 := (And.intro (HD.out _ h5.out.bl).2.1 (And.intro (HD.out _ h5.out.bl).2.2.2.1 (HD.out _ h5.out.bl).2.2.1))))
          have HN := keep (show ∃ M', RQ w g M' w5 ∧ TB a (j + 1) M' from ⟨_, h5.out, HM2.out.sub _ _ _⟩)
          clear KJ h5 d0 d1 d2 d3 d4 d5
          go_wp2_with fail
          go_loopw [11] (fun qv wr2 => ∃ q : Nat, qv = .int .i64 (q : Int) ∧ q ≤ 4 ∧ Hid (∃ M', RQ w g M' wr2 ∧ TB a (j + 1) M')) (fun qv _ => 4 - (intOf qv).toNat)
          case atStart => exact ⟨0, rfl, Nat.zero_le _, HN⟩
          case round =>
            obtain ⟨q, rfl, hq, HW⟩ := hrel
            by_cases hq4 : q < 4
            · obtain ⟨M', hW1, hW2⟩ := HW.out
              have KW := keep (Waiting_q hW1 (p := (q : Int)) (wf_nat (n := q) (by omega)))
              have KL := keep (Lost_q hW1 (p := (q : Int)) (wf_nat (n := q) (by omega)))
              have hwt := hW2.wait hW1 (q : Int)
              rw [HCL.out] at hwt
              obtain ⟨wn, hwn⟩ : ∃ wn, waitN M' (q : Int) = wn := ⟨_, rfl⟩
              obtain ⟨ln, hln⟩ : ∃ ln, lostN M' (q : Int) = ln := ⟨_, rfl⟩
              rw [hwn] at KW hwt
              rw [hln] at KL
              have hwI : ¬ (64 : Int) < (wn : Int) := by omega
              have hlI : ¬ (ln : Int) < 0 := by omega
              have hqI : (q : Int) < 4 := by omega
              have HQ4 := keep hq4
              unfold ptr at KW KL
              clear hW1 hW2 hwt hwn hln hq hq4
              go_wp2_with fail
              refine KW.out.mono ?_
              rintro e w8 ⟨rfl, rfl⟩
              go_wp2_with fail
              refine KL.out.mono ?_
              rintro e w9 ⟨rfl, rfl⟩
              go_wp2_with fail
              go_roundw
              case rel => exact ⟨q + 1, by simp, HQ4.out, HW⟩
              all_goals (have := HQ4.out; simp [intOf]; omega)
            · obtain rfl : q = 4 := by omega
              clear hq hq4 HN
              go_wp2_with fail
              go_roundw
              case rel => exact ⟨j + 1, by simp, HLT.out, HW⟩
              all_goals (have := HLT.out; simp [intOf]; omega)
        have hz2 : (xw == 2) = false := by simpa using h2
        by_cases h3 : xw = 3
        · subst h3
          as_aux_lemma =>
          have KJ := keep (fun W (hb : Below wr.heap.size wr W) => Drop_q (HM1.out.step hb) HXV.out.p (s := xt) HXT.out)
          unfold ptr at KJ
          go_wp2_with fail
          go_region_held3 (fun w' => w'.cell? ⟨b, o + j * 6 + 1, none⟩ = some (.int .i64 xp) ∧ w'.cell? ⟨b, o + j * 6 + 3, none⟩ = some (.string xt))
            (first | exact ⟨d1, d3⟩ | exact s3)
            (first
            | (go_at_call 25; refine (KJ.out _ (Below.refl _ wr).drew).mono ?_
               rintro e w5 ⟨rfl, h5⟩
               have s3 := (And.intro (HD.out _ h5.out.bl).2.1 (HD.out _ h5.out.bl).2.2.2.1)))
          have HN := keep (show ∃ M', RQ w g M' w5 ∧ TB a (j + 1) M' from ⟨_, h5.out, HM2.out.drop _ _⟩)
          clear KJ h5 d0 d1 d2 d3 d4 d5
          go_wp2_with fail
          go_loopw [11] (fun qv wr2 => ∃ q : Nat, qv = .int .i64 (q : Int) ∧ q ≤ 4 ∧ Hid (∃ M', RQ w g M' wr2 ∧ TB a (j + 1) M')) (fun qv _ => 4 - (intOf qv).toNat)
          case atStart => exact ⟨0, rfl, Nat.zero_le _, HN⟩
          case round =>
            obtain ⟨q, rfl, hq, HW⟩ := hrel
            by_cases hq4 : q < 4
            · obtain ⟨M', hW1, hW2⟩ := HW.out
              have KW := keep (Waiting_q hW1 (p := (q : Int)) (wf_nat (n := q) (by omega)))
              have KL := keep (Lost_q hW1 (p := (q : Int)) (wf_nat (n := q) (by omega)))
              have hwt := hW2.wait hW1 (q : Int)
              rw [HCL.out] at hwt
              obtain ⟨wn, hwn⟩ : ∃ wn, waitN M' (q : Int) = wn := ⟨_, rfl⟩
              obtain ⟨ln, hln⟩ : ∃ ln, lostN M' (q : Int) = ln := ⟨_, rfl⟩
              rw [hwn] at KW hwt
              rw [hln] at KL
              have hwI : ¬ (64 : Int) < (wn : Int) := by omega
              have hlI : ¬ (ln : Int) < 0 := by omega
              have hqI : (q : Int) < 4 := by omega
              have HQ4 := keep hq4
              unfold ptr at KW KL
              clear hW1 hW2 hwt hwn hln hq hq4
              go_wp2_with fail
              refine KW.out.mono ?_
              rintro e w8 ⟨rfl, rfl⟩
              go_wp2_with fail
              refine KL.out.mono ?_
              rintro e w9 ⟨rfl, rfl⟩
              go_wp2_with fail
              go_roundw
              case rel => exact ⟨q + 1, by simp, HQ4.out, HW⟩
              all_goals (have := HQ4.out; simp [intOf]; omega)
            · obtain rfl : q = 4 := by omega
              clear hq hq4 HN
              go_wp2_with fail
              go_roundw
              case rel => exact ⟨j + 1, by simp, HLT.out, HW⟩
              all_goals (have := HLT.out; simp [intOf]; omega)
        have hz3 : (xw == 3) = false := by simpa using h3
        by_cases h4 : xw = 4
        · subst h4
          as_aux_lemma =>
          obtain ⟨c1, c2⟩ := HM2.out.pubC xp xt xx xb
          have KJ := (fun W (hb : Below wr.heap.size wr W) => Publish_q (HM1.out.step hb) HXV.out.p (s := xt) HXT.out xx ((HXV.out.bs.step HM1.out.bl).step hb) (by have := HM2.out.u; have := HLT.out; have := HN150.out; omega))
          obtain ⟨k, hk⟩ : ∃ k, pubC M xp xt xx xb = k := ⟨_, rfl⟩
          obtain ⟨z, hz⟩ : ∃ z, pubE M xp xt xb.length = z := ⟨_, rfl⟩
          rw [hk] at c1 c2
          rw [hz] at c2
          dsimp only at KJ
          simp only [hk, hz] at KJ
          replace KJ := keep KJ
          unfold ptr at KJ
          have hk0 : ¬ (k : Int) < 0 := by omega
          have hk3 : ¬ (3 : Int) < (k : Int) := by omega
          clear hk hz
          by_cases hz0 : z = 0
          · subst hz0
            clear c1 c2
            go_wp2_with fail
            go_region_held3 (fun w' => w'.cell? ⟨b, o + j * 6 + 1, none⟩ = some (.int .i64 xp) ∧ w'.cell? ⟨b, o + j * 6 + 3, none⟩ = some (.string xt) ∧ w'.cell? ⟨b, o + j * 6 + 4, none⟩ = some (.bool xx) ∧ w'.cell? ⟨b, o + j * 6 + 5, none⟩ = some (.slice l1 l2 l3))
              (first | exact ⟨d1, d3, d4, d5⟩ | exact s3)
              (first
              | (go_at_call 26; refine (KJ.out _ (Below.refl _ wr).drew).mono ?_
                 rintro e w5 ⟨rfl, h5⟩
                 have s3 := (And.intro (HD.out _ h5.out.bl).2.1 (And.intro (HD.out _ h5.out.bl).2.2.2.1 (And.intro (HD.out _ h5.out.bl).2.2.2.2.1 (HD.out _ h5.out.bl).2.2.2.2.2)))))
            have HN := keep (show ∃ M', RQ w g M' w5 ∧ TB a (j + 1) M' from ⟨_, h5.out, HM2.out.pub _ _ _ _⟩)
            clear KJ h5 d0 d1 d2 d3 d4 d5
            go_wp2_with fail
            go_loopw [11] (fun qv wr2 => ∃ q : Nat, qv = .int .i64 (q : Int) ∧ q ≤ 4 ∧ Hid (∃ M', RQ w g M' wr2 ∧ TB a (j + 1) M')) (fun qv _ => 4 - (intOf qv).toNat)
            case atStart => exact ⟨0, rfl, Nat.zero_le _, HN⟩
            case round =>
              obtain ⟨q, rfl, hq, HW⟩ := hrel
              by_cases hq4 : q < 4
              · obtain ⟨M', hW1, hW2⟩ := HW.out
                have KW := keep (Waiting_q hW1 (p := (q : Int)) (wf_nat (n := q) (by omega)))
                have KL := keep (Lost_q hW1 (p := (q : Int)) (wf_nat (n := q) (by omega)))
                have hwt := hW2.wait hW1 (q : Int)
                rw [HCL.out] at hwt
                obtain ⟨wn, hwn⟩ : ∃ wn, waitN M' (q : Int) = wn := ⟨_, rfl⟩
                obtain ⟨ln, hln⟩ : ∃ ln, lostN M' (q : Int) = ln := ⟨_, rfl⟩
                rw [hwn] at KW hwt
                rw [hln] at KL
                have hwI : ¬ (64 : Int) < (wn : Int) := by omega
                have hlI : ¬ (ln : Int) < 0 := by omega
                have hqI : (q : Int) < 4 := by omega
                have HQ4 := keep hq4
                unfold ptr at KW KL
                clear hW1 hW2 hwt hwn hln hq hq4
                go_wp2_with fail
                refine KW.out.mono ?_
                rintro e w8 ⟨rfl, rfl⟩
                go_wp2_with fail
                refine KL.out.mono ?_
                rintro e w9 ⟨rfl, rfl⟩
                go_wp2_with fail
                go_roundw
                case rel => exact ⟨q + 1, by simp, HQ4.out, HW⟩
                all_goals (have := HQ4.out; simp [intOf]; omega)
              · obtain rfl : q = 4 := by omega
                clear hq hq4 HN
                go_wp2_with fail
                go_roundw
                case rel => exact ⟨j + 1, by simp, HLT.out, HW⟩
                all_goals (have := HLT.out; simp [intOf]; omega)
          · obtain rfl := c2 hz0
            clear c1 c2 hk0 hk3
            go_wp2_with fail
            go_region_held3 (fun w' => w'.cell? ⟨b, o + j * 6 + 1, none⟩ = some (.int .i64 xp) ∧ w'.cell? ⟨b, o + j * 6 + 3, none⟩ = some (.string xt) ∧ w'.cell? ⟨b, o + j * 6 + 4, none⟩ = some (.bool xx) ∧ w'.cell? ⟨b, o + j * 6 + 5, none⟩ = some (.slice l1 l2 l3))
              (first | exact ⟨d1, d3, d4, d5⟩ | exact s3)
              (first
              | (go_at_call 26; refine (KJ.out _ (Below.refl _ wr).drew).mono ?_
                 rintro e w5 ⟨rfl, h5⟩
                 have s3 := (And.intro (HD.out _ h5.out.bl).2.1 (And.intro (HD.out _ h5.out.bl).2.2.2.1 (And.intro (HD.out _ h5.out.bl).2.2.2.2.1 (HD.out _ h5.out.bl).2.2.2.2.2)))))
            have HN := keep (show ∃ M', RQ w g M' w5 ∧ TB a (j + 1) M' from ⟨_, h5.out, HM2.out.pub _ _ _ _⟩)
            clear KJ h5 d0 d1 d2 d3 d4 d5
            go_wp2_with fail
            go_loopw [11] (fun qv wr2 => ∃ q : Nat, qv = .int .i64 (q : Int) ∧ q ≤ 4 ∧ Hid (∃ M', RQ w g M' wr2 ∧ TB a (j + 1) M')) (fun qv _ => 4 - (intOf qv).toNat)
            case atStart => exact ⟨0, rfl, Nat.zero_le _, HN⟩
            case round =>
              obtain ⟨q, rfl, hq, HW⟩ := hrel
              by_cases hq4 : q < 4
              · obtain ⟨M', hW1, hW2⟩ := HW.out
                have KW := keep (Waiting_q hW1 (p := (q : Int)) (wf_nat (n := q) (by omega)))
                have KL := keep (Lost_q hW1 (p := (q : Int)) (wf_nat (n := q) (by omega)))
                have hwt := hW2.wait hW1 (q : Int)
                rw [HCL.out] at hwt
                obtain ⟨wn, hwn⟩ : ∃ wn, waitN M' (q : Int) = wn := ⟨_, rfl⟩
                obtain ⟨ln, hln⟩ : ∃ ln, lostN M' (q : Int) = ln := ⟨_, rfl⟩
                rw [hwn] at KW hwt
                rw [hln] at KL
                have hwI : ¬ (64 : Int) < (wn : Int) := by omega
                have hlI : ¬ (ln : Int) < 0 := by omega
                have hqI : (q : Int) < 4 := by omega
                have HQ4 := keep hq4
                unfold ptr at KW KL
                clear hW1 hW2 hwt hwn hln hq hq4
                go_wp2_with fail
                refine KW.out.mono ?_
                rintro e w8 ⟨rfl, rfl⟩
                go_wp2_with fail
                refine KL.out.mono ?_
                rintro e w9 ⟨rfl, rfl⟩
                go_wp2_with fail
                go_roundw
                case rel => exact ⟨q + 1, by simp, HQ4.out, HW⟩
                all_goals (have := HQ4.out; simp [intOf]; omega)
              · obtain rfl : q = 4 := by omega
                clear hq hq4 HN
                go_wp2_with fail
                go_roundw
                case rel => exact ⟨j + 1, by simp, HLT.out, HW⟩
                all_goals (have := HLT.out; simp [intOf]; omega)
        have hz4 : (xw == 4) = false := by simpa using h4
        have KJ := keep (Pull_q HM1.out HXV.out.p)
        unfold ptr at KJ
        go_wp2_with fail
        refine KJ.out.mono ?_
        rintro e w5 ⟨A5, n5, c5, rfl, _, h5⟩
        have HN := keep (show ∃ M', RQ w g M' w5 ∧ TB a (j + 1) M' from ⟨_, h5.out, HM2.out.pull _⟩)
        clear KJ h5 d0 d1 d2 d3 d4 d5
        go_wp2_with fail
        go_loopw [11] (fun qv wr2 => ∃ q : Nat, qv = .int .i64 (q : Int) ∧ q ≤ 4 ∧ Hid (∃ M', RQ w g M' wr2 ∧ TB a (j + 1) M')) (fun qv _ => 4 - (intOf qv).toNat)
        case atStart => exact ⟨0, rfl, Nat.zero_le _, HN⟩
        case round =>
          obtain ⟨q, rfl, hq, HW⟩ := hrel
          by_cases hq4 : q < 4
          · obtain ⟨M', hW1, hW2⟩ := HW.out
            have KW := keep (Waiting_q hW1 (p := (q : Int)) (wf_nat (n := q) (by omega)))
            have KL := keep (Lost_q hW1 (p := (q : Int)) (wf_nat (n := q) (by omega)))
            have hwt := hW2.wait hW1 (q : Int)
            rw [HCL.out] at hwt
            obtain ⟨wn, hwn⟩ : ∃ wn, waitN M' (q : Int) = wn := ⟨_, rfl⟩
            obtain ⟨ln, hln⟩ : ∃ ln, lostN M' (q : Int) = ln := ⟨_, rfl⟩
            rw [hwn] at KW hwt
            rw [hln] at KL
            have hwI : ¬ (64 : Int) < (wn : Int) := by omega
            have hlI : ¬ (ln : Int) < 0 := by omega
            have hqI : (q : Int) < 4 := by omega
            have HQ4 := keep hq4
            unfold ptr at KW KL
            clear hW1 hW2 hwt hwn hln hq hq4
            go_wp2_with fail
            refine KW.out.mono ?_
            rintro e w8 ⟨rfl, rfl⟩
            go_wp2_with fail
            refine KL.out.mono ?_
            rintro e w9 ⟨rfl, rfl⟩
            go_wp2_with fail
            go_roundw
            case rel => exact ⟨q + 1, by simp, HQ4.out, HW⟩
            all_goals (have := HQ4.out; simp [intOf]; omega)
          · obtain rfl : q = 4 := by omega
            clear hq hq4 HN
            go_wp2_with fail
            go_roundw
            case rel => exact ⟨j + 1, by simp, HLT.out, HW⟩
            all_goals (have := HLT.out; simp [intOf]; omega)
      · obtain rfl : j = n := by omega
        have H0 := keep (show Below w.heap.size w wr from by obtain ⟨M, h1, _⟩ := HR.out; exact h1.bl)
        clear hlt HR
        go_wp2_with fail
        go_ret
        exact ⟨rfl, H0.out⟩
end Go.Proofs.Ytnbicbnighpkjaa
