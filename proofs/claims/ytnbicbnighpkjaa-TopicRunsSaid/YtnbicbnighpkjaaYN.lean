/- Law 19: a run without a gap (TopicRuns). -/
import Derived.Test.YtnbicbnighpkjaaYM
namespace Go.Proofs.Ytnbicbnighpkjaa
open Go.RowKit Go.Maps
set_option linter.unusedVariables false
set_option linter.unusedSimpArgs false

def RR (w : World) (b rm nx q cnt : Nat) (fl : Bool) (W : World) : Prop := ∃ M, RQ w b M W ∧ RM rm nx q cnt fl M
section
variable {w W W' : World} {b rm nx q cnt : Nat} {fl : Bool}
theorem RR.bl (h : RR w b rm nx q cnt fl W) : Below w.heap.size w W := by obtain ⟨M, h1, _⟩ := h; exact h1.bl
theorem RR.step (h : RR w b rm nx q cnt fl W) (hb : Below W.heap.size W W') : RR w b rm nx q cnt fl W' := by obtain ⟨M, h1, h2⟩ := h; exact ⟨M, h1.step hb, h2⟩
theorem RR.le (h : RR w b rm nx q cnt fl W) : nx ≤ q ∧ q ≤ cnt ∧ (fl = false → q = cnt) := by obtain ⟨M, _, h2⟩ := h; exact ⟨h2.le.1, h2.le.2, h2.ff⟩
theorem RR.rm_ (h : RR w b rm nx q cnt fl W) : 1 ≤ rm := by obtain ⟨M, h1, h2⟩ := h; have := h1.np.2.2.1; rw [h2.room] at this; exact this
theorem rr_pub (h : RR w b rm nx q cnt fl W) (hc : cnt ≤ 1000) {A : Option Addr} (hd : BS W A 1 1 [b8 (cnt : Int)]) :
    (fl = true → Calls Try.prog 26 #[ptr b, .int .i64 0, .string tS, .bool false, .slice A 1 1] W fun e w' => e = .returned (.tuple #[.int .i64 0, .int .i64 0]) ∧ Hid (RR w b rm nx q (cnt + 1) true w')) ∧
    (fl = false → q - nx < rm → Calls Try.prog 26 #[ptr b, .int .i64 0, .string tS, .bool false, .slice A 1 1] W fun e w' => e = .returned (.tuple #[.int .i64 1, .int .i64 0]) ∧ Hid (RR w b rm nx (cnt + 1) (cnt + 1) false w')) ∧
    (fl = false → ¬ q - nx < rm → Calls Try.prog 26 #[ptr b, .int .i64 0, .string tS, .bool false, .slice A 1 1] W fun e w' => e = .returned (.tuple #[.int .i64 0, .int .i64 0]) ∧ Hid (RR w b rm nx q (cnt + 1) true w')) := by
  have hrm := h.rm_
  obtain ⟨M, h1, h2⟩ := h
  obtain ⟨e1, p1, p2, p3⟩ := h2.pub hrm
  have K := Publish_q h1 (p := 0) (by decide) (s := tS) (by decide) false hd (by have := h2.u; omega)
  rw [show ([b8 (cnt : Int)] : List UInt8).length = 1 from rfl, e1] at K
  refine ⟨fun hf => ?_, fun hf hl => ?_, fun hf hl => ?_⟩
  · obtain ⟨g1, g2⟩ := p1 hf
    rw [g1] at K
    exact K.mono fun e w' ⟨k1, k2⟩ => ⟨k1, keep ⟨_, k2.out, g2⟩⟩
  · obtain ⟨g1, g2⟩ := p2 hf hl
    rw [g1] at K
    exact K.mono fun e w' ⟨k1, k2⟩ => ⟨k1, keep ⟨_, k2.out, g2⟩⟩
  · obtain ⟨g1, g2⟩ := p3 hf hl
    rw [g1] at K
    exact K.mono fun e w' ⟨k1, k2⟩ => ⟨k1, keep ⟨_, k2.out, g2⟩⟩
theorem rr_failed (h : RR w b rm nx q cnt fl W) : Calls Try.prog 16 #[ptr b, .int .i64 1, .string tS] W fun e w' => e = .returned (.bool fl) ∧ W = w' := by
  obtain ⟨M, h1, h2⟩ := h
  have K := Failed_q h1 (p := 1) (by decide) (s := tS) (by decide)
  rw [h2.failed] at K
  exact K
theorem rr_pull (h : RR w b rm nx q cnt fl W) : (nx < q → Calls Try.prog 27 #[ptr b, .int .i64 1] W fun e w' => ∃ A c, e = .returned (.tuple #[.agg #[.string tS, .int .i64 0, .int .i64 (nx : Int), .bool false, .slice A 1 c], .bool true]) ∧ Hid (BS w' A 1 c [b8 (nx : Int)]) ∧ Hid (RR w b rm (nx + 1) q cnt fl w')) ∧
    (¬ nx < q → Calls Try.prog 27 #[ptr b, .int .i64 1] W fun e w' => ∃ A n c, e = .returned (.tuple #[.agg #[.string ⟨#[]⟩, .int .i64 0, .int .i64 0, .bool false, .slice A n c], .bool false]) ∧ Hid (RR w b rm nx q cnt fl w')) := by
  obtain ⟨M, h1, h2⟩ := h
  have K := Pull_q h1 (p := 1) (by decide)
  refine ⟨fun hl => ?_, fun hl => ?_⟩
  · obtain ⟨e1, e2, e3⟩ := h2.pull hl
    rw [e1, e2] at K
    exact K.mono fun e w' ⟨A, n, c, k1, k2, k3⟩ => by
      have hn : n = 1 := k2.out.len
      subst hn
      exact ⟨A, c, k1, k2, keep ⟨_, k3.out, e3⟩⟩
  · obtain ⟨e1, e2, e3, e4⟩ := h2.none_ hl
    rw [e1, e2, e3] at K
    exact K.mono fun e w' ⟨A, n, c, k1, k2, k3⟩ => ⟨A, n, c, k1, keep ⟨_, k3.out, h2⟩⟩
theorem rr_count (h : RR w b rm nx q cnt fl W) : Calls Try.prog 20 #[ptr b, .string tS] W fun e w' => e = .returned (.int .i64 (cnt : Int)) ∧ W = w' := by
  obtain ⟨M, h1, h2⟩ := h
  have K := Count_q h1 (s := tS) (by decide)
  rw [h2.nn] at K
  exact K
end

set_option maxHeartbeats 16000000 in
set_option maxRecDepth 1000000 in
theorem topicRuns_walk (room : Int) (A : Option Addr) (n c : Nat) (zs : List Int) (nn : Int) (w : World) (hr : (Lit.int .i64 room).wf = true) (hA : NS .i64 w A n c zs) (hn : (Lit.int .i64 nn).wf = true) :
    Calls Try.prog 5 #[.int .i64 room, .slice A n c, .int .i64 nn] w fun e w' => e = .returned (.bool true) ∧ Below w.heap.size w w' := by
  have KA := keep (awake_any w)
  obtain ⟨k, hk, hk128⟩ : ∃ k : Nat, bits .and .i64 nn 127 = (k : Int) ∧ k < 128 := by
    have := and_i64 nn 7 (by decide)
    refine ⟨(nn % 128).toNat, this.trans ?_, by omega⟩
    show nn % 128 = _
    omega
  by_cases h200 : n ≤ 200
  case neg =>
    have h200I : (200 : Int) < (n : Int) := by omega
    clear hA hn hr h200 hk128
    go_enter Try.func5, Try.ntmps5
    go_wp2_with fail
    refine KA.out.mono ?_
    rintro e w1 ⟨rfl, hb1⟩
    go_wp2
    go_ret
    exact ⟨rfl, hb1⟩
  have h200I : ¬ (200 : Int) < (n : Int) := by omega
  have hd200 : decide ((200 : Int) < (n : Int)) = false := decide_eq_false h200I
  obtain ⟨rm, hrm⟩ : ∃ rm, clampT room 64 = rm := ⟨_, rfl⟩
  have KN := keep fun W (hb : Below w.heap.size w W) => New_q (w := w) 3 room hb
  rw [show clampT 3 16 = 3 from rfl, hrm] at KN
  have K1 := keep fun b W (h : RQ w b (newM 3 rm) W) => Join_q h wf0 (by rw [(r0_facts rm).2.2.1]; decide)
  rw [(r0_facts rm).1] at K1
  have K2 := keep fun b W (h : RQ w b (joinM (newM 3 rm) 0) W) => Join_q h wf1 (by rw [(r0_facts rm).2.2.2.1]; decide)
  rw [(r0_facts rm).2.1] at K2
  have K3 := keep fun b W A (h : RQ w b (R0 rm) W) (hd : BS W A 1 1 [b8 0]) => Publish_q h wf0 (s := tS) (by decide) false hd (by rw [(r0_facts rm).2.2.2.2]; decide)
  rw [(r1_is rm).2.1, show ([b8 0] : List UInt8).length = 1 from rfl, (r1_is rm).1] at K3
  have K4 := keep fun b W (h : RQ w b (R1 rm) W) => Subscribe_q h wf1 (s := tS) (by decide) 0
  rw [(r2_rm rm).1] at K4
  have HA := keep hA
  have HK := keep hk128
  have HN := keep h200
  have hkI : (k : Int) < 128 := by omega
  clear hA hn hr h200 hk128 hrm
  unfold ptr at K1 K2 KN
  unfold ptr tS at K3 K4
  go_enter Try.func5, Try.ntmps5
  go_wp2_with fail
  refine KA.out.mono ?_
  rintro e w1 ⟨rfl, hb1⟩
  have HB1 := keep hb1
  clear hb1
  go_wp2_with fail
  refine (KN.out _ HB1.out).mono ?_
  rintro e w2 ⟨b, rfl, h2⟩
  go_wp2_with fail
  refine (K1.out b w2 h2.out).mono ?_
  rintro e w3 ⟨rfl, h3⟩
  go_wp2_with fail
  refine (K2.out b w3 h3.out).mono ?_
  rintro e w4 ⟨rfl, h4⟩
  go_wp2_with fail
  have hbs := BS.laid w4 5 [0] (by simp)
  have h4' := keep (h4.out.step (below_lay w4 (.cells #[.int .u8 0] 5)))
  refine (K3.out b _ _ h4'.out hbs).mono ?_
  rintro e w5 ⟨rfl, h5⟩
  clear hbs
  go_wp2_with fail
  refine (K4.out b w5 h5.out).mono ?_
  rintro e w6 ⟨rfl, h6⟩
  have HQ := keep (show RR w b rm 1 1 1 false w6 from ⟨_, h6.out, (r2_rm rm).2⟩)
  clear K1 K2 K3 K4 KN KA h2 h3 h4 h4' h5 h6
  go_wp2_with fail
  go_loopw [12, 10, 11] (fun iv nv ev wr => ∃ (t nx q : Nat) (fl : Bool) (en : Int), iv = .int .i64 ((t : Int) + 1) ∧ nv = .int .i64 (nx : Int) ∧ ev = .int .i64 en ∧ t ≤ k ∧ Hid (en = if fl = true then (q : Int) else -1) ∧ Hid (RR w b rm nx q (t + 1) fl wr)) (fun iv _ _ _ => k + 1 - (intOf iv).toNat)
  case atStart => exact ⟨0, 1, 1, false, -1, by simp, by simp, by simp, Nat.zero_le _, keep rfl, HQ⟩
  case round =>
    obtain ⟨t, nx, q, fl, en, rfl, rfl, rfl, ht, hen, hR⟩ := hrel
    by_cases hlt : t < k
    · have hltI : (t : Int) + 1 ≤ (k : Int) := by omega
      have hle := hR.out.le
      have HLT := keep hlt
      have hkk := HK.out
      have hw8 : IntKind.u8.wrap ((t : Int) + 1) = (t : Int) + 1 := by rw [show IntKind.u8.wrap ((t : Int) + 1) = ((t : Int) + 1) % 256 from rfl]; omega
      have hm8 : ((t : Int) + 1) % 256 = (t : Int) + 1 := by omega
      have hbs := BS.laid wr 5 [((t : Int) + 1)] (by intro x hx; rw [List.mem_singleton.1 hx]; omega)
      have hR1 := hR.out.step (below_lay wr (.cells #[.int .u8 ((t : Int) + 1)] 5))
      obtain ⟨P1, P2, P3⟩ := rr_pub hR1 (by omega) (A := some ⟨wr.heap.size, 0, none⟩) hbs
      have HTL := keep (show t + 1 ≤ 200 by omega)
      have ht0 : (0 : Int) ≤ (t : Int) := by omega
      cases fl with
      | true =>
        obtain rfl : en = (q : Int) := hen.out
        have KP := keep (P1 rfl)
        have hqI : ¬ (q : Int) < 0 := by omega
        have hqI2 : (0 : Int) ≤ (q : Int) := by omega
        have HEN := keep (show (q : Int) = if true = true then (q : Int) else -1 from rfl)
        unfold ptr tS at KP
        have HLE := keep hle
        have HKK := keep (show t + 1 < 128 by omega)
        clear P1 P2 P3 hR hR1 hbs hen hle hlt hkk
        go_wp2_with fail
        refine KP.out.mono ?_
        rintro e w6 ⟨rfl, hR6⟩
        clear KP
        have KF := keep (rr_failed hR6.out)
        unfold ptr tS at KF
        go_wp2_with fail
        refine KF.out.mono ?_
        rintro e w8 ⟨rfl, rfl⟩
        clear KF
        have HR2 := hR6
        by_cases htn : t < n
        · obtain ⟨bb, o, z, rfl, hbb, hcell, hz, hzw⟩ := HA.out.at_ htn
          obtain ⟨mm, hmm, hmm4⟩ : ∃ mm : Nat, bits .and .i64 z 3 = (mm : Int) ∧ mm < 4 := by
            have := and_i64 z 2 (by decide)
            refine ⟨(z % 4).toNat, this.trans ?_, by omega⟩
            show z % 4 = _
            omega
          have htnI : (t : Int) + 1 ≤ (n : Int) := by omega
          have htnJ : (t : Int) < (n : Int) := by omega
          have hcw := (HR2.out.bl.cell (p := ⟨bb, o + t, none⟩) hbb).trans hcell
          have HMM := keep hmm4
          have hmmI : (mm : Int) < 4 := by omega
          clear hcell hz hzw htn hbb hmm4
          go_wp2_with fail
          rename World => wxfm
          go_loopw [16, 10] (fun jv nv wr2 => ∃ (j nx2 : Nat), jv = .int .i64 (j : Int) ∧ nv = .int .i64 (nx2 : Int) ∧ j ≤ mm ∧ Hid (RR w b rm nx2 q (t + 1 + 1) true wr2)) (fun jv _ _ => mm - (intOf jv).toNat)
          case atStart => exact ⟨0, nx, by simp, rfl, Nat.zero_le _, HR2⟩
          case round =>
            obtain ⟨j, nx2, rfl, rfl, hj, hR2⟩ := hrel
            by_cases hjl : j < mm
            · have hjI : (j : Int) < (mm : Int) := by omega
              have HJ := keep hjl
              obtain ⟨U1, U2⟩ := rr_pull hR2.out
              have hle2 := hR2.out.le
              by_cases hnq : nx2 < q
              · have KU := keep (U1 hnq)
                have hnx : nx2 ≤ 200 := by have := HTL.out; omega
                have hb8 : ((b8 (nx2 : Int)).toNat : Int) = (nx2 : Int) := b8_of _ (by omega) (by have := HKK.out; omega)
                have hu8 : IntKind.u8.wrap (nx2 : Int) = (nx2 : Int) := by rw [show IntKind.u8.wrap (nx2 : Int) = (nx2 : Int) % 256 from rfl]; have := HKK.out; omega
                have hu9 : (nx2 : Int) % 256 = (nx2 : Int) := by have := HKK.out; omega
                have HB8 := keep hb8
                have hnI : (nx2 : Int) ≤ 200 := by omega
                unfold ptr tS at KU
                clear U1 U2 hnq hle2 hnx hb8 hjl
                go_wp2_with fail
                refine KU.out.mono ?_
                rintro e w7 ⟨A7, c7, rfl, hd7, hR7⟩
                obtain ⟨b7, o7, rfl, hb7l, hc7⟩ := hd7.out.br.at_ (j := 0) (by simp)
                have HR8 := keep (hR7.out.step (below_lay w7 (.cells #[.string ⟨#[116]⟩, .int .i64 0, .int .i64 (nx2 : Int), .bool false, .slice (some ⟨b7, o7, none⟩) 1 c7] 49)))
                have hc8 := ((below_lay w7 (.cells #[.string ⟨#[116]⟩, .int .i64 0, .int .i64 (nx2 : Int), .bool false, .slice (some ⟨b7, o7, none⟩) 1 c7] 49)).cell (p := ⟨b7, o7 + 0, none⟩) hb7l).trans hc7
                rw [show ([b8 (nx2 : Int)] : List UInt8)[0] = b8 (nx2 : Int) from rfl, HB8.out, Nat.add_zero] at hc8
                clear hc7 hb7l
                go_wp2_with fail
                go_roundw
                case rel => exact ⟨j + 1, nx2 + 1, by simp, by simp, HJ.out, HR8⟩
                all_goals (have := HJ.out; simp [intOf]; omega)
              · have KU := keep (U2 hnq)
                unfold ptr at KU
                clear U1 U2 hnq hle2 hjl
                go_wp2_with fail
                refine KU.out.mono ?_
                rintro e w7 ⟨A7, n7, c7, rfl, hR7⟩
                have HR8 := keep (hR7.out.step (below_lay w7 (.cells #[.string ⟨#[]⟩, .int .i64 0, .int .i64 0, .bool false, .slice A7 n7 c7] 49)))
                go_wp2_with fail
                go_roundw
                case rel => exact ⟨t + 1, nx2, q, true, (q : Int), by simp, rfl, rfl, HLT.out, keep HEN.out, HR8⟩
                all_goals (have := HLT.out; simp [intOf]; omega)
            · obtain rfl : j = mm := by omega
              clear hjl
              go_wp2_with fail
              go_roundw
              case rel => exact ⟨t + 1, nx2, q, true, (q : Int), by simp, rfl, rfl, HLT.out, keep HEN.out, hR2⟩
              all_goals (have := HLT.out; simp [intOf]; omega)
        · have htnI : ¬ (t : Int) + 1 ≤ (n : Int) := by omega
          clear htn
          go_wp2_with fail
          rename World => wxf0
          go_loopw [16, 10] (fun jv nv wr2 => ∃ (j nx2 : Nat), jv = .int .i64 (j : Int) ∧ nv = .int .i64 (nx2 : Int) ∧ j ≤ 0 ∧ Hid (RR w b rm nx2 q (t + 1 + 1) true wr2)) (fun jv _ _ => 0 - (intOf jv).toNat)
          case atStart => exact ⟨0, nx, by simp, rfl, Nat.zero_le _, HR2⟩
          case round =>
            obtain ⟨j, nx2, rfl, rfl, hj, hR2⟩ := hrel
            by_cases hjl : j < 0
            · exact absurd hjl (Nat.not_lt_zero _)
            · obtain rfl : j = 0 := by omega
              clear hjl
              go_wp2_with fail
              go_roundw
              case rel => exact ⟨t + 1, nx2, q, true, (q : Int), by simp, rfl, rfl, HLT.out, keep HEN.out, hR2⟩
              all_goals (have := HLT.out; simp [intOf]; omega)

      | false =>
        by_cases hroom : q - nx < rm
        · obtain rfl : en = -1 := hen.out
          have KP := keep (P2 rfl hroom)
          have HEN := keep (show (-1 : Int) = if false = true then ((t + 1 + 1 : Nat) : Int) else -1 from rfl)
          unfold ptr tS at KP
          have HLE := keep hle
          have HKK := keep (show t + 1 < 128 by omega)
          clear P1 P2 P3 hR hR1 hbs hen hle hlt hkk hroom
          go_wp2_with fail
          refine KP.out.mono ?_
          rintro e w6 ⟨rfl, hR6⟩
          clear KP
          have HR2 := hR6
          by_cases htn : t < n
          · obtain ⟨bb, o, z, rfl, hbb, hcell, hz, hzw⟩ := HA.out.at_ htn
            obtain ⟨mm, hmm, hmm4⟩ : ∃ mm : Nat, bits .and .i64 z 3 = (mm : Int) ∧ mm < 4 := by
              have := and_i64 z 2 (by decide)
              refine ⟨(z % 4).toNat, this.trans ?_, by omega⟩
              show z % 4 = _
              omega
            have htnI : (t : Int) + 1 ≤ (n : Int) := by omega
            have htnJ : (t : Int) < (n : Int) := by omega
            have hcw := (HR2.out.bl.cell (p := ⟨bb, o + t, none⟩) hbb).trans hcell
            have HMM := keep hmm4
            have hmmI : (mm : Int) < 4 := by omega
            clear hcell hz hzw htn hbb hmm4
            go_wp2_with fail
            rename World => wxrm
            go_loopw [16, 10] (fun jv nv wr2 => ∃ (j nx2 : Nat), jv = .int .i64 (j : Int) ∧ nv = .int .i64 (nx2 : Int) ∧ j ≤ mm ∧ Hid (RR w b rm nx2 (t + 1 + 1) (t + 1 + 1) false wr2)) (fun jv _ _ => mm - (intOf jv).toNat)
            case atStart => exact ⟨0, nx, by simp, rfl, Nat.zero_le _, HR2⟩
            case round =>
              obtain ⟨j, nx2, rfl, rfl, hj, hR2⟩ := hrel
              by_cases hjl : j < mm
              · have hjI : (j : Int) < (mm : Int) := by omega
                have HJ := keep hjl
                obtain ⟨U1, U2⟩ := rr_pull hR2.out
                have hle2 := hR2.out.le
                by_cases hnq : nx2 < (t + 1 + 1)
                · have KU := keep (U1 hnq)
                  have hnx : nx2 ≤ 200 := by have := HTL.out; omega
                  have hb8 : ((b8 (nx2 : Int)).toNat : Int) = (nx2 : Int) := b8_of _ (by omega) (by have := HKK.out; omega)
                  have hu8 : IntKind.u8.wrap (nx2 : Int) = (nx2 : Int) := by rw [show IntKind.u8.wrap (nx2 : Int) = (nx2 : Int) % 256 from rfl]; have := HKK.out; omega
                  have hu9 : (nx2 : Int) % 256 = (nx2 : Int) := by have := HKK.out; omega
                  have HB8 := keep hb8
                  have hnI : (nx2 : Int) ≤ 200 := by omega
                  unfold ptr tS at KU
                  clear U1 U2 hnq hle2 hnx hb8 hjl
                  go_wp2_with fail
                  refine KU.out.mono ?_
                  rintro e w7 ⟨A7, c7, rfl, hd7, hR7⟩
                  obtain ⟨b7, o7, rfl, hb7l, hc7⟩ := hd7.out.br.at_ (j := 0) (by simp)
                  have HR8 := keep (hR7.out.step (below_lay w7 (.cells #[.string ⟨#[116]⟩, .int .i64 0, .int .i64 (nx2 : Int), .bool false, .slice (some ⟨b7, o7, none⟩) 1 c7] 49)))
                  have hc8 := ((below_lay w7 (.cells #[.string ⟨#[116]⟩, .int .i64 0, .int .i64 (nx2 : Int), .bool false, .slice (some ⟨b7, o7, none⟩) 1 c7] 49)).cell (p := ⟨b7, o7 + 0, none⟩) hb7l).trans hc7
                  rw [show ([b8 (nx2 : Int)] : List UInt8)[0] = b8 (nx2 : Int) from rfl, HB8.out, Nat.add_zero] at hc8
                  clear hc7 hb7l
                  go_wp2_with fail
                  go_roundw
                  case rel => exact ⟨j + 1, nx2 + 1, by simp, by simp, HJ.out, HR8⟩
                  all_goals (have := HJ.out; simp [intOf]; omega)
                · have KU := keep (U2 hnq)
                  unfold ptr at KU
                  clear U1 U2 hnq hle2 hjl
                  go_wp2_with fail
                  refine KU.out.mono ?_
                  rintro e w7 ⟨A7, n7, c7, rfl, hR7⟩
                  have HR8 := keep (hR7.out.step (below_lay w7 (.cells #[.string ⟨#[]⟩, .int .i64 0, .int .i64 0, .bool false, .slice A7 n7 c7] 49)))
                  go_wp2_with fail
                  go_roundw
                  case rel => exact ⟨t + 1, nx2, (t + 1 + 1), false, (-1 : Int), by simp, rfl, rfl, HLT.out, keep HEN.out, HR8⟩
                  all_goals (have := HLT.out; simp [intOf]; omega)
              · obtain rfl : j = mm := by omega
                clear hjl
                go_wp2_with fail
                go_roundw
                case rel => exact ⟨t + 1, nx2, (t + 1 + 1), false, (-1 : Int), by simp, rfl, rfl, HLT.out, keep HEN.out, hR2⟩
                all_goals (have := HLT.out; simp [intOf]; omega)
          · have htnI : ¬ (t : Int) + 1 ≤ (n : Int) := by omega
            clear htn
            go_wp2_with fail
            rename World => wxr0
            go_loopw [16, 10] (fun jv nv wr2 => ∃ (j nx2 : Nat), jv = .int .i64 (j : Int) ∧ nv = .int .i64 (nx2 : Int) ∧ j ≤ 0 ∧ Hid (RR w b rm nx2 (t + 1 + 1) (t + 1 + 1) false wr2)) (fun jv _ _ => 0 - (intOf jv).toNat)
            case atStart => exact ⟨0, nx, by simp, rfl, Nat.zero_le _, HR2⟩
            case round =>
              obtain ⟨j, nx2, rfl, rfl, hj, hR2⟩ := hrel
              by_cases hjl : j < 0
              · exact absurd hjl (Nat.not_lt_zero _)
              · obtain rfl : j = 0 := by omega
                clear hjl
                go_wp2_with fail
                go_roundw
                case rel => exact ⟨t + 1, nx2, (t + 1 + 1), false, (-1 : Int), by simp, rfl, rfl, HLT.out, keep HEN.out, hR2⟩
                all_goals (have := HLT.out; simp [intOf]; omega)

        · obtain rfl : en = -1 := hen.out
          have KP := keep (P3 rfl hroom)
          have HEN := keep (show (t : Int) + 1 = if true = true then (q : Int) else -1 from by rw [if_pos rfl]; have := hle.2.2 rfl; omega)
          unfold ptr tS at KP
          have HLE := keep hle
          have HKK := keep (show t + 1 < 128 by omega)
          clear P1 P2 P3 hR hR1 hbs hen hle hlt hkk hroom
          go_wp2_with fail
          refine KP.out.mono ?_
          rintro e w6 ⟨rfl, hR6⟩
          clear KP
          have KF := keep (rr_failed hR6.out)
          unfold ptr tS at KF
          go_wp2_with fail
          refine KF.out.mono ?_
          rintro e w8 ⟨rfl, rfl⟩
          clear KF
          have HR2 := hR6
          by_cases htn : t < n
          · obtain ⟨bb, o, z, rfl, hbb, hcell, hz, hzw⟩ := HA.out.at_ htn
            obtain ⟨mm, hmm, hmm4⟩ : ∃ mm : Nat, bits .and .i64 z 3 = (mm : Int) ∧ mm < 4 := by
              have := and_i64 z 2 (by decide)
              refine ⟨(z % 4).toNat, this.trans ?_, by omega⟩
              show z % 4 = _
              omega
            have htnI : (t : Int) + 1 ≤ (n : Int) := by omega
            have htnJ : (t : Int) < (n : Int) := by omega
            have hcw := (HR2.out.bl.cell (p := ⟨bb, o + t, none⟩) hbb).trans hcell
            have HMM := keep hmm4
            have hmmI : (mm : Int) < 4 := by omega
            clear hcell hz hzw htn hbb hmm4
            go_wp2_with fail
            rename World => wxum
            go_loopw [16, 10] (fun jv nv wr2 => ∃ (j nx2 : Nat), jv = .int .i64 (j : Int) ∧ nv = .int .i64 (nx2 : Int) ∧ j ≤ mm ∧ Hid (RR w b rm nx2 q (t + 1 + 1) true wr2)) (fun jv _ _ => mm - (intOf jv).toNat)
            case atStart => exact ⟨0, nx, by simp, rfl, Nat.zero_le _, HR2⟩
            case round =>
              obtain ⟨j, nx2, rfl, rfl, hj, hR2⟩ := hrel
              by_cases hjl : j < mm
              · have hjI : (j : Int) < (mm : Int) := by omega
                have HJ := keep hjl
                obtain ⟨U1, U2⟩ := rr_pull hR2.out
                have hle2 := hR2.out.le
                by_cases hnq : nx2 < q
                · have KU := keep (U1 hnq)
                  have hnx : nx2 ≤ 200 := by have := HTL.out; omega
                  have hb8 : ((b8 (nx2 : Int)).toNat : Int) = (nx2 : Int) := b8_of _ (by omega) (by have := HKK.out; omega)
                  have hu8 : IntKind.u8.wrap (nx2 : Int) = (nx2 : Int) := by rw [show IntKind.u8.wrap (nx2 : Int) = (nx2 : Int) % 256 from rfl]; have := HKK.out; omega
                  have hu9 : (nx2 : Int) % 256 = (nx2 : Int) := by have := HKK.out; omega
                  have HB8 := keep hb8
                  have hnI : (nx2 : Int) ≤ 200 := by omega
                  unfold ptr tS at KU
                  clear U1 U2 hnq hle2 hnx hb8 hjl
                  go_wp2_with fail
                  refine KU.out.mono ?_
                  rintro e w7 ⟨A7, c7, rfl, hd7, hR7⟩
                  obtain ⟨b7, o7, rfl, hb7l, hc7⟩ := hd7.out.br.at_ (j := 0) (by simp)
                  have HR8 := keep (hR7.out.step (below_lay w7 (.cells #[.string ⟨#[116]⟩, .int .i64 0, .int .i64 (nx2 : Int), .bool false, .slice (some ⟨b7, o7, none⟩) 1 c7] 49)))
                  have hc8 := ((below_lay w7 (.cells #[.string ⟨#[116]⟩, .int .i64 0, .int .i64 (nx2 : Int), .bool false, .slice (some ⟨b7, o7, none⟩) 1 c7] 49)).cell (p := ⟨b7, o7 + 0, none⟩) hb7l).trans hc7
                  rw [show ([b8 (nx2 : Int)] : List UInt8)[0] = b8 (nx2 : Int) from rfl, HB8.out, Nat.add_zero] at hc8
                  clear hc7 hb7l
                  go_wp2_with fail
                  go_roundw
                  case rel => exact ⟨j + 1, nx2 + 1, by simp, by simp, HJ.out, HR8⟩
                  all_goals (have := HJ.out; simp [intOf]; omega)
                · have KU := keep (U2 hnq)
                  unfold ptr at KU
                  clear U1 U2 hnq hle2 hjl
                  go_wp2_with fail
                  refine KU.out.mono ?_
                  rintro e w7 ⟨A7, n7, c7, rfl, hR7⟩
                  have HR8 := keep (hR7.out.step (below_lay w7 (.cells #[.string ⟨#[]⟩, .int .i64 0, .int .i64 0, .bool false, .slice A7 n7 c7] 49)))
                  go_wp2_with fail
                  go_roundw
                  case rel => exact ⟨t + 1, nx2, q, true, ((t : Int) + 1), by simp, rfl, rfl, HLT.out, keep HEN.out, HR8⟩
                  all_goals (have := HLT.out; simp [intOf]; omega)
              · obtain rfl : j = mm := by omega
                clear hjl
                go_wp2_with fail
                go_roundw
                case rel => exact ⟨t + 1, nx2, q, true, ((t : Int) + 1), by simp, rfl, rfl, HLT.out, keep HEN.out, hR2⟩
                all_goals (have := HLT.out; simp [intOf]; omega)
          · have htnI : ¬ (t : Int) + 1 ≤ (n : Int) := by omega
            clear htn
            go_wp2_with fail
            rename World => wxu0
            go_loopw [16, 10] (fun jv nv wr2 => ∃ (j nx2 : Nat), jv = .int .i64 (j : Int) ∧ nv = .int .i64 (nx2 : Int) ∧ j ≤ 0 ∧ Hid (RR w b rm nx2 q (t + 1 + 1) true wr2)) (fun jv _ _ => 0 - (intOf jv).toNat)
            case atStart => exact ⟨0, nx, by simp, rfl, Nat.zero_le _, HR2⟩
            case round =>
              obtain ⟨j, nx2, rfl, rfl, hj, hR2⟩ := hrel
              by_cases hjl : j < 0
              · exact absurd hjl (Nat.not_lt_zero _)
              · obtain rfl : j = 0 := by omega
                clear hjl
                go_wp2_with fail
                go_roundw
                case rel => exact ⟨t + 1, nx2, q, true, ((t : Int) + 1), by simp, rfl, rfl, HLT.out, keep HEN.out, hR2⟩
                all_goals (have := HLT.out; simp [intOf]; omega)

    · obtain rfl : t = k := by omega
      have hgtI : ¬ (t : Int) + 1 ≤ (t : Int) := by omega
      have HR := keep hR.out
      have HEN := keep hen.out
      clear hlt hR hen
      go_wp2_with fail
      rename World => ws
      go_loopw [10] (fun nv wr2 => ∃ nx2 : Nat, nv = .int .i64 (nx2 : Int) ∧ Hid (RR w b rm nx2 q (t + 1) fl wr2)) (fun nv _ => q - (intOf nv).toNat)
      case atStart => exact ⟨nx, rfl, HR⟩
      case round =>
        obtain ⟨nx2, rfl, hR2⟩ := hrel
        obtain ⟨U1, U2⟩ := rr_pull hR2.out
        have hle2 := hR2.out.le
        have hkk := HK.out
        by_cases hnq : nx2 < q
        · have KU := keep (U1 hnq)
          have hnI : (nx2 : Int) ≤ 200 := by omega
          have HNQ := keep hnq
          unfold ptr tS at KU
          clear U1 U2 hnq hle2 hkk
          go_wp2_with fail
          refine KU.out.mono ?_
          rintro e w7 ⟨A7, c7, rfl, hd7, hR7⟩
          have HR8 := keep (hR7.out.step (below_lay w7 (.cells #[.string ⟨#[116]⟩, .int .i64 0, .int .i64 (nx2 : Int), .bool false, .slice A7 1 c7] 49)))
          go_wp2_with fail
          go_roundw
          case rel => exact ⟨nx2 + 1, by simp, HR8⟩
          all_goals (have := HNQ.out; simp [intOf]; omega)
        · have KU := keep (U2 hnq)
          have heq : nx2 = q := by omega
          subst heq
          have hq3 := hle2.2.2
          have hqb := hle2.2.1
          have HE := keep HEN.out
          have hqI : (nx2 : Int) ≤ 200 := by omega
          unfold ptr at KU
          cases fl with
          | true =>
            obtain rfl : en = (nx2 : Int) := HE.out
            have hnl : ¬ (nx2 : Int) < 0 := by omega
            clear U1 U2 hnq hle2 hkk hq3 hqb HE HEN HR
            go_wp2_with fail
            refine KU.out.mono ?_
            rintro e w7 ⟨A7, n7, c7, rfl, hR7⟩
            have HR8 := keep (hR7.out.step (below_lay w7 (.cells #[.string ⟨#[]⟩, .int .i64 0, .int .i64 0, .bool false, .slice A7 n7 c7] 49)))
            have KC := keep (rr_count HR8.out)
            unfold ptr tS at KC
            have HBL := keep HR8.out.bl
            go_wp2_with fail
            refine KC.out.mono ?_
            rintro e w8 ⟨rfl, rfl⟩
            go_wp2
            go_ret
            exact ⟨rfl, HBL.out⟩
          | false =>
            obtain rfl : en = -1 := HE.out
            have hq4 := hq3 rfl
            have hq5 : (nx2 : Int) = (t : Int) + 1 := by omega
            subst hq4
            clear U1 U2 hnq hle2 hkk hq3 hqb HE HEN HR
            go_wp2_with fail
            refine KU.out.mono ?_
            rintro e w7 ⟨A7, n7, c7, rfl, hR7⟩
            have HR8 := keep (hR7.out.step (below_lay w7 (.cells #[.string ⟨#[]⟩, .int .i64 0, .int .i64 0, .bool false, .slice A7 n7 c7] 49)))
            have KC := keep (rr_count HR8.out)
            unfold ptr tS at KC
            have HBL := keep HR8.out.bl
            go_wp2_with fail
            refine KC.out.mono ?_
            rintro e w8 ⟨rfl, rfl⟩
            go_wp2
            go_ret
            exact ⟨rfl, HBL.out⟩
end Go.Proofs.Ytnbicbnighpkjaa
