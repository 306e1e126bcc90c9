/- Law 19: an item is taken by as many as hear it (TopicMany). -/
import Derived.Test.YtnbicbnighpkjaaYJ
import Derived.Test.YtnbicbnighpkjaaBls
import Derived.Test.YtnbicbnighpkjaaBits
namespace Go.Proofs.Ytnbicbnighpkjaa
open Go.RowKit Go.Maps
set_option linter.unusedVariables false
set_option linter.unusedSimpArgs false

def hearF (bl : List Bool) (n : Nat) : Bool := bl.getD n false
def MQ (w : World) (b : Nat) (f : Nat → Bool) (j i : Nat) (W : World) : Prop := ∃ M, RQ w b M W ∧ MM f j i M
theorem MQ.bl {w W : World} {b j i : Nat} {f : Nat → Bool} (h : MQ w b f j i W) : Below w.heap.size w W := by obtain ⟨M, h1, _⟩ := h; exact h1.bl
theorem mq_join {w W : World} {b j : Nat} {f : Nat → Bool} (h : MQ w b f j 0 W) (hj : j < 16) (hf : f j = false) : Calls Try.prog 22 #[ptr b, .int .i64 (j : Int)] W fun e w' => e = .returned (.int .i64 0) ∧ Hid (MQ w b f (j + 1) 0 w') := by
  obtain ⟨M, h1, h2⟩ := h
  obtain ⟨e1, e2, _⟩ := h2.join hj
  exact (Join_q h1 (wf_nat (by omega)) (by have := h2.u; omega)).mono fun e w' ⟨g1, g2⟩ => ⟨by rw [e1] at g1; exact g1, keep ⟨_, g2.out, e2 hf⟩⟩
theorem mq_join2 {w W : World} {b j : Nat} {f : Nat → Bool} (h : MQ w b f j 0 W) (hj : j < 16) (hf : f j = true) : Calls Try.prog 22 #[ptr b, .int .i64 (j : Int)] W fun e w' => e = .returned (.int .i64 0) ∧ Hid (Below w.heap.size w w') ∧ Hid (Calls Try.prog 24 #[ptr b, .int .i64 (j : Int), .string tS, .int .i64 0] w' fun e w' => e = .returned (.int .i64 0) ∧ Hid (MQ w b f (j + 1) 0 w')) := by
  obtain ⟨M, h1, h2⟩ := h
  obtain ⟨e1, _, e2⟩ := h2.join hj
  obtain ⟨e3, e4⟩ := e2 hf
  refine (Join_q h1 (wf_nat (by omega)) (by have := h2.u; omega)).mono fun e w' ⟨g1, g2⟩ => ⟨by rw [e1] at g1; exact g1, keep g2.out.bl, keep ?_⟩
  exact (Subscribe_q g2.out (wf_nat (by omega)) (s := tS) (by decide) 0).mono fun e w' ⟨k1, k2⟩ => ⟨by rw [e3] at k1; exact k1, keep ⟨_, k2.out, e4⟩⟩
theorem mq_pub {w W : World} {b i : Nat} {f : Nat → Bool} (h : MQ w b f 16 i W) (hi : i < 64) (hf : f 15 = false) {c : Nat} (hc : cntF f 16 = c) (tx : Bool) {A : Option Addr} {n d : Nat} {bs : List UInt8} (hd : BS W A n d bs) (hb : n ≤ 1000) :
    Calls Try.prog 26 #[ptr b, .int .i64 15, .string tS, .bool tx, .slice A n d] W fun e w' => e = .returned (.tuple #[.int .i64 (c : Nat), .int .i64 0]) ∧ Hid (MQ w b f 16 (i + 1) w') := by
  obtain ⟨M, h1, h2⟩ := h
  obtain ⟨e1, e2, e3⟩ := h2.pub hi hf tx (bs := bs) (by rw [← hd.len]; omega)
  exact (Publish_q h1 (p := 15) (by decide) (s := tS) (by decide) tx hd (by have := h2.u; omega)).mono fun e w' ⟨g1, g2⟩ => ⟨by rw [e1, e2, hc] at g1; exact g1, keep ⟨_, g2.out, e3⟩⟩
theorem mq_wait {w W : World} {b i n : Nat} {f : Nat → Bool} (h : MQ w b f 16 i W) (hn : n < 16) : Calls Try.prog 19 #[ptr b, .int .i64 (n : Int)] W fun e w' => e = .returned (.int .i64 ((if f n = true then i else 0 : Nat) : Int)) ∧ W = w' := by
  obtain ⟨M, h1, h2⟩ := h
  exact (Waiting_q h1 (wf_nat (by omega))).mono fun e w' ⟨g1, g2⟩ => ⟨by rw [h2.wait hn] at g1; exact g1, g2⟩
theorem mq_count {w W : World} {b i : Nat} {f : Nat → Bool} (h : MQ w b f 16 i W) : Calls Try.prog 20 #[ptr b, .string tS] W fun e w' => e = .returned (.int .i64 (i : Int)) ∧ W = w' := by
  obtain ⟨M, h1, h2⟩ := h
  exact (Count_q h1 (s := tS) (by decide)).mono fun e w' ⟨g1, g2⟩ => ⟨by rw [h2.cnt] at g1; exact g1, g2⟩
set_option maxHeartbeats 8000000 in
set_option maxRecDepth 1000000 in
theorem topicMany_walk (A : Option Addr) (n c : Nat) (bl : List Bool) (nn : Int) (B : Option Addr) (m d : Nat) (bs : List UInt8) (w : World) (hA : LS w A n c bl) (hn : (Lit.int .i64 nn).wf = true) (hB : BS w B m d bs) :
    Calls Try.prog 9 #[.slice A n c, .int .i64 nn, .slice B m d] w fun e w' => e = .returned (.bool true) ∧ Below w.heap.size w w' := by
  have KA := keep (awake_any w)
  by_cases h15 : n ≤ 15
  case neg =>
    have h15I : (15 : Int) < (n : Int) := by omega
    clear hA hn hB h15
    go_enter Try.func9, Try.ntmps9
    go_wp2_with fail
    refine KA.out.mono ?_
    rintro e w1 ⟨rfl, hb1⟩
    go_wp2
    go_ret
    exact ⟨rfl, hb1⟩
  have h15I : ¬ (15 : Int) < (n : Int) := by omega
  by_cases hm : m ≤ 1000
  case neg =>
    have hmI : (1000 : Int) < (m : Int) := by omega
    clear hA hn hB h15 hm
    go_enter Try.func9, Try.ntmps9
    go_wp2_with fail
    refine KA.out.mono ?_
    rintro e w1 ⟨rfl, hb1⟩
    go_wp2
    go_ret
    exact ⟨rfl, hb1⟩
  have hmI : ¬ (1000 : Int) < (m : Int) := by omega
  have hd15 : decide ((15 : Int) < (n : Int)) = false := decide_eq_false h15I
  have hd10 : decide ((1000 : Int) < (m : Int)) = false := decide_eq_false hmI
  obtain ⟨f, hf⟩ : ∃ f, hearF bl = f := ⟨_, rfl⟩
  have HF := keep hf
  have hf15 : f 15 = false := by
    rw [← hf]
    unfold hearF
    rw [List.getD_eq_getElem?_getD, List.getElem?_eq_none (by have := hA.1; omega)]
    rfl
  have HF15 := keep hf15
  have HA := keep hA
  have HBS := keep hB
  have HM := keep hm
  have HN15 := keep h15
  obtain ⟨r, hr, hr32⟩ : ∃ r : Nat, bits .and .i64 nn 31 = (r : Int) ∧ r < 32 := by
    have := and_i64 nn 5 (by decide)
    refine ⟨(nn % 32).toNat, this.trans ?_, by omega⟩
    show nn % 32 = _
    omega
  have KN := keep fun W (hb : Below w.heap.size w W) => New_q (w := w) 16 64 hb
  rw [show clampT 16 16 = 16 from rfl, show clampT 64 64 = 64 from rfl] at KN
  have hrI : (r : Int) < 32 := by omega
  have HR32 := keep hr32
  clear hA hn hB h15 hm hf hf15 hr32
  go_enter Try.func9, Try.ntmps9
  go_wp2_with fail
  refine KA.out.mono ?_
  rintro e w1 ⟨rfl, hb1⟩
  have HB1 := keep hb1
  clear hb1
  go_wp2_with fail
  refine (KN.out _ HB1.out).mono ?_
  rintro e w2 ⟨b, rfl, h2⟩
  have HQ := keep (show MQ w b f 0 0 w2 from ⟨_, h2.out, MM.start f⟩)
  clear h2 KN KA
  unfold ptr
  go_wp2_with fail
  go_loopw [10, 9] (fun pv wv wr => ∃ j : Nat, pv = .int .i64 (j : Int) ∧ wv = .int .i64 (cntF f j : Nat) ∧ j ≤ 16 ∧ Hid (MQ w b f j 0 wr)) (fun pv _ _ => 16 - (intOf pv).toNat)
  case atStart => exact ⟨0, rfl, rfl, Nat.zero_le _, HQ⟩
  case round =>
    obtain ⟨j, rfl, rfl, hj, hQ⟩ := hrel
    by_cases hlt : j < 16
    · have hltI : (j : Int) < 16 := by omega
      have hcs := cntF_succ f j
      have hcl := cntF_le f j
      have hcI : (cntF f j : Int) ≤ 16 := by omega
      by_cases hjn : j < n
      · obtain ⟨bb, o, v, rfl, hbb, hcell, hv⟩ := HA.out.at_ hjn
        have hfv : f j = v := by rw [← HF.out]; exact hv
        have hjnI : (j : Int) < (n : Int) := by omega
        have hcw := fun W (hb : Below w.heap.size w W) => (hb.cell (p := ⟨bb, o + j, none⟩) hbb).trans hcell
        have HCW := keep hcw
        have HLT := keep hlt
        cases v with
        | false =>
          have KJ := keep (mq_join hQ.out hlt hfv)
          unfold ptr at KJ
          have HC := keep (show cntF f (j + 1) = cntF f j by rw [hcs, hfv]; rfl)
          clear hlt hv hfv hcs hcl hcell hcw hjn
          go_wp2_with fail
          refine KJ.out.mono ?_
          rintro e w3 ⟨rfl, hQ3⟩
          have c3 := HCW.out _ hQ3.out.bl
          go_wp2_with fail
          go_roundw
          case rel => exact ⟨j + 1, by simp, by rw [HC.out], HLT.out, hQ3⟩
          all_goals (have := HLT.out; simp [intOf]; omega)
        | true =>
          have KJ := keep (mq_join2 hQ.out hlt hfv)
          unfold ptr tS at KJ
          have HC := keep (show cntF f (j + 1) = cntF f j + 1 by rw [hcs, hfv]; rfl)
          clear hlt hv hfv hcs hcl hcell hcw hjn
          go_wp2_with fail
          refine KJ.out.mono ?_
          rintro e w3 ⟨rfl, hB3, K3⟩
          have c3 := HCW.out _ hB3.out
          go_wp2_with fail
          refine K3.out.mono ?_
          rintro e w4 ⟨rfl, hQ4⟩
          clear c3
          go_wp2_with fail
          go_roundw
          case rel => exact ⟨j + 1, by simp, by rw [HC.out]; simp, HLT.out, hQ4⟩
          all_goals (have := HLT.out; simp [intOf]; omega)
      · have hfv : f j = false := by
          rw [← HF.out]
          unfold hearF
          rw [List.getD_eq_getElem?_getD, List.getElem?_eq_none (by have := HA.out.1; omega)]
          rfl
        have hjnI : ¬ (j : Int) < (n : Int) := by omega
        have KJ := keep (mq_join hQ.out hlt hfv)
        unfold ptr at KJ
        have HLT := keep hlt
        have HC := keep (show cntF f (j + 1) = cntF f j by rw [hcs, hfv]; rfl)
        clear hlt hfv hcs hcl hjn
        go_wp2_with fail
        refine KJ.out.mono ?_
        rintro e w3 ⟨rfl, hQ3⟩
        go_wp2_with fail
        go_roundw
        case rel => exact ⟨j + 1, by simp, by rw [HC.out], HLT.out, hQ3⟩
        all_goals (have := HLT.out; simp [intOf]; omega)
    · obtain rfl : j = 16 := by omega
      obtain ⟨cc, hcc⟩ : ∃ cc, cntF f 16 = cc := ⟨_, rfl⟩
      have HCC := keep hcc
      have hcl := cntF_le f 16
      rw [hcc] at hcl ⊢
      have hccI : (cc : Int) ≤ 16 := by omega
      rw [show ((16 : Nat) : Int) = 16 from rfl]
      clear hcc hlt hcl
      have hwr1 : IntKind.i64.wrap (1 + (r : Int)) = 1 + (r : Int) := IntWalk.i64_in _ (by omega)
      have HLTK := keep hrI
      obtain ⟨kk, hkk⟩ : ∃ kk : Nat, kk = 1 + r := ⟨_, rfl⟩
      have hkI : 1 + (r : Int) = (kk : Int) := by omega
      have hk32 : (kk : Int) ≤ 32 := by omega
      have HK := keep (show kk ≤ 32 by omega)
      rw [hkI] at hwr1
      have hkI' := keep hkI
      clear hkk hrI
      go_wp2_with fail
      rename World => ws
      go_loopw [12] (fun iv wr => ∃ i : Nat, iv = .int .i64 (i : Int) ∧ i ≤ kk ∧ Hid (MQ w b f 16 i wr)) (fun iv _ => kk - (intOf iv).toNat)
      case atStart => exact ⟨0, rfl, Nat.zero_le _, hQ⟩
      case round =>
        obtain ⟨i, rfl, hi, hQi⟩ := hrel
        by_cases hik : i < kk
        · have hikI : (i : Int) < (kk : Int) := by omega
          have KP := keep fun tx => mq_pub hQi.out (by have := HK.out; omega) HF15.out HCC.out tx (HBS.out.step (hQi.out.bl)) HM.out
          unfold ptr tS at KP
          have HIK := keep hik
          clear hik
          go_wp2_with fail
          refine (KP.out _).mono ?_
          rintro e w3 ⟨rfl, hQ3⟩
          clear KP
          go_wp2_with fail
          go_roundw
          case rel => exact ⟨i + 1, by simp, HIK.out, hQ3⟩
          all_goals (have := HIK.out; simp [intOf]; omega)
        · obtain rfl : i = kk := by omega
          have HQI := keep hQi.out
          clear hik hQi
          go_wp2_with fail
          rename World => wt
          go_loopw [16, 15] (fun pv av wr => ∃ p : Nat, pv = .int .i64 (p : Int) ∧ av = .int .i64 ((cntF f p * i : Nat) : Int) ∧ p ≤ 16 ∧ Hid (wr = wt)) (fun pv _ _ => 16 - (intOf pv).toNat)
          case atStart => exact ⟨0, rfl, by rw [show cntF f 0 = 0 from rfl, Nat.zero_mul]; rfl, Nat.zero_le _, keep rfl⟩
          case round =>
            obtain ⟨p, rfl, rfl, hp, hW⟩ := hrel
            obtain rfl := hW.out
            by_cases hp16 : p < 16
            · have hpI : (p : Int) < 16 := by omega
              have KW := keep (mq_wait HQI.out hp16)
              have hcs := cntF_succ f p
              have hcl := cntF_le f p
              have hmul : cntF f p * i ≤ 16 * 32 := Nat.mul_le_mul (by omega) HK.out
              have hnext : cntF f (p + 1) * i = cntF f p * i + if f p = true then i else 0 := by
                rw [hcs, Nat.add_mul]
                split <;> simp
              obtain ⟨q, hq⟩ : ∃ q, (if f p = true then i else 0) = q := ⟨_, rfl⟩
              have hq32 : q ≤ 32 := by rw [← hq]; have := HK.out; split <;> omega
              rw [hq] at KW hnext
              obtain ⟨z, hz⟩ : ∃ z, cntF f p * i = z := ⟨_, rfl⟩
              rw [hz] at hnext hmul ⊢
              have hw5 : IntKind.i64.wrap ((z : Int) + (q : Int)) = (z : Int) + (q : Int) := IntWalk.i64_in _ (by omega)
              have HNX := keep hnext
              have HP16 := keep hp16
              unfold ptr at KW
              have hzI : (z : Int) ≤ 512 := by omega
              have hqI : (q : Int) ≤ 32 := by omega
              clear hcs hcl hmul hnext hq hz hp16 hq32
              go_wp2_with fail
              refine KW.out.mono ?_
              rintro e w3 ⟨rfl, rfl⟩
              go_wp2_with fail
              go_roundw
              case rel => exact ⟨p + 1, by simp, by rw [HNX.out]; simp, HP16.out, keep trivial⟩
              all_goals (have := HP16.out; simp [intOf]; omega)
            · obtain rfl : p = 16 := by omega
              have hcl := cntF_le f 16
              have hcc := HCC.out
              rw [hcc] at hcl ⊢
              have hmul : cc * i ≤ 16 * 32 := Nat.mul_le_mul hcl HK.out
              have hm1 : ((cc * i : Nat) : Int) = (cc : Int) * (i : Int) := Int.natCast_mul ..
              obtain ⟨z, hz⟩ : ∃ z, cc * i = z := ⟨_, rfl⟩
              rw [hz] at hm1 hmul ⊢
              have hm2 : (cc : Int) * (i : Int) = (z : Int) := hm1.symm
              have KC := keep (mq_count HQI.out)
              unfold ptr tS at KC
              have hzI : (z : Int) ≤ 512 := by omega
              have HBL := keep HQI.out.bl
              clear hcc hcl hmul hm1 hz hp16
              go_wp2_with fail
              refine KC.out.mono ?_
              rintro e w3 ⟨rfl, rfl⟩
              go_wp2
              go_ret
              exact ⟨rfl, HBL.out⟩
end Go.Proofs.Ytnbicbnighpkjaa
