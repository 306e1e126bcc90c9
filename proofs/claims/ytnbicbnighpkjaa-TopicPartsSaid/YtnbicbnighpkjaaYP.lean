/- Law 19: some, in order (TopicParts). -/
import Derived.Test.YtnbicbnighpkjaaYO
import Derived.BigQuiet
import Derived.Deep.QuietTactic
import Derived.Deep.RegionHeld3
namespace Go.Proofs.Ytnbicbnighpkjaa
open Go.RowKit Go.Maps
set_option linter.unusedVariables false
set_option linter.unusedSimpArgs false
theorem md1 : (1 : Int) = 1 ∨ (1 : Int) = 2 := .inl rfl
theorem md2 : (2 : Int) = 1 ∨ (2 : Int) = 2 := .inr rfl

set_option maxHeartbeats 16000000 in
set_option maxRecDepth 1000000 in
theorem topicParts_walk (room : Int) (A : Option Addr) (n c : Nat) (zs : List Int) (nn : Int) (nw : Bool) (w : World) (hr : (Lit.int .i64 room).wf = true) (hA : NS .i64 w A n c zs) (hn : (Lit.int .i64 nn).wf = true) :
    Calls Try.prog 6 #[.int .i64 room, .slice A n c, .int .i64 nn, .bool nw] w fun e w' => e = .returned (.bool true) ∧ Below w.heap.size w w' := by
  have KA := keep (awake_any w)
  obtain ⟨k, hk, hk128⟩ : ∃ k : Nat, bits .and .i64 nn 127 = (k : Int) ∧ k < 128 := by
    have := and_i64 nn 7 (by decide)
    refine ⟨(nn % 128).toNat, this.trans ?_, by omega⟩
    show nn % 128 = _
    omega
  by_cases h200 : n ≤ 200
  case neg =>
    have h200I : (200 : Int) < (n : Int) := by omega
    clear hA hn hr h200 hk128
    go_enter Try.func6, Try.ntmps6
    go_wp2_with fail
    refine KA.out.mono ?_
    rintro e w1 ⟨rfl, hb1⟩
    go_wp2
    go_ret
    exact ⟨rfl, hb1⟩
  have h200I : ¬ (200 : Int) < (n : Int) := by omega
  cases nw with
  | true =>
    have hd200 : decide ((200 : Int) < (n : Int)) = false := decide_eq_false h200I
    obtain ⟨rm, hrm⟩ : ∃ rm, clampT room 64 = rm := ⟨_, rfl⟩
    have KN := keep fun W (hb : Below w.heap.size w W) => New_q (w := w) 3 room hb
    rw [show clampT 3 16 = 3 from rfl, hrm] at KN
    have K1 := keep fun b W (h : RQ w b (newM 3 rm) W) => Join_q h wf0 (by rw [(r0_facts rm).2.2.1]; decide)
    rw [(r0_facts rm).1] at K1
    have K2 := keep fun b W (h : RQ w b (joinM (newM 3 rm) 0) W) => Join_q h wf1 (by rw [(r0_facts rm).2.2.2.1]; decide)
    rw [(r0_facts rm).2.1] at K2
    have K4 := keep fun b W (h : RQ w b (R0 rm) W) => Subscribe_q h wf1 (s := tS) (by decide) 1
    rw [(p1_pm rm 1 md1).1] at K4
    have HA := keep hA
    have HK := keep hk128
    have hkI : (k : Int) < 128 := by omega
    clear hA hn hr h200 hk128 hrm
    unfold ptr at K1 K2 KN
    unfold ptr tS at K4
    go_enter Try.func6, Try.ntmps6
    go_wp2_with fail
    refine KA.out.mono ?_
    rintro e w1 ⟨rfl, hb1⟩
    have HB1 := keep hb1
    clear hb1
    go_wp2_with fail
    refine (KN.out _ HB1.out).mono ?_
    rintro e w2 ⟨b, rfl, h2⟩
    go_wp2_with fail
    refine (K1.out b w2 h2.out).mono ?_
    rintro e w3 ⟨rfl, h3⟩
    go_wp2_with fail
    refine (K2.out b w3 h3.out).mono ?_
    rintro e w4 ⟨rfl, h4⟩
    go_wp2_with fail
    refine (K4.out b w4 h4.out).mono ?_
    rintro e w6 ⟨rfl, h6⟩
    have HQ := keep (show PP w b 1 rm (-1) 0 0 w6 from ⟨_, [], 0, h6.out, (p1_pm rm 1 md1).2, ⟨by simp, by simp, rfl, by decide, fun _ h => absurd h (by decide)⟩⟩)
    clear K1 K2 K4 KN KA h2 h3 h4 h6
    go_wp2_with fail
    go_loopw [15, 13, 14] (fun iv lv gv wr => ∃ (t got : Nat) (la : Int), iv = .int .i64 (t : Int) ∧ lv = .int .i64 la ∧ gv = .int .i64 (got : Int) ∧ t ≤ k ∧ Hid (PP w b 1 rm la got t wr ∧ (t = k → PE w b 1 rm la got t wr))) (fun iv _ _ _ => k - (intOf iv).toNat)
    case atStart => exact ⟨0, 0, -1, by simp, by simp, by simp, Nat.zero_le _, keep ⟨HQ.out, fun _ => HQ.out.zero⟩⟩
    case round =>
      obtain ⟨t, got, la, rfl, rfl, rfl, ht, hR⟩ := hrel
      by_cases hlt : t < k
      · have hltI : (t : Int) < (k : Int) := by omega
        have HLT := keep hlt
        have hkk := HK.out
        have hw8 : IntKind.u8.wrap (t : Int) = (t : Int) := by rw [show IntKind.u8.wrap (t : Int) = (t : Int) % 256 from rfl]; omega
        have hm8 : (t : Int) % 256 = (t : Int) := by omega
        have hbs := BS.laid wr 5 [(t : Int)] (by intro x hx; rw [List.mem_singleton.1 hx]; omega)
        have hR1 := hR.out.1.step (below_lay wr (.cells #[.int .u8 (t : Int)] 5))
        have KP := keep (pp_pub hR1 md1 (by omega) (A := some ⟨wr.heap.size, 0, none⟩) hbs)
        have HKK := keep (show t + 1 ≤ 128 by omega)
        have HGG := keep hR.out.1.got_le.1
        unfold ptr tS at KP
        clear hR hR1 hbs hlt hkk
        go_wp2_with fail
        refine KP.out.mono ?_
        rintro e w8 ⟨v0, rfl, HR2⟩
        clear KP
        by_cases htn : t < n
        · obtain ⟨bb, o, z, rfl, hbb, hcell, hz, hzw⟩ := HA.out.at_ htn
          obtain ⟨mm, hmm, hmm4⟩ : ∃ mm : Nat, bits .and .i64 z 3 = (mm : Int) ∧ mm < 4 := by
            have := and_i64 z 2 (by decide)
            refine ⟨(z % 4).toNat, this.trans ?_, by omega⟩
            show z % 4 = _
            omega
          have htnI : (t : Int) < (n : Int) := by omega
          have hcw := (HR2.out.bl.cell (p := ⟨bb, o + t, none⟩) hbb).trans hcell
          have hmmI : (mm : Int) < 4 := by omega
          clear hcell hz hzw htn hbb hmm4
          go_wp2_with fail
          rename World => wxmm
          by_cases hlast : t + 1 = k
          · have hlI : ((t : Int) == (k : Int) - 1) = true := by rw [beq_iff_eq]; omega
            have HLAST := keep hlast
            clear hlast
            go_loopw [17, 13, 14] (fun jv lv gv wr2 => ∃ (j got2 : Nat) (la2 : Int), jv = .int .i64 (j : Int) ∧ lv = .int .i64 la2 ∧ gv = .int .i64 (got2 : Int) ∧ j ≤ 2000 ∧ Hid (PP w b 1 rm la2 got2 (t + 1) wr2 ∧ j + got = got2)) (fun _ _ gv _ => t + 2 - (intOf gv).toNat)
            case atStart => exact ⟨0, got, la, by simp, rfl, rfl, by decide, keep ⟨HR2.out, by simp⟩⟩
            case round =>
              obtain ⟨j, got2, la2, rfl, rfl, rfl, hj, hR2'⟩ := hrel
              have hR2 := keep hR2'.out.1
              have hjg := hR2'.out.2
              have hgl := hR2.out.got_le
              have hjI : (j : Int) ≤ 200 := by have := HKK.out; omega
              have HJ2 := keep (show j + 1 ≤ 2000 by have := HKK.out; omega)
              have HJG := keep hjg
              clear hR2' hjg hgl hj
              by_cases hjm : (j : Int) < (mm : Int)
              · rcases pp_pull hR2.out with ⟨v, ⟨hvl, hvc⟩, KU0⟩ | KU0
                · have KU := keep KU0
                  clear KU0
                  unfold ptr tS at KU
                  have hb8 : ((b8 (v : Int)).toNat : Int) = (v : Int) := b8_of _ (by omega) (by have := HKK.out; omega)
                  have hu8 : IntKind.u8.wrap (v : Int) = (v : Int) := by rw [show IntKind.u8.wrap (v : Int) = (v : Int) % 256 from rfl]; have := HKK.out; omega
                  have hu9 : (v : Int) % 256 = (v : Int) := by have := HKK.out; omega
                  have HB8 := keep hb8
                  have hle9 : decide ((v : Int) ≤ la2) = false := decide_eq_false (by omega)
                  have HVC := keep hvc
                  have HG := keep (hR2.out.got_le)
                  have hgI : (got2 : Int) ≤ 200 := by have := HG.out.1; have := HKK.out; omega
                  clear hb8 hvl hvc
                  go_wp2_with fail
                  refine KU.out.mono ?_
                  rintro e w7 ⟨A7, c7, rfl, hd7, hR7⟩
                  obtain ⟨b7, o7, rfl, hb7l, hc7⟩ := hd7.out.br.at_ (j := 0) (by simp)
                  have HR8 := keep (hR7.out.step (below_lay w7 (.cells #[.string ⟨#[116]⟩, .int .i64 0, .int .i64 (v : Int), .bool false, .slice (some ⟨b7, o7, none⟩) 1 c7] 49)))
                  have hc8 := ((below_lay w7 (.cells #[.string ⟨#[116]⟩, .int .i64 0, .int .i64 (v : Int), .bool false, .slice (some ⟨b7, o7, none⟩) 1 c7] 49)).cell (p := ⟨b7, o7 + 0, none⟩) hb7l).trans hc7
                  rw [show ([b8 (v : Int)] : List UInt8)[0] = b8 (v : Int) from rfl, HB8.out, Nat.add_zero] at hc8
                  have HSX := keep (show (w7.alloc (.cells #[.string ⟨#[116]⟩, .int .i64 0, .int .i64 (v : Int), .bool false, .slice (some ⟨b7, o7, none⟩) 1 c7] 49)).cell? ⟨w7.heap.size, 2, none⟩ = some (.int .i64 (v : Int)) ∧ (w7.alloc (.cells #[.string ⟨#[116]⟩, .int .i64 0, .int .i64 (v : Int), .bool false, .slice (some ⟨b7, o7, none⟩) 1 c7] 49)).cell? ⟨w7.heap.size, 4, none⟩ = some (.slice (some ⟨b7, o7, none⟩) 1 c7) ∧ (w7.alloc (.cells #[.string ⟨#[116]⟩, .int .i64 0, .int .i64 (v : Int), .bool false, .slice (some ⟨b7, o7, none⟩) 1 c7] 49)).cell? ⟨b7, o7, none⟩ = some (.int .u8 (v : Int)) from ⟨by simp, by simp, hc8⟩)
                  clear hc7 hb7l
                  go_wp2_with fail
                  go_region_held3 (fun w' => w'.cell? ⟨w7.heap.size, 2, none⟩ = some (.int .i64 (v : Int)) ∧ w'.cell? ⟨w7.heap.size, 4, none⟩ = some (.slice (some ⟨b7, o7, none⟩) 1 c7) ∧ w'.cell? ⟨b7, o7, none⟩ = some (.int .u8 (v : Int)))
                    (first | exact HSX.out) (first | fail)
                  have HR9 := keep (HR8.out.step (Below.refl _ _).drew)
                  go_wp2_with fail
                  go_roundw
                  case rel => exact ⟨j + 1, got2 + 1, (v : Int), by simp, rfl, by simp, HJ2.out, keep ⟨HR9.out, by have := HJG.out; omega⟩⟩
                  all_goals (have := HG.out.1; simp [intOf]; omega)
                · have KU := keep KU0
                  clear KU0
                  unfold ptr at KU
                  go_wp2_with fail
                  refine KU.out.mono ?_
                  rintro e w7 ⟨A7, n7, c7, rfl, hR7⟩
                  have HR8 := keep (hR7.out.step (below_lay w7 (.cells #[.string ⟨#[]⟩, .int .i64 0, .int .i64 0, .bool false, .slice A7 n7 c7] 49)))
                  go_wp2_with fail
                  go_roundw
                  case rel => exact ⟨t + 1, got2, la2, by simp, rfl, rfl, HLT.out, keep ⟨HR8.out.pp, fun _ => HR8.out⟩⟩
                  all_goals (have := HLT.out; simp [intOf]; omega)
              · rcases pp_pull hR2.out with ⟨v, ⟨hvl, hvc⟩, KU0⟩ | KU0
                · have KU := keep KU0
                  clear KU0
                  unfold ptr tS at KU
                  have hb8 : ((b8 (v : Int)).toNat : Int) = (v : Int) := b8_of _ (by omega) (by have := HKK.out; omega)
                  have hu8 : IntKind.u8.wrap (v : Int) = (v : Int) := by rw [show IntKind.u8.wrap (v : Int) = (v : Int) % 256 from rfl]; have := HKK.out; omega
                  have hu9 : (v : Int) % 256 = (v : Int) := by have := HKK.out; omega
                  have HB8 := keep hb8
                  have hle9 : decide ((v : Int) ≤ la2) = false := decide_eq_false (by omega)
                  have HVC := keep hvc
                  have HG := keep (hR2.out.got_le)
                  have hgI : (got2 : Int) ≤ 200 := by have := HG.out.1; have := HKK.out; omega
                  clear hb8 hvl hvc
                  go_wp2_with fail
                  refine KU.out.mono ?_
                  rintro e w7 ⟨A7, c7, rfl, hd7, hR7⟩
                  obtain ⟨b7, o7, rfl, hb7l, hc7⟩ := hd7.out.br.at_ (j := 0) (by simp)
                  have HR8 := keep (hR7.out.step (below_lay w7 (.cells #[.string ⟨#[116]⟩, .int .i64 0, .int .i64 (v : Int), .bool false, .slice (some ⟨b7, o7, none⟩) 1 c7] 49)))
                  have hc8 := ((below_lay w7 (.cells #[.string ⟨#[116]⟩, .int .i64 0, .int .i64 (v : Int), .bool false, .slice (some ⟨b7, o7, none⟩) 1 c7] 49)).cell (p := ⟨b7, o7 + 0, none⟩) hb7l).trans hc7
                  rw [show ([b8 (v : Int)] : List UInt8)[0] = b8 (v : Int) from rfl, HB8.out, Nat.add_zero] at hc8
                  have HSX := keep (show (w7.alloc (.cells #[.string ⟨#[116]⟩, .int .i64 0, .int .i64 (v : Int), .bool false, .slice (some ⟨b7, o7, none⟩) 1 c7] 49)).cell? ⟨w7.heap.size, 2, none⟩ = some (.int .i64 (v : Int)) ∧ (w7.alloc (.cells #[.string ⟨#[116]⟩, .int .i64 0, .int .i64 (v : Int), .bool false, .slice (some ⟨b7, o7, none⟩) 1 c7] 49)).cell? ⟨w7.heap.size, 4, none⟩ = some (.slice (some ⟨b7, o7, none⟩) 1 c7) ∧ (w7.alloc (.cells #[.string ⟨#[116]⟩, .int .i64 0, .int .i64 (v : Int), .bool false, .slice (some ⟨b7, o7, none⟩) 1 c7] 49)).cell? ⟨b7, o7, none⟩ = some (.int .u8 (v : Int)) from ⟨by simp, by simp, hc8⟩)
                  clear hc7 hb7l
                  go_wp2_with fail
                  go_region_held3 (fun w' => w'.cell? ⟨w7.heap.size, 2, none⟩ = some (.int .i64 (v : Int)) ∧ w'.cell? ⟨w7.heap.size, 4, none⟩ = some (.slice (some ⟨b7, o7, none⟩) 1 c7) ∧ w'.cell? ⟨b7, o7, none⟩ = some (.int .u8 (v : Int)))
                    (first | exact HSX.out) (first | fail)
                  have HR9 := keep (HR8.out.step (Below.refl _ _).drew)
                  go_wp2_with fail
                  go_roundw
                  case rel => exact ⟨j + 1, got2 + 1, (v : Int), by simp, rfl, by simp, HJ2.out, keep ⟨HR9.out, by have := HJG.out; omega⟩⟩
                  all_goals (have := HG.out.1; simp [intOf]; omega)
                · have KU := keep KU0
                  clear KU0
                  unfold ptr at KU
                  go_wp2_with fail
                  refine KU.out.mono ?_
                  rintro e w7 ⟨A7, n7, c7, rfl, hR7⟩
                  have HR8 := keep (hR7.out.step (below_lay w7 (.cells #[.string ⟨#[]⟩, .int .i64 0, .int .i64 0, .bool false, .slice A7 n7 c7] 49)))
                  go_wp2_with fail
                  go_roundw
                  case rel => exact ⟨t + 1, got2, la2, by simp, rfl, rfl, HLT.out, keep ⟨HR8.out.pp, fun _ => HR8.out⟩⟩
                  all_goals (have := HLT.out; simp [intOf]; omega)
          · have HNL := keep hlast
            have hlI : ((t : Int) == (k : Int) - 1) = false := by
              have := HLT.out
              simpa using (show ¬ (t : Int) = (k : Int) - 1 by omega)
            clear hlast
            go_loopw [17, 13, 14] (fun jv lv gv wr2 => ∃ (j got2 : Nat) (la2 : Int), jv = .int .i64 (j : Int) ∧ lv = .int .i64 la2 ∧ gv = .int .i64 (got2 : Int) ∧ j ≤ mm ∧ Hid (PP w b 1 rm la2 got2 (t + 1) wr2)) (fun _ _ gv _ => t + 2 - (intOf gv).toNat)
            case atStart => exact ⟨0, got, la, by simp, rfl, rfl, Nat.zero_le _, HR2⟩
            case round =>
              obtain ⟨j, got2, la2, rfl, rfl, rfl, hj, hR2⟩ := hrel
              by_cases hjl : j < mm
              · have hjI : (j : Int) < (mm : Int) := by omega
                have HJ2 := keep (show j + 1 ≤ mm from hjl)
                clear hjl
                rcases pp_pull hR2.out with ⟨v, ⟨hvl, hvc⟩, KU0⟩ | KU0
                · have KU := keep KU0
                  clear KU0
                  unfold ptr tS at KU
                  have hb8 : ((b8 (v : Int)).toNat : Int) = (v : Int) := b8_of _ (by omega) (by have := HKK.out; omega)
                  have hu8 : IntKind.u8.wrap (v : Int) = (v : Int) := by rw [show IntKind.u8.wrap (v : Int) = (v : Int) % 256 from rfl]; have := HKK.out; omega
                  have hu9 : (v : Int) % 256 = (v : Int) := by have := HKK.out; omega
                  have HB8 := keep hb8
                  have hle9 : decide ((v : Int) ≤ la2) = false := decide_eq_false (by omega)
                  have HVC := keep hvc
                  have HG := keep (hR2.out.got_le)
                  have hgI : (got2 : Int) ≤ 200 := by have := HG.out.1; have := HKK.out; omega
                  clear hb8 hvl hvc
                  go_wp2_with fail
                  refine KU.out.mono ?_
                  rintro e w7 ⟨A7, c7, rfl, hd7, hR7⟩
                  obtain ⟨b7, o7, rfl, hb7l, hc7⟩ := hd7.out.br.at_ (j := 0) (by simp)
                  have HR8 := keep (hR7.out.step (below_lay w7 (.cells #[.string ⟨#[116]⟩, .int .i64 0, .int .i64 (v : Int), .bool false, .slice (some ⟨b7, o7, none⟩) 1 c7] 49)))
                  have hc8 := ((below_lay w7 (.cells #[.string ⟨#[116]⟩, .int .i64 0, .int .i64 (v : Int), .bool false, .slice (some ⟨b7, o7, none⟩) 1 c7] 49)).cell (p := ⟨b7, o7 + 0, none⟩) hb7l).trans hc7
                  rw [show ([b8 (v : Int)] : List UInt8)[0] = b8 (v : Int) from rfl, HB8.out, Nat.add_zero] at hc8
                  have HSX := keep (show (w7.alloc (.cells #[.string ⟨#[116]⟩, .int .i64 0, .int .i64 (v : Int), .bool false, .slice (some ⟨b7, o7, none⟩) 1 c7] 49)).cell? ⟨w7.heap.size, 2, none⟩ = some (.int .i64 (v : Int)) ∧ (w7.alloc (.cells #[.string ⟨#[116]⟩, .int .i64 0, .int .i64 (v : Int), .bool false, .slice (some ⟨b7, o7, none⟩) 1 c7] 49)).cell? ⟨w7.heap.size, 4, none⟩ = some (.slice (some ⟨b7, o7, none⟩) 1 c7) ∧ (w7.alloc (.cells #[.string ⟨#[116]⟩, .int .i64 0, .int .i64 (v : Int), .bool false, .slice (some ⟨b7, o7, none⟩) 1 c7] 49)).cell? ⟨b7, o7, none⟩ = some (.int .u8 (v : Int)) from ⟨by simp, by simp, hc8⟩)
                  clear hc7 hb7l
                  go_wp2_with fail
                  go_region_held3 (fun w' => w'.cell? ⟨w7.heap.size, 2, none⟩ = some (.int .i64 (v : Int)) ∧ w'.cell? ⟨w7.heap.size, 4, none⟩ = some (.slice (some ⟨b7, o7, none⟩) 1 c7) ∧ w'.cell? ⟨b7, o7, none⟩ = some (.int .u8 (v : Int)))
                    (first | exact HSX.out) (first | fail)
                  have HR9 := keep (HR8.out.step (Below.refl _ _).drew)
                  go_wp2_with fail
                  go_roundw
                  case rel => exact ⟨j + 1, got2 + 1, (v : Int), by simp, rfl, by simp, HJ2.out, HR9⟩
                  all_goals (have := HG.out.1; simp [intOf]; omega)
                · have KU := keep KU0
                  clear KU0
                  unfold ptr at KU
                  go_wp2_with fail
                  refine KU.out.mono ?_
                  rintro e w7 ⟨A7, n7, c7, rfl, hR7⟩
                  have HR8 := keep (hR7.out.step (below_lay w7 (.cells #[.string ⟨#[]⟩, .int .i64 0, .int .i64 0, .bool false, .slice A7 n7 c7] 49)))
                  go_wp2_with fail
                  go_roundw
                  case rel => exact ⟨t + 1, got2, la2, by simp, rfl, rfl, HLT.out, keep ⟨HR8.out.pp, fun e => absurd e HNL.out⟩⟩
                  all_goals (have := HLT.out; simp [intOf]; omega)
              · obtain rfl : j = mm := by omega
                clear hjl
                go_wp2_with fail
                go_roundw
                case rel => exact ⟨t + 1, got2, la2, by simp, rfl, rfl, HLT.out, keep ⟨hR2.out, fun e => absurd e HNL.out⟩⟩
                all_goals (have := HLT.out; simp [intOf]; omega)
        · have htnI : ¬ (t : Int) < (n : Int) := by omega
          have hdtn : decide ((t : Int) < (n : Int)) = false := decide_eq_false htnI
          have hdtm : decide (t < n) = false := decide_eq_false (by omega)
          clear htn
          go_wp2_with fail
          rename World => wx0
          by_cases hlast : t + 1 = k
          · have hlI : ((t : Int) == (k : Int) - 1) = true := by rw [beq_iff_eq]; omega
            have HLAST := keep hlast
            clear hlast
            go_loopw [17, 13, 14] (fun jv lv gv wr2 => ∃ (j got2 : Nat) (la2 : Int), jv = .int .i64 (j : Int) ∧ lv = .int .i64 la2 ∧ gv = .int .i64 (got2 : Int) ∧ j ≤ 2000 ∧ Hid (PP w b 1 rm la2 got2 (t + 1) wr2 ∧ j + got = got2)) (fun _ _ gv _ => t + 2 - (intOf gv).toNat)
            case atStart => exact ⟨0, got, la, by simp, rfl, rfl, by decide, keep ⟨HR2.out, by simp⟩⟩
            case round =>
              obtain ⟨j, got2, la2, rfl, rfl, rfl, hj, hR2'⟩ := hrel
              have hR2 := keep hR2'.out.1
              have hjg := hR2'.out.2
              have hgl := hR2.out.got_le
              have hjI : (j : Int) ≤ 200 := by have := HKK.out; omega
              have HJ2 := keep (show j + 1 ≤ 2000 by have := HKK.out; omega)
              have HJG := keep hjg
              clear hR2' hjg hgl hj
              have hj0 : ¬ (j : Int) < 0 := by omega
              rcases pp_pull hR2.out with ⟨v, ⟨hvl, hvc⟩, KU0⟩ | KU0
              · have KU := keep KU0
                clear KU0
                unfold ptr tS at KU
                have hb8 : ((b8 (v : Int)).toNat : Int) = (v : Int) := b8_of _ (by omega) (by have := HKK.out; omega)
                have hu8 : IntKind.u8.wrap (v : Int) = (v : Int) := by rw [show IntKind.u8.wrap (v : Int) = (v : Int) % 256 from rfl]; have := HKK.out; omega
                have hu9 : (v : Int) % 256 = (v : Int) := by have := HKK.out; omega
                have HB8 := keep hb8
                have hle9 : decide ((v : Int) ≤ la2) = false := decide_eq_false (by omega)
                have HVC := keep hvc
                have HG := keep (hR2.out.got_le)
                have hgI : (got2 : Int) ≤ 200 := by have := HG.out.1; have := HKK.out; omega
                clear hb8 hvl hvc
                go_wp2_with fail
                refine KU.out.mono ?_
                rintro e w7 ⟨A7, c7, rfl, hd7, hR7⟩
                obtain ⟨b7, o7, rfl, hb7l, hc7⟩ := hd7.out.br.at_ (j := 0) (by simp)
                have HR8 := keep (hR7.out.step (below_lay w7 (.cells #[.string ⟨#[116]⟩, .int .i64 0, .int .i64 (v : Int), .bool false, .slice (some ⟨b7, o7, none⟩) 1 c7] 49)))
                have hc8 := ((below_lay w7 (.cells #[.string ⟨#[116]⟩, .int .i64 0, .int .i64 (v : Int), .bool false, .slice (some ⟨b7, o7, none⟩) 1 c7] 49)).cell (p := ⟨b7, o7 + 0, none⟩) hb7l).trans hc7
                rw [show ([b8 (v : Int)] : List UInt8)[0] = b8 (v : Int) from rfl, HB8.out, Nat.add_zero] at hc8
                have HSX := keep (show (w7.alloc (.cells #[.string ⟨#[116]⟩, .int .i64 0, .int .i64 (v : Int), .bool false, .slice (some ⟨b7, o7, none⟩) 1 c7] 49)).cell? ⟨w7.heap.size, 2, none⟩ = some (.int .i64 (v : Int)) ∧ (w7.alloc (.cells #[.string ⟨#[116]⟩, .int .i64 0, .int .i64 (v : Int), .bool false, .slice (some ⟨b7, o7, none⟩) 1 c7] 49)).cell? ⟨w7.heap.size, 4, none⟩ = some (.slice (some ⟨b7, o7, none⟩) 1 c7) ∧ (w7.alloc (.cells #[.string ⟨#[116]⟩, .int .i64 0, .int .i64 (v : Int), .bool false, .slice (some ⟨b7, o7, none⟩) 1 c7] 49)).cell? ⟨b7, o7, none⟩ = some (.int .u8 (v : Int)) from ⟨by simp, by simp, hc8⟩)
                clear hc7 hb7l
                go_wp2_with fail
                go_region_held3 (fun w' => w'.cell? ⟨w7.heap.size, 2, none⟩ = some (.int .i64 (v : Int)) ∧ w'.cell? ⟨w7.heap.size, 4, none⟩ = some (.slice (some ⟨b7, o7, none⟩) 1 c7) ∧ w'.cell? ⟨b7, o7, none⟩ = some (.int .u8 (v : Int)))
                  (first | exact HSX.out) (first | fail)
                have HR9 := keep (HR8.out.step (Below.refl _ _).drew)
                go_wp2_with fail
                go_roundw
                case rel => exact ⟨j + 1, got2 + 1, (v : Int), by simp, rfl, by simp, HJ2.out, keep ⟨HR9.out, by have := HJG.out; omega⟩⟩
                all_goals (have := HG.out.1; simp [intOf]; omega)
              · have KU := keep KU0
                clear KU0
                unfold ptr at KU
                go_wp2_with fail
                refine KU.out.mono ?_
                rintro e w7 ⟨A7, n7, c7, rfl, hR7⟩
                have HR8 := keep (hR7.out.step (below_lay w7 (.cells #[.string ⟨#[]⟩, .int .i64 0, .int .i64 0, .bool false, .slice A7 n7 c7] 49)))
                go_wp2_with fail
                go_roundw
                case rel => exact ⟨t + 1, got2, la2, by simp, rfl, rfl, HLT.out, keep ⟨HR8.out.pp, fun _ => HR8.out⟩⟩
                all_goals (have := HLT.out; simp [intOf]; omega)
          · have HNL := keep hlast
            have hlI : ((t : Int) == (k : Int) - 1) = false := by
              have := HLT.out
              simpa using (show ¬ (t : Int) = (k : Int) - 1 by omega)
            clear hlast
            go_loopw [17, 13, 14] (fun jv lv gv wr2 => ∃ (j got2 : Nat) (la2 : Int), jv = .int .i64 (j : Int) ∧ lv = .int .i64 la2 ∧ gv = .int .i64 (got2 : Int) ∧ j ≤ 0 ∧ Hid (PP w b 1 rm la2 got2 (t + 1) wr2)) (fun _ _ gv _ => t + 2 - (intOf gv).toNat)
            case atStart => exact ⟨0, got, la, by simp, rfl, rfl, Nat.zero_le _, HR2⟩
            case round =>
              obtain ⟨j, got2, la2, rfl, rfl, rfl, hj, hR2⟩ := hrel
              by_cases hjl : j < 0
              · exact absurd hjl (Nat.not_lt_zero _)
              · obtain rfl : j = 0 := by omega
                clear hjl
                go_wp2_with fail
                go_roundw
                case rel => exact ⟨t + 1, got2, la2, by simp, rfl, rfl, HLT.out, keep ⟨hR2.out, fun e => absurd e HNL.out⟩⟩
                all_goals (have := HLT.out; simp [intOf]; omega)
      · obtain rfl : t = k := by omega
        obtain ⟨lost, hsum, hold, KL0, KF0⟩ := pe_end (hR.out.2 rfl)
        have HBL := keep hR.out.1.bl
        have KL := keep KL0
        have KF := keep KF0
        have hsI : (got : Int) + (lost : Int) = (t : Int) := by omega
        skip
        unfold ptr at KL
        unfold ptr tS at KF
        have hgtI : ¬ (t : Int) < (t : Int) := by omega
        clear hlt hR KL0 KF0 hsum hold
        go_wp2_with fail
        refine KL.out.mono ?_
        rintro e w8 ⟨rfl, rfl⟩
        go_wp2_with fail
        refine KF.out.mono ?_
        rintro e w9 ⟨rfl, rfl⟩
        go_wp2
        go_ret
        exact ⟨rfl, HBL.out⟩
  | false =>
    have hd200 : decide ((200 : Int) < (n : Int)) = false := decide_eq_false h200I
    obtain ⟨rm, hrm⟩ : ∃ rm, clampT room 64 = rm := ⟨_, rfl⟩
    have KN := keep fun W (hb : Below w.heap.size w W) => New_q (w := w) 3 room hb
    rw [show clampT 3 16 = 3 from rfl, hrm] at KN
    have K1 := keep fun b W (h : RQ w b (newM 3 rm) W) => Join_q h wf0 (by rw [(r0_facts rm).2.2.1]; decide)
    rw [(r0_facts rm).1] at K1
    have K2 := keep fun b W (h : RQ w b (joinM (newM 3 rm) 0) W) => Join_q h wf1 (by rw [(r0_facts rm).2.2.2.1]; decide)
    rw [(r0_facts rm).2.1] at K2
    have K4 := keep fun b W (h : RQ w b (R0 rm) W) => Subscribe_q h wf1 (s := tS) (by decide) 2
    rw [(p1_pm rm 2 md2).1] at K4
    have HA := keep hA
    have HK := keep hk128
    have hkI : (k : Int) < 128 := by omega
    clear hA hn hr h200 hk128 hrm
    unfold ptr at K1 K2 KN
    unfold ptr tS at K4
    go_enter Try.func6, Try.ntmps6
    go_wp2_with fail
    refine KA.out.mono ?_
    rintro e w1 ⟨rfl, hb1⟩
    have HB1 := keep hb1
    clear hb1
    go_wp2_with fail
    refine (KN.out _ HB1.out).mono ?_
    rintro e w2 ⟨b, rfl, h2⟩
    go_wp2_with fail
    refine (K1.out b w2 h2.out).mono ?_
    rintro e w3 ⟨rfl, h3⟩
    go_wp2_with fail
    refine (K2.out b w3 h3.out).mono ?_
    rintro e w4 ⟨rfl, h4⟩
    go_wp2_with fail
    refine (K4.out b w4 h4.out).mono ?_
    rintro e w6 ⟨rfl, h6⟩
    have HQ := keep (show PP w b 2 rm (-1) 0 0 w6 from ⟨_, [], 0, h6.out, (p1_pm rm 2 md2).2, ⟨by simp, by simp, rfl, by decide, fun _ h => absurd h (by decide)⟩⟩)
    clear K1 K2 K4 KN KA h2 h3 h4 h6
    go_wp2_with fail
    go_loopw [15, 13, 14] (fun iv lv gv wr => ∃ (t got : Nat) (la : Int), iv = .int .i64 (t : Int) ∧ lv = .int .i64 la ∧ gv = .int .i64 (got : Int) ∧ t ≤ k ∧ Hid (PP w b 2 rm la got t wr ∧ (t = k → PE w b 2 rm la got t wr))) (fun iv _ _ _ => k - (intOf iv).toNat)
    case atStart => exact ⟨0, 0, -1, by simp, by simp, by simp, Nat.zero_le _, keep ⟨HQ.out, fun _ => HQ.out.zero⟩⟩
    case round =>
      obtain ⟨t, got, la, rfl, rfl, rfl, ht, hR⟩ := hrel
      by_cases hlt : t < k
      · have hltI : (t : Int) < (k : Int) := by omega
        have HLT := keep hlt
        have hkk := HK.out
        have hw8 : IntKind.u8.wrap (t : Int) = (t : Int) := by rw [show IntKind.u8.wrap (t : Int) = (t : Int) % 256 from rfl]; omega
        have hm8 : (t : Int) % 256 = (t : Int) := by omega
        have hbs := BS.laid wr 5 [(t : Int)] (by intro x hx; rw [List.mem_singleton.1 hx]; omega)
        have hR1 := hR.out.1.step (below_lay wr (.cells #[.int .u8 (t : Int)] 5))
        have KP := keep (pp_pub hR1 md2 (by omega) (A := some ⟨wr.heap.size, 0, none⟩) hbs)
        have HKK := keep (show t + 1 ≤ 128 by omega)
        have HGG := keep hR.out.1.got_le.1
        unfold ptr tS at KP
        clear hR hR1 hbs hlt hkk
        go_wp2_with fail
        refine KP.out.mono ?_
        rintro e w8 ⟨v0, rfl, HR2⟩
        clear KP
        by_cases htn : t < n
        · obtain ⟨bb, o, z, rfl, hbb, hcell, hz, hzw⟩ := HA.out.at_ htn
          obtain ⟨mm, hmm, hmm4⟩ : ∃ mm : Nat, bits .and .i64 z 3 = (mm : Int) ∧ mm < 4 := by
            have := and_i64 z 2 (by decide)
            refine ⟨(z % 4).toNat, this.trans ?_, by omega⟩
            show z % 4 = _
            omega
          have htnI : (t : Int) < (n : Int) := by omega
          have hcw := (HR2.out.bl.cell (p := ⟨bb, o + t, none⟩) hbb).trans hcell
          have hmmI : (mm : Int) < 4 := by omega
          clear hcell hz hzw htn hbb hmm4
          go_wp2_with fail
          rename World => wxmm
          by_cases hlast : t + 1 = k
          · have hlI : ((t : Int) == (k : Int) - 1) = true := by rw [beq_iff_eq]; omega
            have HLAST := keep hlast
            clear hlast
            go_loopw [17, 13, 14] (fun jv lv gv wr2 => ∃ (j got2 : Nat) (la2 : Int), jv = .int .i64 (j : Int) ∧ lv = .int .i64 la2 ∧ gv = .int .i64 (got2 : Int) ∧ j ≤ 2000 ∧ Hid (PP w b 2 rm la2 got2 (t + 1) wr2 ∧ j + got = got2)) (fun _ _ gv _ => t + 2 - (intOf gv).toNat)
            case atStart => exact ⟨0, got, la, by simp, rfl, rfl, by decide, keep ⟨HR2.out, by simp⟩⟩
            case round =>
              obtain ⟨j, got2, la2, rfl, rfl, rfl, hj, hR2'⟩ := hrel
              have hR2 := keep hR2'.out.1
              have hjg := hR2'.out.2
              have hgl := hR2.out.got_le
              have hjI : (j : Int) ≤ 200 := by have := HKK.out; omega
              have HJ2 := keep (show j + 1 ≤ 2000 by have := HKK.out; omega)
              have HJG := keep hjg
              clear hR2' hjg hgl hj
              by_cases hjm : (j : Int) < (mm : Int)
              · rcases pp_pull hR2.out with ⟨v, ⟨hvl, hvc⟩, KU0⟩ | KU0
                · have KU := keep KU0
                  clear KU0
                  unfold ptr tS at KU
                  have hb8 : ((b8 (v : Int)).toNat : Int) = (v : Int) := b8_of _ (by omega) (by have := HKK.out; omega)
                  have hu8 : IntKind.u8.wrap (v : Int) = (v : Int) := by rw [show IntKind.u8.wrap (v : Int) = (v : Int) % 256 from rfl]; have := HKK.out; omega
                  have hu9 : (v : Int) % 256 = (v : Int) := by have := HKK.out; omega
                  have HB8 := keep hb8
                  have hle9 : decide ((v : Int) ≤ la2) = false := decide_eq_false (by omega)
                  have HVC := keep hvc
                  have HG := keep (hR2.out.got_le)
                  have hgI : (got2 : Int) ≤ 200 := by have := HG.out.1; have := HKK.out; omega
                  clear hb8 hvl hvc
                  go_wp2_with fail
                  refine KU.out.mono ?_
                  rintro e w7 ⟨A7, c7, rfl, hd7, hR7⟩
                  obtain ⟨b7, o7, rfl, hb7l, hc7⟩ := hd7.out.br.at_ (j := 0) (by simp)
                  have HR8 := keep (hR7.out.step (below_lay w7 (.cells #[.string ⟨#[116]⟩, .int .i64 0, .int .i64 (v : Int), .bool false, .slice (some ⟨b7, o7, none⟩) 1 c7] 49)))
                  have hc8 := ((below_lay w7 (.cells #[.string ⟨#[116]⟩, .int .i64 0, .int .i64 (v : Int), .bool false, .slice (some ⟨b7, o7, none⟩) 1 c7] 49)).cell (p := ⟨b7, o7 + 0, none⟩) hb7l).trans hc7
                  rw [show ([b8 (v : Int)] : List UInt8)[0] = b8 (v : Int) from rfl, HB8.out, Nat.add_zero] at hc8
                  have HSX := keep (show (w7.alloc (.cells #[.string ⟨#[116]⟩, .int .i64 0, .int .i64 (v : Int), .bool false, .slice (some ⟨b7, o7, none⟩) 1 c7] 49)).cell? ⟨w7.heap.size, 2, none⟩ = some (.int .i64 (v : Int)) ∧ (w7.alloc (.cells #[.string ⟨#[116]⟩, .int .i64 0, .int .i64 (v : Int), .bool false, .slice (some ⟨b7, o7, none⟩) 1 c7] 49)).cell? ⟨w7.heap.size, 4, none⟩ = some (.slice (some ⟨b7, o7, none⟩) 1 c7) ∧ (w7.alloc (.cells #[.string ⟨#[116]⟩, .int .i64 0, .int .i64 (v : Int), .bool false, .slice (some ⟨b7, o7, none⟩) 1 c7] 49)).cell? ⟨b7, o7, none⟩ = some (.int .u8 (v : Int)) from ⟨by simp, by simp, hc8⟩)
                  clear hc7 hb7l
                  go_wp2_with fail
                  go_region_held3 (fun w' => w'.cell? ⟨w7.heap.size, 2, none⟩ = some (.int .i64 (v : Int)) ∧ w'.cell? ⟨w7.heap.size, 4, none⟩ = some (.slice (some ⟨b7, o7, none⟩) 1 c7) ∧ w'.cell? ⟨b7, o7, none⟩ = some (.int .u8 (v : Int)))
                    (first | exact HSX.out) (first | fail)
                  have HR9 := keep (HR8.out.step (Below.refl _ _).drew)
                  go_wp2_with fail
                  go_roundw
                  case rel => exact ⟨j + 1, got2 + 1, (v : Int), by simp, rfl, by simp, HJ2.out, keep ⟨HR9.out, by have := HJG.out; omega⟩⟩
                  all_goals (have := HG.out.1; simp [intOf]; omega)
                · have KU := keep KU0
                  clear KU0
                  unfold ptr at KU
                  go_wp2_with fail
                  refine KU.out.mono ?_
                  rintro e w7 ⟨A7, n7, c7, rfl, hR7⟩
                  have HR8 := keep (hR7.out.step (below_lay w7 (.cells #[.string ⟨#[]⟩, .int .i64 0, .int .i64 0, .bool false, .slice A7 n7 c7] 49)))
                  go_wp2_with fail
                  go_roundw
                  case rel => exact ⟨t + 1, got2, la2, by simp, rfl, rfl, HLT.out, keep ⟨HR8.out.pp, fun _ => HR8.out⟩⟩
                  all_goals (have := HLT.out; simp [intOf]; omega)
              · rcases pp_pull hR2.out with ⟨v, ⟨hvl, hvc⟩, KU0⟩ | KU0
                · have KU := keep KU0
                  clear KU0
                  unfold ptr tS at KU
                  have hb8 : ((b8 (v : Int)).toNat : Int) = (v : Int) := b8_of _ (by omega) (by have := HKK.out; omega)
                  have hu8 : IntKind.u8.wrap (v : Int) = (v : Int) := by rw [show IntKind.u8.wrap (v : Int) = (v : Int) % 256 from rfl]; have := HKK.out; omega
                  have hu9 : (v : Int) % 256 = (v : Int) := by have := HKK.out; omega
                  have HB8 := keep hb8
                  have hle9 : decide ((v : Int) ≤ la2) = false := decide_eq_false (by omega)
                  have HVC := keep hvc
                  have HG := keep (hR2.out.got_le)
                  have hgI : (got2 : Int) ≤ 200 := by have := HG.out.1; have := HKK.out; omega
                  clear hb8 hvl hvc
                  go_wp2_with fail
                  refine KU.out.mono ?_
                  rintro e w7 ⟨A7, c7, rfl, hd7, hR7⟩
                  obtain ⟨b7, o7, rfl, hb7l, hc7⟩ := hd7.out.br.at_ (j := 0) (by simp)
                  have HR8 := keep (hR7.out.step (below_lay w7 (.cells #[.string ⟨#[116]⟩, .int .i64 0, .int .i64 (v : Int), .bool false, .slice (some ⟨b7, o7, none⟩) 1 c7] 49)))
                  have hc8 := ((below_lay w7 (.cells #[.string ⟨#[116]⟩, .int .i64 0, .int .i64 (v : Int), .bool false, .slice (some ⟨b7, o7, none⟩) 1 c7] 49)).cell (p := ⟨b7, o7 + 0, none⟩) hb7l).trans hc7
                  rw [show ([b8 (v : Int)] : List UInt8)[0] = b8 (v : Int) from rfl, HB8.out, Nat.add_zero] at hc8
                  have HSX := keep (show (w7.alloc (.cells #[.string ⟨#[116]⟩, .int .i64 0, .int .i64 (v : Int), .bool false, .slice (some ⟨b7, o7, none⟩) 1 c7] 49)).cell? ⟨w7.heap.size, 2, none⟩ = some (.int .i64 (v : Int)) ∧ (w7.alloc (.cells #[.string ⟨#[116]⟩, .int .i64 0, .int .i64 (v : Int), .bool false, .slice (some ⟨b7, o7, none⟩) 1 c7] 49)).cell? ⟨w7.heap.size, 4, none⟩ = some (.slice (some ⟨b7, o7, none⟩) 1 c7) ∧ (w7.alloc (.cells #[.string ⟨#[116]⟩, .int .i64 0, .int .i64 (v : Int), .bool false, .slice (some ⟨b7, o7, none⟩) 1 c7] 49)).cell? ⟨b7, o7, none⟩ = some (.int .u8 (v : Int)) from ⟨by simp, by simp, hc8⟩)
                  clear hc7 hb7l
                  go_wp2_with fail
                  go_region_held3 (fun w' => w'.cell? ⟨w7.heap.size, 2, none⟩ = some (.int .i64 (v : Int)) ∧ w'.cell? ⟨w7.heap.size, 4, none⟩ = some (.slice (some ⟨b7, o7, none⟩) 1 c7) ∧ w'.cell? ⟨b7, o7, none⟩ = some (.int .u8 (v : Int)))
                    (first | exact HSX.out) (first | fail)
                  have HR9 := keep (HR8.out.step (Below.refl _ _).drew)
                  go_wp2_with fail
                  go_roundw
                  case rel => exact ⟨j + 1, got2 + 1, (v : Int), by simp, rfl, by simp, HJ2.out, keep ⟨HR9.out, by have := HJG.out; omega⟩⟩
                  all_goals (have := HG.out.1; simp [intOf]; omega)
                · have KU := keep KU0
                  clear KU0
                  unfold ptr at KU
                  go_wp2_with fail
                  refine KU.out.mono ?_
                  rintro e w7 ⟨A7, n7, c7, rfl, hR7⟩
                  have HR8 := keep (hR7.out.step (below_lay w7 (.cells #[.string ⟨#[]⟩, .int .i64 0, .int .i64 0, .bool false, .slice A7 n7 c7] 49)))
                  go_wp2_with fail
                  go_roundw
                  case rel => exact ⟨t + 1, got2, la2, by simp, rfl, rfl, HLT.out, keep ⟨HR8.out.pp, fun _ => HR8.out⟩⟩
                  all_goals (have := HLT.out; simp [intOf]; omega)
          · have HNL := keep hlast
            have hlI : ((t : Int) == (k : Int) - 1) = false := by
              have := HLT.out
              simpa using (show ¬ (t : Int) = (k : Int) - 1 by omega)
            clear hlast
            go_loopw [17, 13, 14] (fun jv lv gv wr2 => ∃ (j got2 : Nat) (la2 : Int), jv = .int .i64 (j : Int) ∧ lv = .int .i64 la2 ∧ gv = .int .i64 (got2 : Int) ∧ j ≤ mm ∧ Hid (PP w b 2 rm la2 got2 (t + 1) wr2)) (fun _ _ gv _ => t + 2 - (intOf gv).toNat)
            case atStart => exact ⟨0, got, la, by simp, rfl, rfl, Nat.zero_le _, HR2⟩
            case round =>
              obtain ⟨j, got2, la2, rfl, rfl, rfl, hj, hR2⟩ := hrel
              by_cases hjl : j < mm
              · have hjI : (j : Int) < (mm : Int) := by omega
                have HJ2 := keep (show j + 1 ≤ mm from hjl)
                clear hjl
                rcases pp_pull hR2.out with ⟨v, ⟨hvl, hvc⟩, KU0⟩ | KU0
                · have KU := keep KU0
                  clear KU0
                  unfold ptr tS at KU
                  have hb8 : ((b8 (v : Int)).toNat : Int) = (v : Int) := b8_of _ (by omega) (by have := HKK.out; omega)
                  have hu8 : IntKind.u8.wrap (v : Int) = (v : Int) := by rw [show IntKind.u8.wrap (v : Int) = (v : Int) % 256 from rfl]; have := HKK.out; omega
                  have hu9 : (v : Int) % 256 = (v : Int) := by have := HKK.out; omega
                  have HB8 := keep hb8
                  have hle9 : decide ((v : Int) ≤ la2) = false := decide_eq_false (by omega)
                  have HVC := keep hvc
                  have HG := keep (hR2.out.got_le)
                  have hgI : (got2 : Int) ≤ 200 := by have := HG.out.1; have := HKK.out; omega
                  clear hb8 hvl hvc
                  go_wp2_with fail
                  refine KU.out.mono ?_
                  rintro e w7 ⟨A7, c7, rfl, hd7, hR7⟩
                  obtain ⟨b7, o7, rfl, hb7l, hc7⟩ := hd7.out.br.at_ (j := 0) (by simp)
                  have HR8 := keep (hR7.out.step (below_lay w7 (.cells #[.string ⟨#[116]⟩, .int .i64 0, .int .i64 (v : Int), .bool false, .slice (some ⟨b7, o7, none⟩) 1 c7] 49)))
                  have hc8 := ((below_lay w7 (.cells #[.string ⟨#[116]⟩, .int .i64 0, .int .i64 (v : Int), .bool false, .slice (some ⟨b7, o7, none⟩) 1 c7] 49)).cell (p := ⟨b7, o7 + 0, none⟩) hb7l).trans hc7
                  rw [show ([b8 (v : Int)] : List UInt8)[0] = b8 (v : Int) from rfl, HB8.out, Nat.add_zero] at hc8
                  have HSX := keep (show (w7.alloc (.cells #[.string ⟨#[116]⟩, .int .i64 0, .int .i64 (v : Int), .bool false, .slice (some ⟨b7, o7, none⟩) 1 c7] 49)).cell? ⟨w7.heap.size, 2, none⟩ = some (.int .i64 (v : Int)) ∧ (w7.alloc (.cells #[.string ⟨#[116]⟩, .int .i64 0, .int .i64 (v : Int), .bool false, .slice (some ⟨b7, o7, none⟩) 1 c7] 49)).cell? ⟨w7.heap.size, 4, none⟩ = some (.slice (some ⟨b7, o7, none⟩) 1 c7) ∧ (w7.alloc (.cells #[.string ⟨#[116]⟩, .int .i64 0, .int .i64 (v : Int), .bool false, .slice (some ⟨b7, o7, none⟩) 1 c7] 49)).cell? ⟨b7, o7, none⟩ = some (.int .u8 (v : Int)) from ⟨by simp, by simp, hc8⟩)
                  clear hc7 hb7l
                  go_wp2_with fail
                  go_region_held3 (fun w' => w'.cell? ⟨w7.heap.size, 2, none⟩ = some (.int .i64 (v : Int)) ∧ w'.cell? ⟨w7.heap.size, 4, none⟩ = some (.slice (some ⟨b7, o7, none⟩) 1 c7) ∧ w'.cell? ⟨b7, o7, none⟩ = some (.int .u8 (v : Int)))
                    (first | exact HSX.out) (first | fail)
                  have HR9 := keep (HR8.out.step (Below.refl _ _).drew)
                  go_wp2_with fail
                  go_roundw
                  case rel => exact ⟨j + 1, got2 + 1, (v : Int), by simp, rfl, by simp, HJ2.out, HR9⟩
                  all_goals (have := HG.out.1; simp [intOf]; omega)
                · have KU := keep KU0
                  clear KU0
                  unfold ptr at KU
                  go_wp2_with fail
                  refine KU.out.mono ?_
                  rintro e w7 ⟨A7, n7, c7, rfl, hR7⟩
                  have HR8 := keep (hR7.out.step (below_lay w7 (.cells #[.string ⟨#[]⟩, .int .i64 0, .int .i64 0, .bool false, .slice A7 n7 c7] 49)))
                  go_wp2_with fail
                  go_roundw
                  case rel => exact ⟨t + 1, got2, la2, by simp, rfl, rfl, HLT.out, keep ⟨HR8.out.pp, fun e => absurd e HNL.out⟩⟩
                  all_goals (have := HLT.out; simp [intOf]; omega)
              · obtain rfl : j = mm := by omega
                clear hjl
                go_wp2_with fail
                go_roundw
                case rel => exact ⟨t + 1, got2, la2, by simp, rfl, rfl, HLT.out, keep ⟨hR2.out, fun e => absurd e HNL.out⟩⟩
                all_goals (have := HLT.out; simp [intOf]; omega)
        · have htnI : ¬ (t : Int) < (n : Int) := by omega
          have hdtn : decide ((t : Int) < (n : Int)) = false := decide_eq_false htnI
          have hdtm : decide (t < n) = false := decide_eq_false (by omega)
          clear htn
          go_wp2_with fail
          rename World => wx0
          by_cases hlast : t + 1 = k
          · have hlI : ((t : Int) == (k : Int) - 1) = true := by rw [beq_iff_eq]; omega
            have HLAST := keep hlast
            clear hlast
            go_loopw [17, 13, 14] (fun jv lv gv wr2 => ∃ (j got2 : Nat) (la2 : Int), jv = .int .i64 (j : Int) ∧ lv = .int .i64 la2 ∧ gv = .int .i64 (got2 : Int) ∧ j ≤ 2000 ∧ Hid (PP w b 2 rm la2 got2 (t + 1) wr2 ∧ j + got = got2)) (fun _ _ gv _ => t + 2 - (intOf gv).toNat)
            case atStart => exact ⟨0, got, la, by simp, rfl, rfl, by decide, keep ⟨HR2.out, by simp⟩⟩
            case round =>
              obtain ⟨j, got2, la2, rfl, rfl, rfl, hj, hR2'⟩ := hrel
              have hR2 := keep hR2'.out.1
              have hjg := hR2'.out.2
              have hgl := hR2.out.got_le
              have hjI : (j : Int) ≤ 200 := by have := HKK.out; omega
              have HJ2 := keep (show j + 1 ≤ 2000 by have := HKK.out; omega)
              have HJG := keep hjg
              clear hR2' hjg hgl hj
              have hj0 : ¬ (j : Int) < 0 := by omega
              rcases pp_pull hR2.out with ⟨v, ⟨hvl, hvc⟩, KU0⟩ | KU0
              · have KU := keep KU0
                clear KU0
                unfold ptr tS at KU
                have hb8 : ((b8 (v : Int)).toNat : Int) = (v : Int) := b8_of _ (by omega) (by have := HKK.out; omega)
                have hu8 : IntKind.u8.wrap (v : Int) = (v : Int) := by rw [show IntKind.u8.wrap (v : Int) = (v : Int) % 256 from rfl]; have := HKK.out; omega
                have hu9 : (v : Int) % 256 = (v : Int) := by have := HKK.out; omega
                have HB8 := keep hb8
                have hle9 : decide ((v : Int) ≤ la2) = false := decide_eq_false (by omega)
                have HVC := keep hvc
                have HG := keep (hR2.out.got_le)
                have hgI : (got2 : Int) ≤ 200 := by have := HG.out.1; have := HKK.out; omega
                clear hb8 hvl hvc
                go_wp2_with fail
                refine KU.out.mono ?_
                rintro e w7 ⟨A7, c7, rfl, hd7, hR7⟩
                obtain ⟨b7, o7, rfl, hb7l, hc7⟩ := hd7.out.br.at_ (j := 0) (by simp)
                have HR8 := keep (hR7.out.step (below_lay w7 (.cells #[.string ⟨#[116]⟩, .int .i64 0, .int .i64 (v : Int), .bool false, .slice (some ⟨b7, o7, none⟩) 1 c7] 49)))
                have hc8 := ((below_lay w7 (.cells #[.string ⟨#[116]⟩, .int .i64 0, .int .i64 (v : Int), .bool false, .slice (some ⟨b7, o7, none⟩) 1 c7] 49)).cell (p := ⟨b7, o7 + 0, none⟩) hb7l).trans hc7
                rw [show ([b8 (v : Int)] : List UInt8)[0] = b8 (v : Int) from rfl, HB8.out, Nat.add_zero] at hc8
                have HSX := keep (show (w7.alloc (.cells #[.string ⟨#[116]⟩, .int .i64 0, .int .i64 (v : Int), .bool false, .slice (some ⟨b7, o7, none⟩) 1 c7] 49)).cell? ⟨w7.heap.size, 2, none⟩ = some (.int .i64 (v : Int)) ∧ (w7.alloc (.cells #[.string ⟨#[116]⟩, .int .i64 0, .int .i64 (v : Int), .bool false, .slice (some ⟨b7, o7, none⟩) 1 c7] 49)).cell? ⟨w7.heap.size, 4, none⟩ = some (.slice (some ⟨b7, o7, none⟩) 1 c7) ∧ (w7.alloc (.cells #[.string ⟨#[116]⟩, .int .i64 0, .int .i64 (v : Int), .bool false, .slice (some ⟨b7, o7, none⟩) 1 c7] 49)).cell? ⟨b7, o7, none⟩ = some (.int .u8 (v : Int)) from ⟨by simp, by simp, hc8⟩)
                clear hc7 hb7l
                go_wp2_with fail
                go_region_held3 (fun w' => w'.cell? ⟨w7.heap.size, 2, none⟩ = some (.int .i64 (v : Int)) ∧ w'.cell? ⟨w7.heap.size, 4, none⟩ = some (.slice (some ⟨b7, o7, none⟩) 1 c7) ∧ w'.cell? ⟨b7, o7, none⟩ = some (.int .u8 (v : Int)))
                  (first | exact HSX.out) (first | fail)
                have HR9 := keep (HR8.out.step (Below.refl _ _).drew)
                go_wp2_with fail
                go_roundw
                case rel => exact ⟨j + 1, got2 + 1, (v : Int), by simp, rfl, by simp, HJ2.out, keep ⟨HR9.out, by have := HJG.out; omega⟩⟩
                all_goals (have := HG.out.1; simp [intOf]; omega)
              · have KU := keep KU0
                clear KU0
                unfold ptr at KU
                go_wp2_with fail
                refine KU.out.mono ?_
                rintro e w7 ⟨A7, n7, c7, rfl, hR7⟩
                have HR8 := keep (hR7.out.step (below_lay w7 (.cells #[.string ⟨#[]⟩, .int .i64 0, .int .i64 0, .bool false, .slice A7 n7 c7] 49)))
                go_wp2_with fail
                go_roundw
                case rel => exact ⟨t + 1, got2, la2, by simp, rfl, rfl, HLT.out, keep ⟨HR8.out.pp, fun _ => HR8.out⟩⟩
                all_goals (have := HLT.out; simp [intOf]; omega)
          · have HNL := keep hlast
            have hlI : ((t : Int) == (k : Int) - 1) = false := by
              have := HLT.out
              simpa using (show ¬ (t : Int) = (k : Int) - 1 by omega)
            clear hlast
            go_loopw [17, 13, 14] (fun jv lv gv wr2 => ∃ (j got2 : Nat) (la2 : Int), jv = .int .i64 (j : Int) ∧ lv = .int .i64 la2 ∧ gv = .int .i64 (got2 : Int) ∧ j ≤ 0 ∧ Hid (PP w b 2 rm la2 got2 (t + 1) wr2)) (fun _ _ gv _ => t + 2 - (intOf gv).toNat)
            case atStart => exact ⟨0, got, la, by simp, rfl, rfl, Nat.zero_le _, HR2⟩
            case round =>
              obtain ⟨j, got2, la2, rfl, rfl, rfl, hj, hR2⟩ := hrel
              by_cases hjl : j < 0
              · exact absurd hjl (Nat.not_lt_zero _)
              · obtain rfl : j = 0 := by omega
                clear hjl
                go_wp2_with fail
                go_roundw
                case rel => exact ⟨t + 1, got2, la2, by simp, rfl, rfl, HLT.out, keep ⟨hR2.out, fun e => absurd e HNL.out⟩⟩
                all_goals (have := HLT.out; simp [intOf]; omega)
      · obtain rfl : t = k := by omega
        obtain ⟨lost, hsum, hold, KL0, KF0⟩ := pe_end (hR.out.2 rfl)
        have HBL := keep hR.out.1.bl
        have KL := keep KL0
        have KF := keep KF0
        have hsI : (got : Int) + (lost : Int) = (t : Int) := by omega
        have HOLD := keep (hold rfl)
        unfold ptr at KL
        unfold ptr tS at KF
        have hgtI : ¬ (t : Int) < (t : Int) := by omega
        clear hlt hR KL0 KF0 hsum hold
        go_wp2_with fail
        refine KL.out.mono ?_
        rintro e w8 ⟨rfl, rfl⟩
        go_wp2_with fail
        refine KF.out.mono ?_
        rintro e w9 ⟨rfl, rfl⟩
        by_cases hk0 : t = 0
        · have hk0I : (t : Int) = 0 := by omega
          subst hk0
          go_wp2
          go_ret
          exact ⟨rfl, HBL.out⟩
        · have hla : la = (t : Int) - 1 := HOLD.out (by omega)
          subst hla
          have hk0I : ((t : Int) == 0) = false := by simpa using hk0
          clear hk0
          go_wp2
          go_ret
          exact ⟨rfl, HBL.out⟩
end Go.Proofs.Ytnbicbnighpkjaa
