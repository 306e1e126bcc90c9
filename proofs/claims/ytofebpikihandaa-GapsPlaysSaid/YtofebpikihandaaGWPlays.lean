/- GapsPlays: the program's set and the document's answer alike. -/
import Derived.Test.YtofebpikihandaaGP6
import Derived.Test.YtofebpikihandaaGI
import Derived.Test.YtofebpikihandaaGOps
import Derived.Deep.Cut
import Derived.Deep.CutBlock
import Derived.Deep.CutRange
import Derived.Deep.RegionHeld3
namespace Go.Proofs.Ytofebpikihandaa
open Go.RowKit Go.Maps
set_option linter.unusedVariables false

theorem Both.few {w0 w : World} {b k b2 : Nat} {s t : St} (h : Both w0 w b k b2 s t) : s.T.length ≤ 64 := by
  obtain ⟨v, g, off, c, v2, h⟩ := h
  exact h.sa.few
set_option maxHeartbeats 8000000 in
set_option maxRecDepth 1000000 in
theorem gapsPlays_walk (a : Int) (A : Option Addr) (m c : Nat) (p q : Nat → Int) (w : World) (ha : (Lit.int .u32 a).wf = true) (hA : Acts w A m p q) :
    Calls Try.prog 3 #[.int .u32 a, .slice A m c] w fun e w' => e = .returned (.bool true) ∧ Below w.heap.size w w' := by
  have hF := keep (of_wf32 ha)
  clear ha
  have HA := keep hA
  clear hA
  by_cases h100 : m ≤ 100
  · have hz : ¬ (100 : Int) < (m : Int) := by omega
    go_enter Try.func3, Try.ntmps3
    go_wp2_with (first
      | (go_at_call 5; refine (awake_any _).mono ?_; rintro e w1 ⟨rfl, h1⟩; replace h1 := keep h1)
      | (go_at_call 6; refine (New_any a hF.out.1 hF.out.2 _).mono ?_; rintro e w2 ⟨b, k, rfl, g1, g2, g3, g4⟩; have g5 := keep (h1.out.trans (g4.mono h1.out.size)); have g6 := keep (And.intro (Nat.le_trans h1.out.size g2) (Nat.le_trans h1.out.size g3)); replace g1 := keep g1; clear g2 g3 g4)
      | (go_at_call 7; refine (New_both a hF.out.1 hF.out.2 g5.out g1.out g6.out.1 g6.out.2).mono ?_; rintro e w3 ⟨b2, rfl, h2⟩; replace h2 := keep h2))
    clear g1 g5 g6 h1
    go_loopw [8] (fun vi wr => ∃ (j : Nat) (s : St), vi = .int .i64 j ∧ j ≤ m ∧ Hid (Both w wr b k b2 s s ∧ s.L.length ≤ j)) (fun vi _ => m - nat_of vi)
    case atStart => exact ⟨0, _, rfl, Nat.zero_le _, h2.out, Nat.le_refl _⟩
    case round =>
      obtain ⟨j, s, rfl, hj, HJ⟩ := hrel
      by_cases hjm : j < m
      · obtain ⟨gb, o, rfl, _, hc⟩ := (HA.out.step HJ.out.1.below) (by omega)
        have c0 := (hc j hjm).1
        have c1 := (hc j hjm).2.1
        have hjz : (j : Int) < (m : Int) := by omega
        have H100 := keep (show j + 1 ≤ 255 by omega)
        clear hc h2 hz h100
        go_upto_block 2 with fail
        obtain ⟨n, hn⟩ : ∃ n, (a + q j) % 4294967296 = n := ⟨_, rfl⟩
        have hn0 := keep (show 0 ≤ n by rw [← hn]; exact wr_lo _)
        have hn1 := keep (show n < 4294967296 by rw [← hn]; exact wr_hi _)
        rw [hn]
        clear hn c1
        go_cut [] from 19 to 101 (fun wx => ∃ s2 : St, Hid (Both w wx b k b2 s2 s2 ∧ s2.L.length ≤ j + 1))
        case first =>
          by_cases hp : p j = 0
          · have HL := keep (Nat.le_trans (len_add (s := s) (n := n)) (Nat.succ_le_succ HJ.out.2))
            rw [hp]
            clear c0 hp
            go_wp2_with (first
              | (go_at_call 8; refine (Add_both HJ.out.1 hn0.out hn1.out).mono ?_; rintro e w3 ⟨rfl, h3⟩; replace h3 := keep h3)
              | (go_at_call 9; refine (refAdd_both h3.out HJ.out.1.fit hn0.out hn1.out).mono ?_; rintro e w4 ⟨rfl, h4⟩; replace h4 := keep h4))
            go_meet
            exact ⟨_, h4.out, HL.out⟩
          · by_cases hp1 : p j = 1
            · have HL := keep (Nat.le_trans (len_fwd (s := s) (n := n)) (Nat.le_succ_of_le HJ.out.2))
              rw [hp1]
              clear c0 hp hp1
              go_wp2_with (first
                | (go_at_call 10; refine (Forward_both HJ.out.1 hn0.out hn1.out).mono ?_; rintro e w3 ⟨rfl, h3⟩; replace h3 := keep h3)
                | (go_at_call 11; refine (refForward_both h3.out HJ.out.1.fit hn0.out hn1.out).mono ?_; rintro e w4 ⟨rfl, h4⟩; replace h4 := keep h4))
              go_meet
              exact ⟨_, h4.out, HL.out⟩
            · have hq0 : (p j == 0) = false := by simp [hp]
              have hq1 : (p j == 1) = false := by simp [hp1]
              have HT := keep (show s.T.length ≤ 1000000 from Nat.le_trans HJ.out.1.few (by decide))
              clear c0 hp hp1
              go_wp2_with (first
                | (go_at_call 13; refine (Dups_both HJ.out.1).mono ?_; rintro e w3 ⟨D1, e1, rfl, hs1, ha1, h3⟩; replace h3 := keep h3; replace hs1 := keep hs1; replace ha1 := keep ha1)
                | (go_at_call 14; refine (refDups_both h3.out hs1.out ha1.out).mono ?_; rintro e w4 ⟨D2, e2, rfl, hs2, hs3, h4⟩; replace h4 := keep h4; replace hs2 := keep hs2; replace hs3 := keep hs3)
                | (go_at_call 12; refine (numbers_same hs3.out hs2.out rfl HT.out).mono ?_; rintro e w5 ⟨rfl, h5⟩; replace h5 := keep (h4.out.step h5)))
              go_meet
              exact ⟨_, h5.out, Nat.le_succ_of_le HJ.out.2⟩
        case rest =>
          obtain ⟨s2, H2⟩ := hcut
          obtain ⟨n2, hn2⟩ : ∃ n2, (n + 1) % 4294967296 = n2 := ⟨_, rfl⟩
          have hw2 : IntKind.u32.wrap (n + 1) = n2 := hn2
          have hm0 := keep (show 0 ≤ n2 by rw [← hn2]; exact wr_lo _)
          have hm1 := keep (show n2 < 4294967296 by rw [← hn2]; exact wr_hi _)
          have HJM := keep hjm
          have HLL := keep (show s2.L.length ≤ 255 from Nat.le_trans H2.out.2 H100.out)
          have HRR := keep (show (runs s2.L).length ≤ 1000000 from Nat.le_trans (runs_len _) (by decide))
          have HF := keep H2.out.1.fit
          have K0 := keep H2.out.1.drew
          have q0 := K0.out.c0
          clear c0 HJ hj hjm
          go_wp2_with fail
          go_region_held3 (fun w' => w'.cell? ⟨b2, 0, none⟩ = some (.int .u32 s2.f))
            (first | exact q0 | exact q1 | exact q2 | exact q3 | exact q4 | exact q5 | exact q6 | exact q7 | exact q8 | exact q9 | exact q10)
            (first
            | (go_at_call 15; refine (Cum_both K0.out).mono ?_; rintro e x1 ⟨rfl, hb⟩; have K1 := keep (K0.out.step hb); have q1 := K1.out.c0; clear hb)
            | (go_at_call 16; refine (Len_both K1.out).mono ?_; rintro e x2 ⟨rfl, hb⟩; have K2 := keep (K1.out.step hb); have q2 := K2.out.c0; clear hb)
            | (go_at_call 17; refine (refLen_both K2.out HF.out).mono ?_; rintro e x3 ⟨rfl, hb⟩; have K3 := keep (K2.out.step hb); have q3 := K3.out.c0; clear hb)
            | (go_at_call 19; refine (Blocks_both K3.out HLL.out).mono ?_; rintro e x4 ⟨B1, e1, rfl, hs, hb⟩; have K4 := keep (K3.out.step hb); have q4 := K4.out.c0; have S4 := keep hs; clear hb hs)
            | (go_at_call 20; refine (refBlocks_both K4.out HF.out).mono ?_; rintro e x5 ⟨B2, e2, rfl, hs, hb⟩; have K5 := keep (K4.out.step hb); have q5 := K5.out.c0; have S5 := keep (S4.out.step hb); have R5 := keep hs; clear hb hs)
            | (go_at_call 18; refine (blocks_same S5.out R5.out rfl HRR.out).mono ?_; rintro e x6 ⟨rfl, hb⟩; have K6 := keep (K5.out.step hb); have q6 := K6.out.c0; clear hb)
            | (go_at_call 21; refine (Has_both K8.out hm0.out hm1.out).mono ?_; rintro e x9 ⟨rfl, hb⟩; have K9 := keep (K8.out.step hb); have q9 := K9.out.c0; clear hb)
            | (go_at_call 21; refine (Has_both K6.out hn0.out hn1.out).mono ?_; rintro e x7 ⟨rfl, hb⟩; have K7 := keep (K6.out.step hb); have q7 := K7.out.c0; clear hb)
            | (go_at_call 22; refine (refHas_both K9.out HF.out hm0.out hm1.out).mono ?_; rintro e x10 ⟨rfl, hb⟩; have K10 := keep (K9.out.step hb); have q10 := K10.out.c0; clear hb)
            | (go_at_call 22; refine (refHas_both K7.out HF.out hn0.out hn1.out).mono ?_; rintro e x8 ⟨rfl, hb⟩; have K8 := keep (K7.out.step hb); have q8 := K8.out.c0; clear hb))
          go_wp2_with fail
          go_roundw
          case rel => exact ⟨j + 1, s2, by go_num, HJM.out, K10.out, H2.out.2⟩
          case measure => have := HJM.out; simp [nat_of]; omega
      · obtain rfl : j = m := by omega
        have hge : ¬ (j : Int) < (j : Int) := by omega
        have K := keep HJ.out.1.below
        go_wp2_with fail
        go_ret
        exact ⟨rfl, K.out⟩
  · have hz : (100 : Int) < (m : Int) := by omega
    go_enter Try.func3, Try.ntmps3
    go_wp2_with (go_at_call 5; refine (awake_any _).mono ?_; rintro e w1 ⟨rfl, h1⟩; replace h1 := keep h1)
    go_ret
    exact ⟨rfl, h1.out⟩
end Go.Proofs.Ytofebpikihandaa
