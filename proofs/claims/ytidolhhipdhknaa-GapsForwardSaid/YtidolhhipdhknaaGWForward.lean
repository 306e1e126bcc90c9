/- GapsForward: what is skipped is had. -/
import Derived.Test.YtidolhhipdhknaaGI
import Derived.Test.YtidolhhipdhknaaGOps
import Derived.Test.YtidolhhipdhknaaBits32
namespace Go.Proofs.Ytidolhhipdhknaa
open Go.RowKit Go.Maps
set_option linter.unusedVariables false

set_option maxHeartbeats 8000000 in
theorem gapsForward_walk (a : Int) (A : Option Addr) (m c : Nat) (p q : Nat → Int) (n y : Int) (w : World) (ha : (Lit.int .u32 a).wf = true) (hA : Acts w A m p q) (hn : (Lit.int .u32 n).wf = true) (hy : (Lit.int .u32 y).wf = true) :
    Calls Try.prog 8 #[.int .u32 a, .slice A m c, .int .u32 n, .int .u32 y] w fun e w' => e = .returned (.bool true) ∧ Below w.heap.size w w' := by
  have hF := keep (of_wf32 ha)
  obtain ⟨n0, n1⟩ := of_wf32 hn
  obtain ⟨y0, y1⟩ := of_wf32 hy
  obtain ⟨d, hd⟩ : ∃ d : Nat, n % 1073741824 = d := ⟨(n % 1073741824).toNat, by omega⟩
  obtain ⟨z, hz'⟩ : ∃ z : Nat, y % 1073741824 = z := ⟨(y % 1073741824).toNat, by omega⟩
  have hd2 : d < 1073741824 := by omega
  have hz2 : z < 1073741824 := by omega
  have e1 : bits .and .u32 n 1073741823 = (d : Int) := (and30 n n0 n1).trans hd
  have e2 : bits .and .u32 y 1073741823 = (z : Int) := (and30 y y0 y1).trans hz'
  clear ha hn hy n0 n1 y0 y1 hd hz'
  have HA := keep hA
  clear hA
  by_cases h100 : m ≤ 100
  · have hz : ¬ (100 : Int) < (m : Int) := by omega
    go_enter Try.func8, Try.ntmps8
    go_wp2_with (first
      | (go_at_call 9; refine (awake_any _).mono ?_; rintro e w1 ⟨rfl, h1⟩; replace h1 := keep h1)
      | (go_at_call 10; refine (New_kept a hF.out.1 hF.out.2 w _ h1.out).mono ?_; rintro e w2 ⟨b, k, rfl, h2⟩; replace h2 := keep h2))
    go_loopw [11] (fun vi wr => ∃ (j : Nat) (s : St), vi = .int .i64 j ∧ j ≤ m ∧ Hid (Kept w wr b k s ∧ s.L.length ≤ j)) (fun vi _ => m - nat_of vi)
    case atStart => exact ⟨0, _, rfl, Nat.zero_le _, h2.out, Nat.le_refl _⟩
    case round =>
      obtain ⟨j, s, rfl, hj, HJ⟩ := hrel
      by_cases hjm : j < m
      · obtain ⟨gb, o, rfl, _, hc⟩ := (HA.out.step HJ.out.1.below) (by omega)
        have c1 := (hc j hjm).2.1
        have hjz : (j : Int) < (m : Int) := by omega
        have HX := keep (Add_kept HJ.out.1 (n := (a + q j) % 4294967296) (wr_lo _) (wr_hi _))
        clear hc
        go_wp2_with (go_at_call 12; refine HX.out.mono ?_; rintro e w3 ⟨rfl, h3⟩; replace h3 := keep h3)
        go_roundw
        case rel => exact ⟨j + 1, _, by go_num, by omega, h3.out, Nat.le_trans len_add (Nat.succ_le_succ HJ.out.2)⟩
        case measure => simp [nat_of]; omega
      · obtain rfl : j = m := by omega
        have hge : ¬ (j : Int) < (j : Int) := by omega
        have K := keep HJ.out.1
        have hfit := HJ.out.1.fit
        obtain ⟨g1, g2, g3⟩ := fwd_facts hfit.1 hfit.2.1 hfit.2.2.1 hd2
        have hx3 := g3 (Go.Proofs.Ytidolhhipdhknaa.wr (s.f + z)) (by rw [ht_up s.f z (by omega)]; exact hz2)
        have hlen := Nat.le_trans (len_fwd (s := s) (n := Go.Proofs.Ytidolhhipdhknaa.wr (s.f + d))) HJ.out.2
        have HW := keep (fun (w3 : World) (h : Kept w w3 b k s) => Forward_kept h (n := (s.f + d) % 4294967296) (wr_lo _) (wr_hi _))
        obtain ⟨S2, hS2⟩ : ∃ S2, s.fwd ((s.f + d) % 4294967296) = S2 := ⟨_, rfl⟩
        have hS3 : s.fwd (Go.Proofs.Ytidolhhipdhknaa.wr (s.f + d)) = S2 := hS2
        rw [hS3] at g1 g2 hx3 hlen
        rw [hS2] at HW
        have hlz : (S2.L.length : Int) ≤ (j : Int) := by omega
        have hg : (d : Int) ≤ dist32 s.f S2.f := g2
        have G := keep (show had S2.f S2.L ((s.f + d) % 4294967296) = true from g1)
        have GX := keep (show had s.f s.L ((s.f + z) % 4294967296) = true → had S2.f S2.L ((s.f + z) % 4294967296) = true from hx3)
        clear g1 g2 g3 hx3 hfit hlen hS2 hS3
        cases hb0 : had s.f s.L ((s.f + z) % 4294967296)
        all_goals
          have B0 := keep hb0
          clear hb0
          go_wp2_with fail
          refine (Cum_kept K.out).mono ?_
          rintro e w' ⟨rfl, rfl⟩
          go_wp2_with fail
          refine (Has_kept K.out (n := (s.f + z) % 4294967296) (wr_lo _) (wr_hi _)).mono ?_
          rintro e wa ⟨rfl, ha⟩
          replace ha := keep ha
          rw [B0.out]
          go_wp2_with fail
          refine (HW.out _ ha.out).mono ?_
          rintro e wb ⟨rfl, hb⟩
          replace hb := keep hb
          go_wp2_with fail
          refine (Has_kept hb.out (n := (s.f + d) % 4294967296) (wr_lo _) (wr_hi _)).mono ?_
          rintro e wc ⟨rfl, hc⟩
          replace hc := keep hc
          rw [G.out]
          go_wp2_with fail
          refine (Cum_kept hc.out).mono ?_
          rintro e w' ⟨rfl, rfl⟩
          go_wp2_with fail
          refine (Dist_any _ _ _).mono ?_
          rintro e w' ⟨rfl, rfl⟩
          go_wp2_with fail
        · refine (Len_kept hc.out).mono ?_
          rintro e w' ⟨rfl, rfl⟩
          go_wp2_with fail
          go_ret
          exact ⟨rfl, hc.out.below⟩
        · refine (Has_kept hc.out (n := (s.f + z) % 4294967296) (wr_lo _) (wr_hi _)).mono ?_
          rintro e wd ⟨rfl, hd⟩
          replace hd := keep hd
          rw [GX.out B0.out]
          go_wp2_with fail
          refine (Len_kept hd.out).mono ?_
          rintro e w' ⟨rfl, rfl⟩
          go_wp2_with fail
          go_ret
          exact ⟨rfl, hd.out.below⟩
  · have hz : (100 : Int) < (m : Int) := by omega
    go_enter Try.func8, Try.ntmps8
    go_wp2_with (go_at_call 9; refine (awake_any _).mono ?_; rintro e w1 ⟨rfl, h1⟩; replace h1 := keep h1)
    go_ret
    exact ⟨rfl, h1.out⟩
end Go.Proofs.Ytidolhhipdhknaa
