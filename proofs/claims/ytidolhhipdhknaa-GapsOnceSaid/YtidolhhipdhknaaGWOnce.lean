/- GapsOnce: a number is fresh once. -/
import Derived.Test.YtidolhhipdhknaaGI
import Derived.Test.YtidolhhipdhknaaGOps
namespace Go.Proofs.Ytidolhhipdhknaa
open Go.RowKit Go.Maps
set_option linter.unusedVariables false

set_option maxHeartbeats 8000000 in
theorem gapsOnce_walk (a : Int) (A : Option Addr) (m c : Nat) (p q : Nat → Int) (n : Int) (w : World) (ha : (Lit.int .u32 a).wf = true) (hA : Acts w A m p q) (hn : (Lit.int .u32 n).wf = true) :
    Calls Try.prog 6 #[.int .u32 a, .slice A m c, .int .u32 n] w fun e w' => e = .returned (.bool true) ∧ Below w.heap.size w w' := by
  have hF := keep (of_wf32 ha)
  have hN := keep (of_wf32 hn)
  clear ha hn
  have HA := keep hA
  clear hA
  by_cases h100 : m ≤ 100
  · have hz : ¬ (100 : Int) < (m : Int) := by omega
    go_enter Try.func6, Try.ntmps6
    go_wp2_with (first
      | (go_at_call 9; refine (awake_any _).mono ?_; rintro e w1 ⟨rfl, h1⟩; replace h1 := keep h1)
      | (go_at_call 10; refine (New_kept a hF.out.1 hF.out.2 w _ h1.out).mono ?_; rintro e w2 ⟨b, k, rfl, h2⟩; replace h2 := keep h2))
    go_loopw [9] (fun vi wr => ∃ (j : Nat) (s : St), vi = .int .i64 j ∧ j ≤ m ∧ Hid (Kept w wr b k s ∧ s.L.length ≤ j)) (fun vi _ => m - nat_of vi)
    case atStart => exact ⟨0, _, rfl, Nat.zero_le _, h2.out, Nat.le_refl _⟩
    case round =>
      obtain ⟨j, s, rfl, hj, HJ⟩ := hrel
      by_cases hjm : j < m
      · obtain ⟨gb, o, rfl, _, hc⟩ := (HA.out.step HJ.out.1.below) (by omega)
        have c1 := (hc j hjm).2.1
        have hjz : (j : Int) < (m : Int) := by omega
        have HX := keep (Add_kept HJ.out.1 (n := (a + q j) % 4294967296) (wr_lo _) (wr_hi _))
        clear hc
        go_wp2_with (go_at_call 12; refine HX.out.mono ?_; rintro e w3 ⟨rfl, h3⟩; replace h3 := keep h3)
        go_roundw
        case rel => exact ⟨j + 1, _, by go_num, by omega, h3.out, Nat.le_trans len_add (Nat.succ_le_succ HJ.out.2)⟩
        case measure => simp [nat_of]; omega
      · obtain rfl : j = m := by omega
        have hge : ¬ (j : Int) < (j : Int) := by omega
        have K := keep HJ.out.1
        have K0 := K
        rcases twice HJ.out.1.fit.1 (n := n) with ⟨t1, e1, hn, hf⟩ | ⟨t1, t2, hh, hh2⟩
        · have hd : (1024 : Int) < dist32 s.f n := by rw [← ht_int]; omega
          clear hf
          go_wp2_with (first
            | (go_at_call 25; refine (Has_kept K.out hN.out.1 hN.out.2).mono ?_; rintro e wx ⟨rfl, hx⟩; rw [hn]; replace K := keep hx; clear hx)
            | (go_at_call 12; refine (Add_kept K.out hN.out.1 hN.out.2).mono ?_; rintro e wx ⟨rfl, hx⟩; rw [t1]; rw [e1] at hx; replace K := keep hx; clear hx)
            | (go_at_call 19; refine (Cum_kept K.out).mono ?_; rintro e w' ⟨rfl, rfl⟩)
            | (go_at_call 20; refine (Len_kept K.out).mono ?_; rintro e w' ⟨rfl, rfl⟩)
            | (go_at_call 28; refine (Dist_any _ _ _).mono ?_; rintro e w' ⟨rfl, rfl⟩))
          go_ret
          exact ⟨rfl, K.out.below⟩
        · cases hb : had s.f s.L n
          all_goals
            rw [hb] at t1
            simp only [Bool.false_eq_true, if_true, if_false] at t1
            go_wp2_with fail
            refine (Has_kept K.out hN.out.1 hN.out.2).mono ?_
            rintro e wa ⟨rfl, ha⟩
            rw [hb]
            replace ha := keep ha
            go_wp2_with fail
            refine (Cum_kept ha.out).mono ?_
            rintro e w' ⟨rfl, rfl⟩
            go_wp2_with fail
            refine (Len_kept ha.out).mono ?_
            rintro e w' ⟨rfl, rfl⟩
            go_wp2_with fail
            refine (Add_kept ha.out hN.out.1 hN.out.2).mono ?_
            rintro e wb ⟨rfl, hb1⟩
            rw [t1]
            replace hb1 := keep hb1
            go_wp2_with fail
            refine (Add_kept hb1.out hN.out.1 hN.out.2).mono ?_
            rintro e wc ⟨rfl, hc1⟩
            rw [t2]
            replace hc1 := keep hc1
            go_wp2_with fail
            refine (Has_kept hc1.out hN.out.1 hN.out.2).mono ?_
            rintro e wd ⟨rfl, hd1⟩
            rw [hh2]
            replace hd1 := keep hd1
            go_wp2_with fail
            go_ret
            exact ⟨rfl, hd1.out.below⟩
  · have hz : (100 : Int) < (m : Int) := by omega
    go_enter Try.func6, Try.ntmps6
    go_wp2_with (go_at_call 9; refine (awake_any _).mono ?_; rintro e w1 ⟨rfl, h1⟩; replace h1 := keep h1)
    go_ret
    exact ⟨rfl, h1.out⟩
end Go.Proofs.Ytidolhhipdhknaa
