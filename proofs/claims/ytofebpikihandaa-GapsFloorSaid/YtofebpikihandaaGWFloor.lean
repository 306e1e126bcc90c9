/- GapsFloor: the floor never goes down, and the runs above it lie apart, rising. -/
import Derived.Test.YtofebpikihandaaGK
import Derived.Test.YtofebpikihandaaGOps
import Derived.Test.YtofebpikihandaaSq6
import Derived.Test.YtofebpikihandaaGH
import Derived.Deep.Cut
import Derived.Deep.CutRange
namespace Go.Proofs.Ytofebpikihandaa
open Go.RowKit Go.Maps
set_option linter.unusedVariables false

theorem wrap_small (x : Nat) (h : x ≤ 2000) : IntKind.i64.wrap (x : Int) = x := by
  simp [IntKind.wrap, IntKind.signed, IntKind.bits]
  omega
/-- The set between two steps. -/
def Stand (w : World) (b k : Nat) (j : Nat) (s : St) (W : World) : Prop := Kept w W b k s ∧ s.L.length ≤ j ∧ Two s.L
set_option maxHeartbeats 8000000 in
set_option maxRecDepth 1000000 in
theorem gapsFloor_walk (a : Int) (A : Option Addr) (m c : Nat) (p q : Nat → Int) (w : World) (ha : (Lit.int .u32 a).wf = true) (hA : Acts w A m p q) :
    Calls Try.prog 4 #[.int .u32 a, .slice A m c] w fun e w' => e = .returned (.bool true) ∧ Below w.heap.size w w' := by
  have hF := keep (of_wf32 ha)
  clear ha
  have HA := keep hA
  clear hA
  by_cases h200 : m ≤ 200
  · have hz : ¬ (200 : Int) < (m : Int) := by omega
    go_enter Try.func4, Try.ntmps4
    go_wp2_with (first
      | (go_at_call 5; refine (awake_any _).mono ?_; rintro e w1 ⟨rfl, h1⟩; replace h1 := keep h1)
      | (go_at_call 6; refine (New_kept a hF.out.1 hF.out.2 w _ h1.out).mono ?_; rintro e w2 ⟨b, k, rfl, h2⟩; replace h2 := keep h2))
    go_loopw [7] (fun vi wr => ∃ (j : Nat) (s : St), vi = .int .i64 j ∧ j ≤ m ∧ Hid (Stand w b k j s wr)) (fun vi _ => m - nat_of vi)
    case atStart => exact ⟨0, _, rfl, Nat.zero_le _, h2.out, Nat.le_refl _, fun x hx => absurd hx List.not_mem_nil⟩
    case round =>
      obtain ⟨j, s, rfl, hj, HJ⟩ := hrel
      by_cases hjm : j < m
      · obtain ⟨gb, o, rfl, _, hc⟩ := (HA.out.step HJ.out.1.below) (by omega)
        have c0 := (hc j hjm).1
        have c1 := (hc j hjm).2.1
        have hjz : (j : Int) < (m : Int) := by omega
        clear hc h2 hz h200
        go_upto_if 32 with (go_at_call 15; refine (Cum_kept HJ.out.1).mono ?_; rintro e w' ⟨rfl, rfl⟩)
        go_cut [] from 19 to 90 (fun wx => ∃ s2 : St, Hid (Stand w b k (j + 1) s2 wx ∧ less32 s2.f s.f = false))
        case first =>
          by_cases hp : p j = 1
          · have HX := keep (Forward_kept HJ.out.1 (n := (a + q j) % 4294967296) (wr_lo _) (wr_hi _))
            have HL := keep (fwd_not_less HJ.out.1.fit.1 (n := (a + q j) % 4294967296) (wr_lo _) (wr_hi _))
            have HT := keep (two_fwd HJ.out.1.fit.1 HJ.out.2.2 (n := (a + q j) % 4294967296))
            rw [hp] at c0
            go_wp2_with (go_at_call 10; refine HX.out.mono ?_; rintro e w3 ⟨rfl, h3⟩; replace h3 := keep h3)
            go_meet
            exact ⟨_, ⟨h3.out, Nat.le_trans len_fwd (Nat.le_succ_of_le HJ.out.2.1), HT.out⟩, HL.out⟩
          · have HX := keep (Add_kept HJ.out.1 (n := (a + q j) % 4294967296) (wr_lo _) (wr_hi _))
            have HL := keep (add_not_less HJ.out.1.fit.1 (n := (a + q j) % 4294967296))
            have HT := keep (two_add HJ.out.1.fit.1 HJ.out.2.2 (n := (a + q j) % 4294967296))
            have hp2 : (p j == 1) = false := by simp [hp]
            go_wp2_with (go_at_call 8; refine HX.out.mono ?_; rintro e w3 ⟨rfl, h3⟩; replace h3 := keep h3)
            go_meet
            exact ⟨_, ⟨h3.out, Nat.le_trans len_add (Nat.succ_le_succ HJ.out.2.1), HT.out⟩, HL.out⟩
        case rest =>
          obtain ⟨s2, H2⟩ := hcut
          clear c0 c1 HJ
          have HR := keep (fun (i : Nat) (x y : Nat) (h : (runs s2.L)[i]? = some (x, y)) => runs_rise H2.out.1.1.fit.1.asc H2.out.1.2.2 h)
          have HU := keep (fun (i : Nat) (x y : Nat) (h : (runs s2.L)[i]? = some (x, y)) => runs_top H2.out.1.1.fit.1.top h)
          have KB := keep (Blocks_kept sort_all H2.out.1.1 (by have := H2.out.1.2.1; omega))
          go_wp2_with (first
            | (go_at_call 15; refine (Cum_kept H2.out.1.1).mono ?_; rintro e w' ⟨rfl, rfl⟩)
            | (go_at_call 23; refine (Less_any _ _ _).mono ?_; rintro e w' ⟨rfl, rfl⟩; rw [H2.out.2])
            | (go_at_call 19; refine KB.out.mono ?_; rintro e w4 ⟨B, c4, rfl, hs4, hk4, _⟩; replace hs4 := keep hs4; replace hk4 := keep hk4))
          obtain ⟨R, hR⟩ : ∃ R, runs s2.L = R := ⟨_, rfl⟩
          have h64 := runs_len s2.L
          rw [hR] at HR HU hs4 h64 ⊢
          obtain ⟨rl, hrl⟩ : ∃ rl, R.length = rl := ⟨_, rfl⟩
          have HRL := keep hrl
          rw [hrl] at h64
          replace h64 := keep h64
          rw [hrl]
          clear hR KB hrl
          go_loopw [10, 11] (fun vl vi wq => ∃ i : Nat, vi = .int .i64 i ∧ vl = .int .i64 (lastTo R i : Nat) ∧ i ≤ rl ∧ Hid (Below w4.heap.size w4 wq)) (fun _ vi _ => rl - nat_of vi)
          case atStart => exact ⟨0, rfl, rfl, Nat.zero_le _, Below.refl _ _⟩
          case round =>
            obtain ⟨i, rfl, rfl, hi, HB⟩ := hrel
            by_cases hil : i < rl
            · obtain ⟨⟨x, y⟩, hxy⟩ : ∃ xy, R[i]? = some xy := ⟨_, List.getElem?_eq_getElem (by rw [HRL.out]; exact hil)⟩
              obtain ⟨r1, r2, r3⟩ := HR.out i x y hxy
              obtain ⟨r4, r5⟩ := HU.out i x y hxy
              obtain ⟨p1, p2⟩ := prs_get R i (x, y) hxy
              dsimp only at p1 p2
              obtain ⟨gq, oq, rfl, _, hq⟩ := (hs4.out.step HB.out) (fun e => by rw [e] at p1; cases p1)
              have k1 := hq _ _ p1
              have k2 := hq _ _ p2
              rw [← Nat.add_assoc] at k2
              have hilz : (i : Int) < (rl : Int) := by omega
              have HIL := keep hil
              have iz : (i : Int) ≤ 64 := by have := h64.out; omega
              obtain ⟨l0, hl0⟩ : ∃ l0, lastTo R i = l0 := ⟨_, rfl⟩
              rw [hl0] at r1 ⊢
              have E3 := keep r3
              obtain ⟨l2, hl2⟩ : ∃ l2 : Nat, (l0 : Int) + 2 = (l2 : Int) := ⟨l0 + 2, by omega⟩
              have d1 : decide (x < l2) = false := by simp; omega
              have e1 := wrap_small x (by omega)
              have e2 := wrap_small l2 (by omega)
              have e3 := wrap_small y (by omega)
              have d2 : ¬ y < x := by omega
              clear hxy p1 p2 hq r1 r2 r3 r4 r5 hl0
              go_wp2_with fail
              go_quiet (fail)
              go_wp2_with fail
              go_roundw
              case rel => exact ⟨i + 1, by go_num, by rw [E3.out], HIL.out, below_drewN HB.out _⟩
              case measure => simp [nat_of]; have := HIL.out; omega
            · obtain rfl : i = rl := by omega
              have hge : ¬ (i : Int) < (i : Int) := by omega
              go_wp2_with fail
              go_roundw
              case rel => exact ⟨j + 1, s2, by go_num, by omega, hk4.out.step HB.out, H2.out.1.2⟩
              case measure => simp [nat_of]; omega
      · obtain rfl : j = m := by omega
        have hge : ¬ (j : Int) < (j : Int) := by omega
        have K := keep HJ.out.1.below
        go_wp2_with fail
        go_ret
        exact ⟨rfl, K.out⟩
  · have hz : (200 : Int) < (m : Int) := by omega
    go_enter Try.func4, Try.ntmps4
    go_wp2_with (go_at_call 5; refine (awake_any _).mono ?_; rintro e w1 ⟨rfl, h1⟩; replace h1 := keep h1)
    go_ret
    exact ⟨rfl, h1.out⟩
end Go.Proofs.Ytofebpikihandaa
