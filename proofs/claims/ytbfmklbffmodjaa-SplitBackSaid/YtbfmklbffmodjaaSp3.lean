/- Chunks of few parts; the same chunks. -/
import Derived.Test.YtbfmklbffmodjaaSp2
namespace Go.Proofs.Ytbfmklbffmodjaa
open Go.RowKit
set_option linter.unusedVariables false

def fewP (l : List PV) : Bool := l.all fun p => decide (p.2.2.1 ≤ 1300)
def fewC (x : CX) : Bool := decide (x.bl.2.1 ≤ 100) && decide (x.du.2.1 ≤ 100) && decide (x.sk.2.1 ≤ 100) && decide (x.pr.2.1 ≤ 40) && decide (x.da.2.1 ≤ 2000) && fewP x.ps
theorem fewC_da {x : CX} (h : fewC x = true) : x.da.2.1 ≤ 2000 := by
  unfold fewC at h
  simp only [Bool.and_eq_true, decide_eq_true_eq] at h
  exact h.1.2
set_option maxHeartbeats 1000000 in
theorem Few_any (x : CX) (w : World) (hx : PR w x.pr.1 x.pr.2.1 x.pr.2.2 x.ps) :
    Calls Try.prog 12 #[.agg x.cells.toArray] w fun e w' => e = .returned (.bool (fewC x)) ∧ Below w.heap.size w w' := by
  obtain ⟨r, hr⟩ : ∃ r, fewC x = r := ⟨_, rfl⟩
  rw [hr]
  have HP := keep (hx.step (below_lay w (.cells x.cells.toArray 39)))
  have HL := keep (below_lay w (.cells x.cells.toArray 39))
  obtain ⟨xk, xf, xa, xb, xo, xs, xp, ⟨x1, x2, x3⟩, ⟨x4, x5, x6⟩, ⟨x7, x8, x9⟩, ⟨x10, x11, x12⟩, ⟨x13, x14, x15⟩, xps, xbs⟩ := x
  dsimp only [fewC, CX.cells] at hr HP HL ⊢
  clear hx
  by_cases h1 : x2 ≤ 100
  case neg =>
    obtain rfl : r = false := by rw [← hr]; simp [h1]
    have h1' : 100 < (x2 : Int) := by omega
    clear hr h1
    go_enter Try.func12, Try.ntmps12
    go_wp2_with fail
    go_ret
    exact ⟨rfl, HL.out⟩
  by_cases h2 : x5 ≤ 100
  case neg =>
    obtain rfl : r = false := by rw [← hr]; simp [h2]
    have h1' : ¬ 100 < (x2 : Int) := by omega
    have h2' : 100 < (x5 : Int) := by omega
    clear hr h1 h2
    go_enter Try.func12, Try.ntmps12
    go_wp2_with fail
    go_ret
    exact ⟨rfl, HL.out⟩
  by_cases h3 : x8 ≤ 100
  case neg =>
    obtain rfl : r = false := by rw [← hr]; simp [h3]
    have h1' : ¬ 100 < (x2 : Int) := by omega
    have h2' : ¬ 100 < (x5 : Int) := by omega
    have h3' : 100 < (x8 : Int) := by omega
    clear hr h1 h2 h3
    go_enter Try.func12, Try.ntmps12
    go_wp2_with fail
    go_ret
    exact ⟨rfl, HL.out⟩
  by_cases h4 : x11 ≤ 40
  case neg =>
    obtain rfl : r = false := by rw [← hr]; simp [h4]
    have h1' : ¬ 100 < (x2 : Int) := by omega
    have h2' : ¬ 100 < (x5 : Int) := by omega
    have h3' : ¬ 100 < (x8 : Int) := by omega
    have h4' : 40 < (x11 : Int) := by omega
    clear hr h1 h2 h3 h4
    go_enter Try.func12, Try.ntmps12
    go_wp2_with fail
    go_ret
    exact ⟨rfl, HL.out⟩
  by_cases h5 : x14 ≤ 2000
  case neg =>
    obtain rfl : r = false := by rw [← hr]; simp [h5]
    have h1' : ¬ 100 < (x2 : Int) := by omega
    have h2' : ¬ 100 < (x5 : Int) := by omega
    have h3' : ¬ 100 < (x8 : Int) := by omega
    have h4' : ¬ 40 < (x11 : Int) := by omega
    have h5' : 2000 < (x14 : Int) := by omega
    clear hr h1 h2 h3 h4 h5
    go_enter Try.func12, Try.ntmps12
    go_wp2_with fail
    go_ret
    exact ⟨rfl, HL.out⟩
  have h1' : ¬ 100 < (x2 : Int) := by omega
  have h2' : ¬ 100 < (x5 : Int) := by omega
  have h3' : ¬ 100 < (x8 : Int) := by omega
  have h4' : ¬ 40 < (x11 : Int) := by omega
  have h5' : ¬ 2000 < (x14 : Int) := by omega
  have HR0 : fewP xps = r := by
    rw [← hr]
    simp [h1, h2, h3, h4, h5]
  have HR := keep HR0
  clear HR0
  have H40 := keep h4
  clear hr h1 h2 h3 h4 h5
  go_enter Try.func12, Try.ntmps12
  go_wp2_with fail
  go_loop [3] (fun i => ∃ j : Nat, j ≤ x11 ∧ i = .int .i64 j ∧ Hid (∀ y ∈ xps.take j, y.2.2.1 ≤ 1300)) (fun i => x11 - (intOf i).toNat)
  case atStart => exact ⟨0, Nat.zero_le _, rfl, keep (by simp)⟩
  case round =>
    obtain ⟨j, hj, rfl, hno⟩ := hrel
    have H40' := H40.out
    by_cases hlt : j < x11
    · obtain ⟨b, o, k, a, m, d, rfl, hbl, hc0, hc1, hlj⟩ := HP.out.at_ hlt
      have HJ := keep hlj
      have hlt' : (j : Int) < (x11 : Int) := by omega
      clear hlj
      by_cases hq : 1300 < m
      · have hq' : 1300 < (m : Int) := by omega
        obtain rfl : r = false := by
          rw [← HR.out]
          unfold fewP
          rw [List.all_eq_false]
          exact ⟨_, List.mem_of_getElem? HJ.out, by simp; omega⟩
        clear hq HR
        go_wp2_with fail
        go_ret
        exact ⟨rfl, HL.out⟩
      · have hq' : ¬ 1300 < (m : Int) := by omega
        have HQ := keep hq
        clear hq
        go_wp2_with fail
        go_round
        case rel =>
          refine ⟨j + 1, by omega, by go_num, keep fun y hy => ?_⟩
          rw [List.take_add_one, HJ.out] at hy
          rcases List.mem_append.1 hy with hy | hy
          · exact hno.out y hy
          · simp at hy
            rw [hy]
            have := HQ.out
            simp only
            omega
        case measure => simp [intOf]; omega
    · obtain rfl : x11 = j := by omega
      go_wp2_with fail
      go_ret
      refine ⟨ret_bool ?_, HL.out⟩
      rw [← HR.out]
      symm
      unfold fewP
      have hno := hno.out
      rw [List.take_of_length_le (by have := HP.out.1; omega)] at hno
      exact List.all_eq_true.2 fun p hp => by simp; exact hno p hp
end Go.Proofs.Ytbfmklbffmodjaa
