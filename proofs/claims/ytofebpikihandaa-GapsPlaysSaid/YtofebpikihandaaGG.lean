/- What the laws ask: the same numbers, the same runs; the document's example. -/
import Derived.Deep.QuietTactic
import Derived.BigQuiet
import Derived.Test.YtofebpikihandaaGF
namespace Go.Proofs.Ytofebpikihandaa
open Go.RowKit Go.Maps
set_option linter.unusedVariables false
set_option linter.unusedSimpArgs false

theorem below_drewN {B : Nat} {a w : World} (h : Below B a w) (n : Nat) : Below B a (w.drewN n) := ⟨h.os, h.tape, h.output, h.size, h.block⟩

set_option maxHeartbeats 2000000 in
theorem numbers_same {A B : Option Addr} {n c c' : Nat} {T : List Int} {w : World} (ha : SR w A (u32s T)) (hb : SR w B (u32s T)) (hn : T.length = n) (hs : n ≤ 1000000) :
    Calls Try.prog 12 #[.slice A n c, .slice B n c'] w fun e w' => e = .returned (.bool true) ∧ Below w.heap.size w w' := by
  have HA := keep ha
  have HB := keep hb
  have HN := keep hn
  clear ha hb hn
  go_enter Try.func12, Try.ntmps12
  go_wp2
  go_loopw [5] (fun vi wr => ∃ j : Nat, vi = .int .i64 j ∧ j ≤ n ∧ Hid (Below w.heap.size w wr)) (fun vi _ => n - nat_of vi)
  case atStart => exact ⟨0, rfl, Nat.zero_le _, Below.refl _ _⟩
  case round =>
    obtain ⟨j, rfl, hj, HJ⟩ := hrel
    by_cases hjn : j < n
    · have hl : j < (u32s T).length := by rw [u32s_len, HN.out]; exact hjn
      obtain ⟨g1, o1, rfl, _, k1⟩ := SR.at_ (HA.out.step HJ.out) (j := j) hl
      obtain ⟨g2, o2, rfl, _, k2⟩ := SR.at_ (HB.out.step HJ.out) (j := j) hl
      obtain ⟨x, hx⟩ : ∃ x, (u32s T)[j] = .int .u32 x := by
        obtain ⟨x, _, h⟩ := List.mem_map.1 (List.getElem_mem hl)
        exact ⟨x, h.symm⟩
      rw [hx] at k1 k2
      have hjz : (j : Int) < (n : Int) := by omega
      clear hx hl
      go_wp2
      go_quiet (fail)
      go_wp2
      go_roundw
      case rel => exact ⟨j + 1, by go_num, by omega, below_drewN HJ.out _⟩
      case measure => simp [nat_of]; omega
    · obtain rfl : j = n := by omega
      have hge : ¬ (j : Int) < (j : Int) := by omega
      go_wp2
      go_ret
      exact ⟨rfl, HJ.out⟩

set_option maxHeartbeats 2000000 in
theorem blocks_same {A B : Option Addr} {n c c' : Nat} {P : List (Nat × Nat)} {w : World} (ha : SR w A (prs P)) (hb : SR w B (prs P)) (hn : P.length = n) (hs : n ≤ 1000000) :
    Calls Try.prog 18 #[.slice A n c, .slice B n c'] w fun e w' => e = .returned (.bool true) ∧ Below w.heap.size w w' := by
  have HA := keep ha
  have HB := keep hb
  have HN := keep hn
  clear ha hb hn
  go_enter Try.func18, Try.ntmps18
  go_wp2
  go_loopw [5] (fun vi wr => ∃ j : Nat, vi = .int .i64 j ∧ j ≤ n ∧ Hid (Below w.heap.size w wr)) (fun vi _ => n - nat_of vi)
  case atStart => exact ⟨0, rfl, Nat.zero_le _, Below.refl _ _⟩
  case round =>
    obtain ⟨j, rfl, hj, HJ⟩ := hrel
    by_cases hjn : j < n
    · obtain ⟨p, hp⟩ : ∃ p, P[j]? = some p := ⟨_, List.getElem?_eq_getElem (by rw [HN.out]; exact hjn)⟩
      obtain ⟨q1, q2⟩ := prs_get P j p hp
      obtain ⟨x, y⟩ := p
      obtain ⟨g1, o1, rfl, _, hA⟩ := (HA.out.step HJ.out) (fun e => by rw [e] at q1; simp at q1)
      obtain ⟨g2, o2, rfl, _, hB⟩ := (HB.out.step HJ.out) (fun e => by rw [e] at q1; simp at q1)
      have k1 := hA _ _ q1
      have k2 := hA _ _ q2
      have k3 := hB _ _ q1
      have k4 := hB _ _ q2
      rw [← Nat.add_assoc] at k2 k4
      dsimp only at k1 k2 k3 k4
      have hjz : (j : Int) < (n : Int) := by omega
      clear hA hB q1 q2 hp
      go_wp2
      go_quiet (fail)
      go_wp2
      go_roundw
      case rel => exact ⟨j + 1, by go_num, by omega, below_drewN HJ.out _⟩
      case measure => simp [nat_of]; omega
    · obtain rfl : j = n := by omega
      have hge : ¬ (j : Int) < (j : Int) := by omega
      go_wp2
      go_ret
      exact ⟨rfl, HJ.out⟩
end Go.Proofs.Ytofebpikihandaa
