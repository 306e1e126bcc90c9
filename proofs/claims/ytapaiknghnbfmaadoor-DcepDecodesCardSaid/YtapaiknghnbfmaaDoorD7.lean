/- Package dcep: New; an opening that is kept. -/
import Derived.Test.YtapaiknghnbfmaaDoorD6
import Derived.OwnWalk
namespace Go.Proofs.YtapaiknghnbfmaaDoor
open Go.RowKit
set_option linter.unusedVariables false

theorem Ch_info : (Tryd.prog.info? 109).map (fun i => (i.zero.map (·.cells), i.size, i.bytes)) = some (some #[.int .i64 0, .int .u8 0, .int .u16 0, .int .u32 0, .string ⟨#[]⟩, .string ⟨#[]⟩, .bool false, .bool false], 8, 56) := by kernel_rfl
theorem Ch_parts : ∃ i z, Tryd.prog.info? 109 = some i ∧ i.zero = some z ∧ z.cells = chZ.cells.toArray ∧ i.size = 8 ∧ i.bytes = 56 := by
  have h := Ch_info
  cases hi : Tryd.prog.info? 109 with
  | none => rw [hi] at h; cases h
  | some i =>
    rw [hi] at h
    simp only [Option.map_some, Option.some.injEq, Prod.mk.injEq] at h
    obtain ⟨h1, h2, h3⟩ := h
    cases hz : i.zero with
    | none => rw [hz] at h1; cases h1
    | some z =>
      rw [hz] at h1
      simp only [Option.map_some, Option.some.injEq] at h1
      exact ⟨i, z, rfl, hz, h1, h2, h3⟩
theorem made_rows (n : Nat) : (madeCells chZ.cells.toArray (n * 8)).toList = flatF Ch.cells (List.replicate n chZ) := by
  apply List.ext_getElem?
  intro p
  rcases Nat.lt_or_ge p (n * 8) with h | h
  · have h1 := flatF_get (f := Ch.cells) Ch.len (List.replicate n chZ) (p / 8) chZ (by rw [List.getElem?_replicate, if_pos (by omega)]) (p % 8) (Nat.mod_lt _ (by decide))
    rw [show p / 8 * 8 + p % 8 = p by omega] at h1
    rw [h1]
    have h2 : p % 8 < 8 := Nat.mod_lt _ (by decide)
    have h3 : chZ.cells.toArray.size = 8 := rfl
    simp only [madeCells, Array.toList_map, Array.toList_range, List.getElem?_map, List.getElem?_range h, Option.map_some, h3]
    generalize p % 8 = r at h2
    have h4 : r = 0 ∨ r = 1 ∨ r = 2 ∨ r = 3 ∨ r = 4 ∨ r = 5 ∨ r = 6 ∨ r = 7 := by omega
    rcases h4 with rfl | rfl | rfl | rfl | rfl | rfl | rfl | rfl <;> rfl
  · rw [List.getElem?_eq_none (by simp [madeCells]; exact h), List.getElem?_eq_none (by rw [flatF_len Ch.len, List.length_replicate]; exact h)]
theorem CR.of_own {W : World} {base g n : Nat} {l : List Ch} (h : W.ownsRow base 109 8 (.slice (some ⟨g, 0, none⟩) n n) n (flatF Ch.cells l)) : CR g l W := by
  have hlen := h.1
  rw [flatF_len Ch.len] at hlen
  rcases h.2 with ⟨h0, _⟩ | ⟨g', cap, cur, hv, hb, hg, hnc, _, hs, ht⟩
  · cases h0
  · injection hv with a1 a2 a3
    injection a1 with a1
    injection a1 with a1
    subst a1 a3
    refine ⟨cur, hg, ?_, fun p v hp => ?_⟩
    · have h2 := congrArg List.length ht
      rw [List.length_take, flatF_len Ch.len, Array.length_toList] at h2
      omega
    · rw [← ht, List.getElem?_take] at hp
      split at hp
      · simpa using hp
      · cases hp
/-- How many streams a table has. -/
def clampN (n : Int) : Nat := if n < 1 ∨ 64 < n then 64 else n.toNat
theorem clampN_le (n : Int) : 1 ≤ clampN n ∧ clampN n ≤ 64 := by unfold clampN; split <;> omega
set_option maxHeartbeats 2000000 in
theorem new_tb (ev : Bool) (n : Int) {w W : World} (hb : Below w.heap.size w W) : Calls Tryd.prog 22 #[.bool ev, .int .i64 n] W fun e w' => ∃ b, e = .returned (.pointer (some ⟨b, 0, none⟩)) ∧ ∃ g, Hid (TB w b g ev (List.replicate (clampN n) chZ) w' ∧ Below W.heap.size W w' ∧ W.heap.size ≤ b ∧ W.heap.size ≤ g) := by
  obtain ⟨i0, z0, hi0, hz0, hzc, hz1, hz2⟩ := Ch_parts
  have HB := keep hb
  obtain ⟨h1, h2⟩ := clampN_le n
  obtain ⟨k, hk⟩ : ∃ k, clampN n = k := ⟨_, rfl⟩
  rw [hk] at h1 h2 ⊢
  have hkI : n < 1 ∨ 64 < n → k = 64 := fun h => by rw [← hk]; unfold clampN; rw [if_pos h]
  have hkJ : ¬ (n < 1 ∨ 64 < n) → (k : Int) = n := fun h => by rw [← hk]; unfold clampN; rw [if_neg h]; omega
  have HM := keep (made_rows k)
  clear hb hk
  have key : ∀ w1 : World, w1.ownsRow W.heap.size 109 8 (.slice (some ⟨W.heap.size, 0, none⟩) k k) k (madeCells z0.cells (k * 8)).toList → W.grownBy w1 none →
      TB w w1.heap.size W.heap.size ev (List.replicate k chZ) (w1.alloc (.cells #[.bool ev, .slice (some ⟨W.heap.size, 0, none⟩) k k] 97)) ∧ Below W.heap.size W (w1.alloc (.cells #[.bool ev, .slice (some ⟨W.heap.size, 0, none⟩) k k] 97)) := by
    intro w1 ho hg
    rw [hzc, HM.out] at ho
    have hr := CR.of_own ho
    have hb1 : Below W.heap.size W w1 := (Below.refl _ _).grown hg (Nat.le_refl _) (fun k hk => by cases hk)
    have hlt := hr.lt
    refine ⟨⟨?_, hr.of (Below.heap_alloc w1 _ _ hlt), by omega, Nat.le_trans HB.out.size hb1.size, HB.out.size, (HB.out.trans (hb1.mono HB.out.size)).alloc (Nat.le_trans HB.out.size hb1.size) _, by rw [List.length_replicate]; exact h2⟩, hb1.alloc hb1.size _⟩
    rw [List.length_replicate]
    exact heap_alloc_new w1 _
  obtain ⟨L, hL⟩ : ∃ L, List.replicate k chZ = L := ⟨_, rfl⟩
  rw [hL] at key ⊢
  clear hL HM
  by_cases h : n < 1 ∨ 64 < n
  · obtain rfl := hkI h
    by_cases hs : n < 1
    · go_enter Tryd.func22, Tryd.ntmps22
      go_wp2_with (at_make; refine wpList_make_full _ rfl _ _ 95 rfl W.heap.size 109 i0 z0 8 Tryd.underlying95 hi0 hz0 hz1 .i64 .i64 64 64 64 rfl rfl rfl rfl (by rw [hz2]; omega) (by unfold maxLen; omega) (Nat.le_refl _) ?_; intro w1 ho1 hg1; have K1 := keep (key w1 ho1 hg1); have L1 := keep hg1.size; clear ho1 hg1)
      go_ret
      exact ⟨_, rfl, _, keep ⟨K1.out.1, K1.out.2, L1.out, Nat.le_refl _⟩⟩
    · have hbg : 64 < n := by omega
      go_enter Tryd.func22, Tryd.ntmps22
      go_wp2_with (at_make; refine wpList_make_full _ rfl _ _ 95 rfl W.heap.size 109 i0 z0 8 Tryd.underlying95 hi0 hz0 hz1 .i64 .i64 64 64 64 rfl rfl rfl rfl (by rw [hz2]; omega) (by unfold maxLen; omega) (Nat.le_refl _) ?_; intro w1 ho1 hg1; have K1 := keep (key w1 ho1 hg1); have L1 := keep hg1.size; clear ho1 hg1)
      go_ret
      exact ⟨_, rfl, _, keep ⟨K1.out.1, K1.out.2, L1.out, Nat.le_refl _⟩⟩
  · have hn := hkJ h
    have hs1 : ¬ n < 1 := by omega
    have hs2 : ¬ 64 < n := by omega
    clear hkI hkJ h
    subst hn
    go_enter Tryd.func22, Tryd.ntmps22
    go_wp2_with (at_make; refine wpList_make_full _ rfl _ _ 95 rfl W.heap.size 109 i0 z0 8 Tryd.underlying95 hi0 hz0 hz1 .i64 .i64 (k : Int) (k : Int) k rfl rfl rfl rfl (by rw [hz2]; omega) (by unfold maxLen; omega) (Nat.le_refl _) ?_; intro w1 ho1 hg1; have K1 := keep (key w1 ho1 hg1); have L1 := keep hg1.size; clear ho1 hg1)
    go_ret
    exact ⟨_, rfl, _, keep ⟨K1.out.1, K1.out.2, L1.out, Nat.le_refl _⟩⟩
end Go.Proofs.YtapaiknghnbfmaaDoor
