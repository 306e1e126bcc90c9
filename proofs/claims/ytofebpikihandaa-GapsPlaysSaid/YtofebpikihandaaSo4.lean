/- The library's sort at numbers of 16 bits: a range turned round; the heap. -/
import Derived.Sort.LotB
import Derived.Test.YtofebpikihandaaSo3
namespace Go.Proofs.Ytofebpikihandaa
open Go.RowKit Go.Sort
set_option linter.unusedVariables false
set_option linter.unusedSimpArgs false

theorem swp_in {a b i j : Nat} {d : Array Int} (h1 : a ≤ i) (h2 : i < b) (h3 : a ≤ j) (h4 : j < b) (h5 : b ≤ d.size) : PermIn a b d (swp d i j) := swp_permIn d a b i j h1 h2 h3 h4 h5

set_option maxHeartbeats 2000000 in
theorem reverse_any {g c a b : Nat} {d : Array Int} {w : World} (h : Rw w g d) (hab : a < b) (hb : b ≤ d.size) (hs : d.size ≤ 1000000) :
    Calls Try.prog 41 #[.slice (some ⟨g, 0, none⟩) d.size c, .int .i64 a, .int .i64 b] w fun e w' => e = .returned (.tuple #[]) ∧ ∃ d', Done w g d' w' ∧ PermIn a b d d' := by
  obtain ⟨n, hn⟩ : ∃ n, d.size = n := ⟨_, rfl⟩
  have HD := keep (Done.refl h)
  have HN := keep hn
  rw [hn] at hb hs ⊢
  clear h hn
  go_enter Try.func41, Try.ntmps41
  go_wp2
  go_loopw [6, 7] (fun vi vj wr => ∃ (i j : Nat) (di : Array Int), vi = .int .i64 i ∧ vj = .int .i64 j ∧ a ≤ i ∧ j < b ∧ Hid (di.size = n ∧ Done w g di wr ∧ PermIn a b d di)) (fun _ vj _ => intOf16 vj)
  case atStart => exact ⟨a, b - 1, d, rfl, by congr 1; omega, Nat.le_refl _, by omega, HN.out, HD.out, permIn_refl _ _ _⟩
  case round =>
    obtain ⟨i, j, di, rfl, rfl, hi, hj, H⟩ := hrel
    by_cases hij : i < j
    · have hijz : (i : Int) < (j : Int) := by omega
      obtain ⟨G, hG⟩ : ∃ G : Nat → Int, ∀ t, di[t]! = G t := ⟨fun t => di[t]!, fun _ => rfl⟩
      have hcw : ∀ t, t < n → wr.cell? ⟨g, t, none⟩ = some (.int .u16 (G t)) := fun t ht => by rw [← hG]; exact H.out.2.1.row.cell (by rw [H.out.1]; exact ht)
      have hfw : ∀ t, t < n → wr.frozen? ⟨g, t, none⟩ = false := fun t ht => H.out.2.1.row.fz (by rw [H.out.1]; exact ht)
      have HG := keep hG
      have hin : i < n := by omega
      have hjn : j < n := by omega
      have hinz : (i : Int) < (n : Int) := by omega
      have hjnz : (j : Int) < (n : Int) := by omega
      clear hG
      go_wp2
      go_region
      all_goals go_wp2
      go_roundw
      case rel =>
        refine ⟨i + 1, j - 1, swp di i j, by go_num, by congr 1; omega, by omega, by omega, by rw [swp_size]; exact H.out.1, ?_, permIn_trans _ _ _ _ _ H.out.2.2 (swp_in hi (by omega) (by omega) hj (by rw [H.out.1]; exact hb))⟩
        rw [← HG.out, ← HG.out]
        exact (H.out.2.1.drew _).swap (by rw [H.out.1]; exact hin) (by rw [H.out.1]; exact hjn)
      case measure => simp [intOf16]; omega
    · have hijz : ¬ (i : Int) < (j : Int) := by omega
      go_wp2
      go_end0
      exact ⟨rfl, di, H.out.2⟩

theorem sd_none {hi first root : Nat} {d : Array Int} (h : hi ≤ 2 * root + 1) : siftDown ltInt hi first root d = d := by rw [siftDown, dif_pos h]
/-- The greater child. -/
def Child (hi first root : Nat) (d : Array Int) (k : Nat) : Prop := k < hi ∧ (k = 2 * root + 2 ∧ ltInt d[first + (2 * root + 1)]! d[first + (2 * root + 1) + 1]! = true ∨ k = 2 * root + 1 ∧ (¬ 2 * root + 2 < hi ∨ ltInt d[first + (2 * root + 1)]! d[first + (2 * root + 1) + 1]! = false))
theorem sd_stop {hi first root k : Nat} {d : Array Int} (h : ¬ hi ≤ 2 * root + 1) (hk : Child hi first root d k) (hl : ltInt d[first + root]! d[first + k]! = false) : siftDown ltInt hi first root d = d := by
  obtain ⟨h1, h2⟩ := hk
  rw [siftDown, dif_neg h]
  rcases h2 with ⟨rfl, h2⟩ | ⟨rfl, h2⟩
  · rw [if_pos (by simp [h2]; omega), if_pos (by simp [hl])]
  · rw [if_neg (by rcases h2 with h2 | h2 <;> simp [h2] <;> omega), if_pos (by simp [hl])]
theorem sd_go {hi first root k : Nat} {d : Array Int} (h : ¬ hi ≤ 2 * root + 1) (hk : Child hi first root d k) (hl : ltInt d[first + root]! d[first + k]! = true) : siftDown ltInt hi first root d = siftDown ltInt hi first k (swp d (first + root) (first + k)) := by
  obtain ⟨h1, h2⟩ := hk
  conv => lhs; rw [siftDown, dif_neg h]
  rcases h2 with ⟨rfl, h2⟩ | ⟨rfl, h2⟩
  · rw [if_pos (by simp [h2]; omega), if_neg (by simp [hl]), dif_pos (by omega)]
  · rw [if_neg (by rcases h2 with h2 | h2 <;> simp [h2] <;> omega), if_neg (by simp [hl])]
end Go.Proofs.Ytofebpikihandaa
