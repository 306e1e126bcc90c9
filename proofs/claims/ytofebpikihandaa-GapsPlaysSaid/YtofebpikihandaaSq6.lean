/- The library's sort at numbers of 16 bits: rows of at most 255. -/
import Derived.Test.YtofebpikihandaaSq5
import Derived.Test.YtofebpikihandaaGE
namespace Go.Proofs.Ytofebpikihandaa
open Go.RowKit Go.Sort
set_option linter.unusedVariables false

theorem pdq_says (g c n : Nat) (hn : n < 256) : ∀ N, PdqSays g c n N
  | 0 => fun a b l d w h => absurd h (Nat.not_lt_zero _)
  | N + 1 => pdq_step g c n N hn (pdq_says g c n hn N)
theorem pdq_any {g c l : Nat} {d : Array Int} {w : World} (h : Rw w g d) (hg : g < w.heap.size) (hs : d.size < 256) (hl : l ≤ 300) :
    Calls Try.prog 35 #[.slice (some ⟨g, 0, none⟩) d.size c, .int .i64 0, .int .i64 d.size, .int .i64 l] w (PdqPost w g d 0 d.size) :=
  pdq_says g c d.size hs (d.size + 1) 0 d.size l d w (by omega) h hg (Nat.zero_le _) (Nat.le_refl _) rfl (.inl rfl) hl
set_option maxHeartbeats 1000000 in
theorem sort_all : SortOK 255 := by
  intro g c d w h hs
  by_cases h12 : d.size ≤ 12
  · exact Sort_few h h12
  have hg : g < w.heap.size := by
    have := h.cell (t := 0) (by omega)
    exact World.block_lt_of_cell? w _ this
  have K := keep (fun l (hl : l ≤ 300) => pdq_any (c := c) (l := l) h hg (by omega) hl)
  have hs' : (d.size : Int) < 65536 := by omega
  obtain ⟨n, hn⟩ : ∃ n, d.size = n := ⟨_, rfl⟩
  have HN := keep hn
  rw [hn] at K hs' ⊢
  clear h hg hs h12 hn
  go_enter Try.func34, Try.ntmps34
  go_wp2_with (first
    | (go_at_call 36; refine (Len_small _ _ (by omega) (by omega)).mono ?_; rintro e w' ⟨l, rfl, hl, rfl⟩; have K2 := keep (K.out l hl); unfold PdqPost at K2; clear hl)
    | (go_at_call 35; refine K2.out.mono ?_; rintro e w' ⟨rfl, R, hd, hf⟩; have H := keep (And.intro hd hf); clear hd hf))
  go_end0
  exact ⟨rfl, Sorted.of H.out.1 (by rw [HN.out]; exact H.out.2.1) (by rw [HN.out]; exact H.out.2.2)⟩
end Go.Proofs.Ytofebpikihandaa
