/- The library's sort at numbers of 16 bits: at most twelve. -/
import Derived.Test.YtofebpikihandaaSo1
namespace Go.Proofs.Ytofebpikihandaa
open Go.RowKit Go.Sort
set_option linter.unusedVariables false

theorem len_a (B : UInt8) (w : World) : ∃ l : Nat, Ending.returned (.int .i64 (wrap64 (8 + wrap64 (B.toNat : Int)))) = Ending.returned (.int .i64 (l : Int)) ∧ l ≤ 300 ∧ w = w := by
  have := B.toNat_lt
  exact ⟨8 + B.toNat, by congr 2; unfold wrap64; omega, by omega, rfl⟩
theorem len_b (B : UInt8) (w : World) : ∃ l : Nat, Ending.returned (.int .i64 (wrap64 (wrap64 (B.toNat : Int)))) = Ending.returned (.int .i64 (l : Int)) ∧ l ≤ 300 ∧ w = w := by
  have := B.toNat_lt
  exact ⟨B.toNat, by congr 2; unfold wrap64; omega, by omega, rfl⟩
set_option maxHeartbeats 2000000 in
set_option maxRecDepth 1000000 in
theorem Len64_small (x : Int) (w : World) (h0 : 0 ≤ x) (h1 : x < 65536) : Calls Try.prog 47 #[.int .u64 x] w fun e w' => ∃ l : Nat, e = .returned (.int .i64 l) ∧ l ≤ 300 ∧ w' = w := by
  by_cases h2 : 256 ≤ x
  · go_enter Try.func47, Try.ntmps47
    go_wp2
    go_ret
    exact len_a _ _
  · go_enter Try.func47, Try.ntmps47
    go_wp2
    go_ret
    exact len_b _ _
theorem pdq_few {g c a b : Nat} {d : Array Int} {w : World} {l : Int} (h : Rw w g d) (hab : a ≤ b) (hb : b ≤ d.size) (hs : d.size ≤ 1000000) (h12 : b - a ≤ 12) :
    Calls Try.prog 35 #[.slice (some ⟨g, 0, none⟩) d.size c, .int .i64 a, .int .i64 b, .int .i64 l] w fun e w' => e = .returned (.tuple #[]) ∧ Done w g (insertionSort ltInt d a b) w' := by
  have HI := keep (insertion_any (c := c) h hab hb hs)
  obtain ⟨n, hn⟩ : ∃ n, d.size = n := ⟨_, rfl⟩
  rw [hn] at HI hb hs ⊢
  have hz : (b : Int) - a ≤ 12 := by omega
  clear h hn
  go_enter Try.func35, Try.ntmps35
  go_wp2
  refine wp_loop_rounds 1 ?_
  rw [rounds_succ]
  go_wp2_with (go_at_call 37; refine HI.out.mono ?_; rintro e w' ⟨rfl, hd⟩; replace hd := keep hd)
  (try simp only [Exit.inBlock, Exit.then])
  exact bodyPost_ret (results_none rfl _ _ _) rfl ⟨rfl, hd.out⟩
theorem Len_small (x : Int) (w : World) (h0 : 0 ≤ x) (h1 : x < 65536) : Calls Try.prog 36 #[.int .u64 x] w fun e w' => ∃ l : Nat, e = .returned (.int .i64 l) ∧ l ≤ 300 ∧ w' = w := by
  go_enter Try.func36, Try.ntmps36
  go_wp2_with (go_at_call 47; refine (Len64_small _ _ h0 h1).mono ?_; rintro e w' ⟨l, rfl, hl, rfl⟩)
  go_ret
  exact ⟨l, rfl, hl, rfl⟩

/-- Behind a sort of the whole row. -/
def Sorted (w : World) (g : Nat) (d : Array Int) (w' : World) : Prop := ∃ d', Done w g d' w' ∧ d'.toList.Perm d.toList ∧ d'.toList.Pairwise (fun x y => x ≤ y)
theorem Sorted.of {w w' : World} {g : Nat} {d d' : Array Int} (h : Done w g d' w') (hp : PermIn 0 d.size d d') (hs : SortedIn ltInt 0 d.size d') : Sorted w g d w' := by
  refine ⟨d', h, ?_, ?_⟩
  · have := hp.2.2
    have e1 : d'.extract 0 d.size = d' := by rw [← hp.1]; simp
    rwa [e1, Array.extract_size] at this
  · rw [List.pairwise_iff_getElem]
    intro i j hi hj hij
    have hi' : i < d'.size := by simpa using hi
    have hj' : j < d'.size := by simpa using hj
    have := hs i j (Nat.zero_le _) hij (by rw [← hp.1]; exact hj')
    rw [getElem!_pos d' j hj', getElem!_pos d' i hi'] at this
    simp [ltInt] at this
    simpa using this

theorem Sort_few {g c : Nat} {d : Array Int} {w : World} (h : Rw w g d) (h12 : d.size ≤ 12) :
    Calls Try.prog 34 #[.slice (some ⟨g, 0, none⟩) d.size c] w fun e w' => e = .returned (.tuple #[]) ∧ Sorted w g d w' := by
  have hall := insertionSort_holds (lt := ltInt) swo_ltInt d 0 d.size (Nat.zero_le _) (Nat.le_refl _)
  have HI := keep fun l => (pdq_few (c := c) (l := l) h (Nat.zero_le _) (Nat.le_refl _) (by omega) (by omega)).mono fun e w' he => And.intro he.1 (Sorted.of he.2 hall.1 hall.2)
  obtain ⟨n, hn⟩ : ∃ n, d.size = n := ⟨_, rfl⟩
  rw [hn] at HI h12 ⊢
  clear h hn hall
  go_enter Try.func34, Try.ntmps34
  go_wp2_with (first
    | (go_at_call 36; refine (Len_small _ _ (by omega) (by omega)).mono ?_; rintro e w' ⟨l, rfl, hl, rfl⟩; clear hl)
    | (go_at_call 35; refine (HI.out _).mono ?_; rintro e w2 ⟨rfl, hd⟩; replace hd := keep hd))
  go_end0
  exact ⟨rfl, hd.out⟩
end Go.Proofs.Ytofebpikihandaa
