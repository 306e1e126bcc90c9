/- The library's sort at numbers of 16 bits: one number sifted down, the heap sort. -/
import Derived.Test.YtofebpikihandaaSo4
namespace Go.Proofs.Ytofebpikihandaa
open Go.RowKit Go.Sort
set_option linter.unusedVariables false
set_option linter.unusedSimpArgs false

/-- The numbers of a round, as the walk spells them. -/
structure Sift (hi first root n : Nat) : Prop where
  z0 : ¬ ((hi : Int) ≤ 2 * (root : Int) + 1)
  a1 : first + (2 * root + 1) < n
  b1 : (first : Int) + (2 * (root : Int) + 1) < (n : Int)
  a0 : first + root < n
  b0 : (first : Int) + (root : Int) < (n : Int)
  p0 : (0 : Int) ≤ (first : Int) + (2 * (root : Int) + 1)
  q0 : (0 : Int) ≤ (first : Int) + (root : Int)
  small : 2 * (root : Int) + 2 ≤ 3000000 ∧ (first : Int) ≤ 1000000
theorem sift_nums {hi first root n : Nat} (h : ¬ hi ≤ 2 * root + 1) (hf : first + hi ≤ n) (hs : n ≤ 1000000) : Sift hi first root n := ⟨by omega, by omega, by omega, by omega, by omega, by omega, by omega, by omega⟩
theorem sift_two {hi first root n : Nat} (h : 2 * root + 2 < hi) (hf : first + hi ≤ n) : (2 * (root : Int) + 1 + 1 < (hi : Int)) ∧ first + (2 * root + 1) + 1 < n ∧ (first : Int) + (2 * (root : Int) + 1) + 1 < (n : Int) ∧ (first : Int) + (2 * (root : Int) + 1 + 1) < (n : Int) ∧ first + (2 * root + 2) < n := by omega

set_option maxHeartbeats 4000000 in
set_option maxRecDepth 1000000 in
theorem sift_any {g c lo hi first : Nat} {d : Array Int} {w : World} (h : Rw w g d) (hlo : lo ≤ hi) (hf : first + hi ≤ d.size) (hs : d.size ≤ 1000000) :
    Calls Try.prog 48 #[.slice (some ⟨g, 0, none⟩) d.size c, .int .i64 lo, .int .i64 hi, .int .i64 first] w fun e w' => e = .returned (.tuple #[]) ∧ Done w g (siftDown ltInt hi first lo d) w' := by
  obtain ⟨n, hn⟩ : ∃ n, d.size = n := ⟨_, rfl⟩
  have HD := keep (Done.refl h)
  have HN := keep hn
  rw [hn] at hf hs ⊢
  clear h hn
  go_enter Try.func48, Try.ntmps48
  go_wp2
  go_loopw [8] (fun vr wr => ∃ (root : Nat) (dk : Array Int), vr = .int .i64 root ∧ root ≤ hi ∧ Hid (dk.size = n ∧ Done w g dk wr ∧ siftDown ltInt hi first root dk = siftDown ltInt hi first lo d)) (fun vr _ => hi - intOf16 vr)
  case atStart => exact ⟨lo, d, rfl, hlo, HN.out, HD.out, rfl⟩
  case round =>
    obtain ⟨root, dk, rfl, hr, H⟩ := hrel
    by_cases h0 : hi ≤ 2 * root + 1
    · have h0z : (hi : Int) ≤ 2 * (root : Int) + 1 := by omega
      have HE := keep (show Done w g (siftDown ltInt hi first lo d) wr by rw [← H.out.2.2, sd_none h0]; exact H.out.2.1)
      go_wp2
      go_end0
      exact ⟨rfl, HE.out⟩
    · have SN := keep (sift_nums h0 hf hs)
      have z0 := SN.out.z0
      have a1 := SN.out.a1
      have a0 := SN.out.a0
      obtain ⟨G, hG⟩ : ∃ G : Nat → Int, ∀ t, dk[t]! = G t := ⟨fun t => dk[t]!, fun _ => rfl⟩
      have hcw : ∀ t, t < n → wr.cell? ⟨g, t, none⟩ = some (.int .u16 (G t)) := fun t ht => by rw [← hG]; exact H.out.2.1.row.cell (by rw [H.out.1]; exact ht)
      have hfw : ∀ t, t < n → wr.frozen? ⟨g, t, none⟩ = false := fun t ht => H.out.2.1.row.fz (by rw [H.out.1]; exact ht)
      have HG := keep hG
      have HH := keep (And.intro h0 (And.intro hf hs))
      clear hG h0
      -- whichever child is the greater: the end of the round
      by_cases h2 : 2 * root + 2 < hi
      · obtain ⟨c1, c2, _, _, _⟩ := sift_two h2 hf
        go_wp2_with fail
        go_quiet (first | (go_at_call 43; refine Calls.quiet_of_same (Less16c _ _ _)))
        go_wp2_with fail
        all_goals
          revert nq; intro nq1
          have hcw2 : ∀ t, t < n → (wr.drewN nq1).cell? ⟨g, t, none⟩ = some (.int .u16 (G t)) := hcw
          have hfw2 : ∀ t, t < n → (wr.drewN nq1).frozen? ⟨g, t, none⟩ = false := hfw
          have HW2 := keep (H.out.2.1.drew nq1)
          clear hcw hfw
          generalize wr.drewN nq1 = wr2 at hcw2 hfw2 HW2 ⊢
          go_quiet (first | (go_at_call 43; refine Calls.quiet_of_same (Less16c _ _ _)))
          go_wp2_with fail
        · have hl : ltInt dk[first + root]! dk[first + (2 * root + 2)]! = false := by
            have : (!ltInt (G (first + root)) (G (first + (2 * root + 1 + 1)))) = true := by assumption
            rw [HG.out, HG.out]
            simpa using this
          have hk : Child hi first root dk (2 * root + 2) := ⟨h2, .inl ⟨rfl, by rw [HG.out, HG.out]; assumption⟩⟩
          exact bodyPost_ret (results_none rfl _ _ _) rfl ⟨rfl, by rw [← H.out.2.2, sd_stop HH.out.1 hk hl]; exact HW2.out.drew _⟩
        · have hl : ltInt dk[first + root]! dk[first + (2 * root + 2)]! = true := by
            have : (!ltInt (G (first + root)) (G (first + (2 * root + 1 + 1)))) = false := by assumption
            rw [HG.out, HG.out]
            simpa using this
          have hk : Child hi first root dk (2 * root + 2) := ⟨h2, .inl ⟨rfl, by rw [HG.out, HG.out]; assumption⟩⟩
          have HL := keep (And.intro hl hk)
          clear hl hk
          go_region
          all_goals go_wp2
          go_roundw
          case rel =>
            refine ⟨2 * root + 2, swp dk (first + root) (first + (2 * root + 2)), by congr 1 <;> omega, by omega, by rw [swp_size]; exact H.out.1, ?_, by rw [← H.out.2.2, sd_go HH.out.1 HL.out.2 HL.out.1]⟩
            have := (HW2.out.drew (nq + 1)).swap (i := first + root) (j := first + (2 * root + 2)) (by rw [H.out.1]; exact a0) (by rw [H.out.1]; omega)
            rw [HG.out, HG.out] at this
            exact this
          case measure => simp [intOf16]; omega
        · have hl : ltInt dk[first + root]! dk[first + (2 * root + 1)]! = false := by
            have : (!ltInt (G (first + root)) (G (first + (2 * root + 1)))) = true := by assumption
            rw [HG.out, HG.out]
            simpa using this
          have hk : Child hi first root dk (2 * root + 1) := ⟨by omega, .inr ⟨rfl, .inr (by rw [HG.out, HG.out]; assumption)⟩⟩
          exact bodyPost_ret (results_none rfl _ _ _) rfl ⟨rfl, by rw [← H.out.2.2, sd_stop HH.out.1 hk hl]; exact HW2.out.drew _⟩
        · have hl : ltInt dk[first + root]! dk[first + (2 * root + 1)]! = true := by
            have : (!ltInt (G (first + root)) (G (first + (2 * root + 1)))) = false := by assumption
            rw [HG.out, HG.out]
            simpa using this
          have hk : Child hi first root dk (2 * root + 1) := ⟨by omega, .inr ⟨rfl, .inr (by rw [HG.out, HG.out]; assumption)⟩⟩
          have HL := keep (And.intro hl hk)
          clear hl hk
          go_region
          all_goals go_wp2
          go_roundw
          case rel =>
            refine ⟨2 * root + 1, swp dk (first + root) (first + (2 * root + 1)), by congr 1 <;> omega, by omega, by rw [swp_size]; exact H.out.1, ?_, by rw [← H.out.2.2, sd_go HH.out.1 HL.out.2 HL.out.1]⟩
            have := (HW2.out.drew (nq + 1)).swap (i := first + root) (j := first + (2 * root + 1)) (by rw [H.out.1]; exact a0) (by rw [H.out.1]; omega)
            rw [HG.out, HG.out] at this
            exact this
          case measure => simp [intOf16]; omega
      · have c1 : decide (2 * (root : Int) + 1 + 1 < (hi : Int)) = false := decide_eq_false (by omega)
        go_wp2_with fail
        go_quiet (first | (go_at_call 43; refine Calls.quiet_of_same (Less16c _ _ _)))
        go_wp2_with fail
        revert nq; intro nq1
        have hcw2 : ∀ t, t < n → (wr.drewN nq1).cell? ⟨g, t, none⟩ = some (.int .u16 (G t)) := hcw
        have hfw2 : ∀ t, t < n → (wr.drewN nq1).frozen? ⟨g, t, none⟩ = false := hfw
        have HW2 := keep (H.out.2.1.drew nq1)
        clear hcw hfw
        generalize wr.drewN nq1 = wr2 at hcw2 hfw2 HW2 ⊢
        go_quiet (first | (go_at_call 43; refine Calls.quiet_of_same (Less16c _ _ _)))
        go_wp2_with fail
        · have hl : ltInt dk[first + root]! dk[first + (2 * root + 1)]! = false := by
            have : (!ltInt (G (first + root)) (G (first + (2 * root + 1)))) = true := by assumption
            rw [HG.out, HG.out]
            simpa using this
          have hk : Child hi first root dk (2 * root + 1) := ⟨by omega, .inr ⟨rfl, .inl h2⟩⟩
          exact bodyPost_ret (results_none rfl _ _ _) rfl ⟨rfl, by rw [← H.out.2.2, sd_stop HH.out.1 hk hl]; exact HW2.out.drew _⟩
        · have hl : ltInt dk[first + root]! dk[first + (2 * root + 1)]! = true := by
            have : (!ltInt (G (first + root)) (G (first + (2 * root + 1)))) = false := by assumption
            rw [HG.out, HG.out]
            simpa using this
          have hk : Child hi first root dk (2 * root + 1) := ⟨by omega, .inr ⟨rfl, .inl h2⟩⟩
          have HL := keep (And.intro hl hk)
          clear hl hk
          go_region
          all_goals go_wp2
          go_roundw
          case rel =>
            refine ⟨2 * root + 1, swp dk (first + root) (first + (2 * root + 1)), by congr 1 <;> omega, by omega, by rw [swp_size]; exact H.out.1, ?_, by rw [← H.out.2.2, sd_go HH.out.1 HL.out.2 HL.out.1]⟩
            have := (HW2.out.drew (nq + 1)).swap (i := first + root) (j := first + (2 * root + 1)) (by rw [H.out.1]; exact a0) (by rw [H.out.1]; omega)
            rw [HG.out, HG.out] at this
            exact this
          case measure => simp [intOf16]; omega
end Go.Proofs.Ytofebpikihandaa
