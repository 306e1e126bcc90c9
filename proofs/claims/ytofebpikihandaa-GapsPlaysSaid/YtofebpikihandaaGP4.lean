/- The document's runs: by marks, from the lowest on. -/
import Derived.Test.YtofebpikihandaaGP3
import Derived.Test.YtofebpikihandaaGF
namespace Go.Proofs.Ytofebpikihandaa
open Go.RowKit Go.Maps
set_option linter.unusedVariables false
set_option linter.unusedSimpArgs false

/-- The heights up to i. -/
def upto (L : List Nat) (i : Nat) : List Nat := L.filter fun x => decide (x ≤ i)
theorem upto_asc {L : List Nat} (hL : Asc L) (i : Nat) : Asc (upto L i) := ⟨hL.up.filter _, fun x hx => hL.pos x (List.mem_filter.1 hx).1⟩
theorem upto_zero {L : List Nat} (hL : Asc L) : upto L 0 = [] := by
  refine List.eq_nil_iff_forall_not_mem.2 fun x hx => ?_
  obtain ⟨h1, h2⟩ := List.mem_filter.1 hx
  have := hL.pos x h1
  have : x ≤ 0 := by simpa using h2
  omega
theorem upto_all {L : List Nat} (hL : Fit L) {i : Nat} (hi : 1024 ≤ i) : upto L i = L := by
  refine List.filter_eq_self.2 fun x hx => ?_
  have := hL.top x hx
  simp
  omega
theorem upto_skip {L : List Nat} {i : Nat} (h : i + 1 ∉ L) : upto L (i + 1) = upto L i := by
  unfold upto
  refine List.filter_congr fun x hx => ?_
  apply decide_eq_decide.2
  constructor
  · intro h1
    by_cases e : x = i + 1
    · exact absurd (e ▸ hx) h
    · omega
  · intro h1
    omega
theorem upto_add {L : List Nat} (hL : Asc L) {i : Nat} (h : i + 1 ∈ L) : upto L (i + 1) = upto L i ++ [i + 1] := by
  have ha : Asc (upto L i ++ [i + 1]) := by
    refine ⟨?_, fun x hx => ?_⟩
    · rw [List.pairwise_append]
      refine ⟨(upto_asc hL i).up, List.pairwise_singleton _ _, fun a ha b hb => ?_⟩
      have h1 : a ≤ i := by simpa using (List.mem_filter.1 ha).2
      have h2 : b = i + 1 := by simpa using hb
      omega
    · rcases List.mem_append.1 hx with hx | hx
      · exact (upto_asc hL i).pos x hx
      · have : x = i + 1 := by simpa using hx
        omega
  refine Asc.eq (upto_asc hL _) ha fun x => ?_
  unfold upto
  rw [List.mem_append, List.mem_filter, List.mem_filter]
  constructor
  · rintro ⟨h1, h2⟩
    have h2 : x ≤ i + 1 := by simpa using h2
    by_cases e : x = i + 1
    · exact .inr (by simp [e])
    · exact .inl ⟨h1, by simp; omega⟩
  · rintro (⟨h1, h2⟩ | h1)
    · have h2 : x ≤ i := by simpa using h2
      exact ⟨h1, by simp; omega⟩
    · have : x = i + 1 := by simpa using h1
      subst this
      exact ⟨h, by simp⟩
/-- The runs of the heights up to i. -/
def told (L : List Nat) (i : Nat) : List (Nat × Nat) := (runsR (upto L i)).reverse
theorem told_zero {L : List Nat} (hL : Asc L) : told L 0 = [] := by unfold told; rw [upto_zero hL]; rfl
theorem told_skip {L : List Nat} {i : Nat} (h : i + 1 ∉ L) : told L (i + 1) = told L i := by unfold told; rw [upto_skip h]
theorem runsR_last {p : List Nat} {a b : Nat} {r : List (Nat × Nat)} (h : runsR p = (a, b) :: r) : b ∈ p := by
  rcases List.eq_nil_or_concat p with e | ⟨q, x, e⟩
  · subst e
    cases h
  · rw [List.concat_eq_append] at e
    subst e
    rw [runsR_snoc] at h
    have : b = x := by
      rcases hr : runsR q with _ | ⟨⟨c, d⟩, s⟩
      · rw [hr] at h
        simp [pushRun] at h
        exact h.1.2.symm
      · rw [hr] at h
        by_cases hx : x = d + 1
        · rw [push_on hx] at h
          simp at h
          exact h.1.2.symm
        · rw [push_off hx] at h
          simp at h
          exact h.1.2.symm
    rw [this]
    simp
/-- A run begins. -/
theorem run_new {L : List Nat} (hL : Asc L) {i : Nat} (h1 : i + 1 ∈ L) (h0 : ¬ (i ∈ L ∧ i + 1 ∈ L)) : runsR (upto L (i + 1)) = (i + 1, i + 1) :: runsR (upto L i) := by
  rw [upto_add hL h1, runsR_snoc]
  rcases hr : runsR (upto L i) with _ | ⟨⟨a, b⟩, r⟩
  · rfl
  · rw [push_off]
    intro e
    have hb := runsR_last hr
    have hbi : b = i := by omega
    rw [hbi] at hb
    exact h0 ⟨(List.mem_filter.1 hb).1, h1⟩
/-- It goes on. -/
theorem run_on {L : List Nat} (hL : Asc L) {k a : Nat} {r : List (Nat × Nat)} (h : runsR (upto L (k + 1)) = (a, k + 1) :: r) (h1 : k + 2 ∈ L) : runsR (upto L (k + 2)) = (a, k + 2) :: r := by
  rw [upto_add hL h1, runsR_snoc, h, push_on rfl]
/-- With 64 runs no more is told. -/
theorem told_full {L : List Nat} (hL : Asc L) {i : Nat} (hl : (told L i).length = 64) (h0 : ¬ (i ∈ L ∧ i + 1 ∈ L)) : runs L = told L i := by
  have hsplit : L = upto L i ++ L.filter (fun x => decide (i < x)) := by
    have ha : Asc (upto L i ++ L.filter (fun x => decide (i < x))) := by
      refine ⟨?_, fun x hx => ?_⟩
      · rw [List.pairwise_append]
        refine ⟨(upto_asc hL i).up, hL.up.filter _, fun a ha b hb => ?_⟩
        have h1 : a ≤ i := by simpa using (List.mem_filter.1 ha).2
        have h2 : i < b := by simpa using (List.mem_filter.1 hb).2
        omega
      · rcases List.mem_append.1 hx with hx | hx
        · exact (upto_asc hL i).pos x hx
        · exact hL.pos x (List.mem_filter.1 hx).1
    refine Asc.eq hL ha fun x => ?_
    unfold upto
    rw [List.mem_append, List.mem_filter, List.mem_filter]
    constructor
    · intro hx
      by_cases e : x ≤ i
      · exact .inl ⟨hx, by simpa using e⟩
      · exact .inr ⟨hx, by simp; omega⟩
    · rintro (h | h)
      · exact h.1
      · exact h.1
  unfold told at hl ⊢
  rw [List.length_reverse] at hl
  rcases ht : L.filter (fun x => decide (i < x)) with _ | ⟨h, t⟩
  · rw [ht, List.append_nil] at hsplit
    rw [← hsplit] at hl ⊢
    exact runs_small L (by omega)
  · rcases hr : runsR (upto L i) with _ | ⟨⟨a, b⟩, r⟩
    · rw [hr] at hl
      cases hl
    · rw [hr] at hl
      have hb := runsR_last hr
      have hbL := (List.mem_filter.1 hb).1
      have hbi : b ≤ i := by simpa using (List.mem_filter.1 hb).2
      have hhm : h ∈ L.filter (fun x => decide (i < x)) := by rw [ht]; simp
      have hhi : i < h := by simpa using (List.mem_filter.1 hhm).2
      have hhL := (List.mem_filter.1 hhm).1
      have := runs_full (upto L i) t h a b r hr (by simpa using hl) (fun e => by
        have e1 : b = i := by omega
        have e2 : h = i + 1 := by omega
        rw [e1] at hbL
        rw [e2] at hhL
        exact h0 ⟨hbL, hhL⟩)
      rw [ht] at hsplit
      rw [← hsplit, hr] at this
      exact this
theorem told_all {L : List Nat} (hL : Fit L) {i : Nat} (hi : 1024 ≤ i) (hl : (told L i).length ≤ 64) : runs L = told L i := by
  unfold told at hl ⊢
  rw [upto_all hL hi] at hl ⊢
  exact runs_small L (by simpa using hl)
end Go.Proofs.Ytofebpikihandaa
