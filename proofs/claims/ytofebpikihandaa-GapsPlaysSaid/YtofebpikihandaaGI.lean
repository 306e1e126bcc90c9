/- What follows for a set's numbers when the floor goes up, when one comes, when some are skipped. -/
import Derived.Test.YtofebpikihandaaGH
namespace Go.Proofs.Ytofebpikihandaa
open Go.RowKit Go.Maps
set_option linter.unusedVariables false

theorem had_up {f m : Int} {M : List Nat} {u : Nat} (hM : Fit M) (hr : Rise M u) (h : ht f m < 2147483648 ∨ 2147483648 + u ≤ ht f m) : had (wr (f + u)) (shiftL u M) m = had f M m := by
  have hu := hr.le hM.top
  have hlt := ht_lt f m
  rw [Bool.eq_iff_iff, had_iff, had_iff]
  by_cases hc : u ≤ ht f m
  · have := ht_shift (f := f) (n := m) hc
    rw [this, mem_shiftL, show ht f m - u + u = ht f m by omega]
    constructor
    · rintro (h1 | h1 | h1)
      · by_cases h0 : u = 0
        · exact .inl (by omega)
        · exact .inr (.inr (by rw [show ht f m = u by omega]; exact hr.all u (by omega) (Nat.le_refl _)))
      · exact .inr (.inl (by omega))
      · exact .inr (.inr h1.2)
    · rintro (h1 | h1 | h1)
      · exact .inl (by omega)
      · exact .inr (.inl (by omega))
      · by_cases h0 : ht f m = u
        · exact .inl (by omega)
        · exact .inr (.inr ⟨by omega, h1⟩)
  · have := ht_round (f := f) (n := m) (d := u) (by omega) (by omega)
    rw [this]
    constructor
    · intro _
      by_cases h0 : ht f m = 0
      · exact .inl h0
      · exact .inr (.inr (hr.all _ (by omega) (by omega)))
    · intro _
      exact .inr (.inl (by omega))
theorem had_put {s : St} (hL : Fit s.L) {h : Nat} (h1 : 1 ≤ h) (h2 : h ≤ 1024) {m : Int} (hm : ht s.f m < 2147483648 ∨ 2147484672 ≤ ht s.f m) : had (s.put h).f (s.put h).L m = (had s.f s.L m || decide (ht s.f m = h)) := by
  have hM := hL.ins h1 h2
  have hu := hM.rise.le hM.top
  show had (wr (s.f + riseL (insN h s.L))) (shiftL (riseL (insN h s.L)) (insN h s.L)) m = _
  rw [had_up hM hM.rise (by omega), Bool.eq_iff_iff, Bool.or_eq_true, had_iff, had_iff, decide_eq_true_eq, mem_insN]
  constructor
  · rintro (h | h | h | h)
    · exact .inl (.inl h)
    · exact .inl (.inr (.inl h))
    · exact .inr h
    · exact .inl (.inr (.inr h))
  · rintro ((h | h | h) | h)
    · exact .inl h
    · exact .inr (.inl h)
    · exact .inr (.inr (.inr h))
    · exact .inr (.inr (.inl h))
/-- What comes is there. -/
theorem had_new {s : St} (hL : Fit s.L) {n : Int} (h1 : 1 ≤ ht s.f n) (h2 : ht s.f n ≤ 1024) : had (s.put (ht s.f n)).f (s.put (ht s.f n)).L n = true := by
  rw [had_put hL h1 h2 (by omega)]
  simp
theorem len_put {s : St} {h : Nat} : (s.put h).L.length ≤ s.L.length + 1 := Nat.le_trans (len_shiftL _ _) len_insN
theorem len_add {s : St} {n : Int} : (s.add n).L.length ≤ s.L.length + 1 := by
  unfold St.add
  split
  · simp
  · split
    · omega
    · exact len_put
theorem len_fwd {s : St} {n : Int} : (s.fwd n).L.length ≤ s.L.length := by
  unfold St.fwd
  split
  · exact Nat.le_trans (len_shiftL _ _) (len_shiftL _ _)
  · omega

/-- A number comes twice: what is told. -/
theorem twice {s : St} (hL : Fit s.L) {n : Int} :
    (s.told n = 2 ∧ s.add n = s ∧ had s.f s.L n = false ∧ 1024 < ht s.f n) ∨
    ((s.told n = if had s.f s.L n = true then 1 else 0) ∧ (s.add n).told n = 1 ∧ had (s.add n).f (s.add n).L n = true ∧ had ((s.add n).add n).f ((s.add n).add n).L n = true) := by
  unfold St.told
  by_cases hh : had s.f s.L n = true
  · right
    have e : s.add n = ⟨s.f, s.L, (s.T ++ [n]).take 64⟩ := by unfold St.add; rw [if_pos hh]
    rw [e]
    dsimp only
    rw [if_pos hh]
    refine ⟨by rw [if_pos hh], rfl, hh, ?_⟩
    unfold St.add
    dsimp only
    rw [if_pos hh]
    exact hh
  · rw [if_neg hh]
    by_cases hf : 1024 < ht s.f n
    · left
      rw [if_pos hf]
      exact ⟨rfl, by unfold St.add; rw [if_neg hh, if_pos hf], by simpa using hh, hf⟩
    · right
      rw [if_neg hf, if_neg hh]
      have hno := hh
      rw [had_iff] at hno
      have e : s.add n = s.put (ht s.f n) := by unfold St.add; rw [if_neg hh, if_neg hf]
      have hn := had_new hL (n := n) (by omega) (by omega)
      rw [e, if_pos hn]
      refine ⟨rfl, rfl, hn, ?_⟩
      unfold St.add
      rw [if_pos hn]
      exact hn

/-- Some are skipped. -/
theorem fwd_facts {s : St} (hL : Fit s.L) (f0 : 0 ≤ s.f) (f1 : s.f < 4294967296) {d : Nat} (hd : d < 1073741824) :
    had (s.fwd (wr (s.f + d))).f (s.fwd (wr (s.f + d))).L (wr (s.f + d)) = true ∧ (d : Int) ≤ dist32 s.f (s.fwd (wr (s.f + d))).f ∧ ∀ m, ht s.f m < 1073741824 → had s.f s.L m = true → had (s.fwd (wr (s.f + d))).f (s.fwd (wr (s.f + d))).L m = true := by
  have eh : ht s.f (wr (s.f + d)) = d := ht_up s.f d (by omega)
  unfold St.fwd
  rw [eh]
  by_cases h : 1 ≤ d ∧ d < 2147483648
  · rw [if_pos h]
    dsimp only
    have hM := hL.shift d
    have hu := hM.rise.le hM.top
    have e0 : ht (wr (s.f + d)) (wr (s.f + d)) = 0 := by unfold ht dist32 dist; omega
    refine ⟨?_, ?_, fun m hm hh => ?_⟩
    · rw [had_up hM hM.rise (by omega), had_iff]
      exact .inl e0
    · rw [wr_add, show s.f + (d : Int) + (riseL (shiftL d s.L) : Int) = s.f + ((d + riseL (shiftL d s.L) : Nat) : Int) by omega, ← ht_int, ht_up _ _ (by omega)]
      omega
    · rw [had_iff] at hh
      by_cases hc : d ≤ ht s.f m
      · have e1 := ht_shift (f := s.f) (n := m) hc
        rw [had_up hM hM.rise (by omega), had_iff, e1, mem_shiftL, show ht s.f m - d + d = ht s.f m by omega]
        by_cases h0 : ht s.f m = d
        · exact .inl (by omega)
        · exact .inr (.inr ⟨by omega, by rcases hh with hh | hh | hh <;> first | exact hh | omega⟩)
      · have e1 := ht_round (f := s.f) (n := m) (d := d) (by omega) (by omega)
        rw [had_up hM hM.rise (by omega), had_iff, e1]
        exact .inr (.inl (by omega))
  · rw [if_neg h]
    have h0 : d = 0 := by omega
    subst h0
    refine ⟨had_iff.2 (.inl eh), ?_, fun m _ hh => hh⟩
    have := dist32_lo s.f s.f
    exact this
end Go.Proofs.Ytofebpikihandaa
