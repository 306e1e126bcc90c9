/- The library's sort at numbers of 16 bits: the partition. -/
import Derived.Test.YtofebpikihandaaSo6
namespace Go.Proofs.Ytofebpikihandaa
open Go.RowKit Go.Sort
set_option linter.unusedVariables false
set_option linter.unusedSimpArgs false

/-- Between i and j all is still to be told; what is less than p lies ahead, the rest behind. -/
structure Cut (d0 d : Array Int) (p : Int) (a b i j : Nat) : Prop where
  perm : PermIn a b d0 d
  piv : d[a]! = p
  lo : ∀ x, a < x → x < i → ltInt d[x]! p = true
  hi : ∀ x, j < x → x < b → ltInt d[x]! p = false
  ai : a < i
  ij : i ≤ j + 1
  jb : j < b
theorem Cut.size {d0 d : Array Int} {p : Int} {a b i j : Nat} (h : Cut d0 d p a b i j) : d.size = d0.size := h.perm.1
theorem Cut.start {d : Array Int} {a b q : Nat} (hq : a ≤ q) (hb : q < b) (hs : b ≤ d.size) (h1 : a + 1 < b) : Cut d (swp d a q) (swp d a q)[a]! a b (a + 1) (b - 1) :=
  ⟨swp_in (Nat.le_refl _) (by omega) hq hb hs, rfl, fun x h1 h2 => by omega, fun x h1 h2 => by omega, by omega, by omega, by omega⟩
theorem Cut.up {d0 d : Array Int} {p : Int} {a b i j : Nat} (h : Cut d0 d p a b i j) (hij : i ≤ j) (hl : ltInt d[i]! p = true) : Cut d0 d p a b (i + 1) j :=
  ⟨h.perm, h.piv, fun x h1 h2 => by
    by_cases e : x = i
    · rw [e]; exact hl
    · exact h.lo x h1 (by omega), h.hi, by have := h.ai; omega, by omega, h.jb⟩
theorem Cut.down {d0 d : Array Int} {p : Int} {a b i j : Nat} (h : Cut d0 d p a b i j) (hij : i ≤ j) (hl : ltInt d[j]! p = false) : Cut d0 d p a b i (j - 1) :=
  ⟨h.perm, h.piv, h.lo, fun x h1 h2 => by
    by_cases e : x = j
    · rw [e]; exact hl
    · exact h.hi x (by omega) h2, h.ai, by have := h.ai; omega, by have := h.jb; omega⟩
theorem Cut.swap {d0 d : Array Int} {p : Int} {a b i j : Nat} (h : Cut d0 d p a b i j) (hs : b ≤ d0.size) (hij : i ≤ j) (h1 : ltInt d[i]! p = false) (h2 : ltInt d[j]! p = true) : Cut d0 (swp d i j) p a b (i + 1) (j - 1) := by
  have ha := h.ai
  have hb := h.jb
  have hz := h.size
  have hne : i ≠ j := fun e => by rw [e, h2] at h1; cases h1
  have hi : i < d.size := by omega
  have hj : j < d.size := by omega
  refine ⟨permIn_trans _ _ _ _ _ h.perm (swp_in (by omega) (by omega) (by omega) hb (by omega)), ?_, fun x x1 x2 => ?_, fun x x1 x2 => ?_, by omega, by omega, by omega⟩
  · rw [swp_get d hi hj a, if_neg (by omega), if_neg (by omega)]
    exact h.piv
  · rw [swp_get d hi hj x]
    by_cases e1 : x = j
    · omega
    · rw [if_neg e1]
      by_cases e2 : x = i
      · rw [if_pos e2]
        exact h2
      · rw [if_neg e2]
        exact h.lo x x1 (by omega)
  · rw [swp_get d hi hj x]
    by_cases e1 : x = j
    · rw [if_pos e1]
      exact h1
    · rw [if_neg e1, if_neg (by omega)]
      exact h.hi x (by omega) x2
/-- Where the two have met: the pivot in its place. -/
structure Parted (d0 d : Array Int) (a b m : Nat) : Prop where
  perm : PermIn a b d0 d
  am : a ≤ m
  mb : m < b
  lo : ∀ x, a ≤ x → x < m → ltInt d[x]! d[m]! = true
  hi : ∀ x, m < x → x < b → ltInt d[x]! d[m]! = false
theorem Cut.met {d0 d : Array Int} {p : Int} {a b i j : Nat} (h : Cut d0 d p a b i j) (hs : b ≤ d0.size) (hij : j < i) : Parted d0 (swp d j a) a b j := by
  have ha := h.ai
  have hi := h.ij
  have hb := h.jb
  have hz := h.size
  have hj : j < d.size := by omega
  have haz : a < d.size := by omega
  have hm : (swp d j a)[j]! = p := by
    rw [swp_get d hj haz j]
    by_cases e : j = a
    · rw [if_pos e, e]
      exact h.piv
    · rw [if_neg e, if_pos rfl]
      exact h.piv
  refine ⟨permIn_trans _ _ _ _ _ h.perm (swp_in (by omega) hb (Nat.le_refl _) (by omega) (by omega)), by omega, hb, fun x x1 x2 => ?_, fun x x1 x2 => ?_⟩
  · rw [hm, swp_get d hj haz x]
    by_cases e : x = a
    · rw [if_pos e]
      exact h.lo j (by omega) hij
    · rw [if_neg e, if_neg (by omega)]
      exact h.lo x (by omega) (by omega)
  · rw [hm, swp_get d hj haz x, if_neg (by omega), if_neg (by omega)]
    exact h.hi x x1 x2
end Go.Proofs.Ytofebpikihandaa
