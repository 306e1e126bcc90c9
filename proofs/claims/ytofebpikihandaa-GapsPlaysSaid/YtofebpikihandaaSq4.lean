/- The library's sort at numbers of 16 bits: what a round of the pattern-defeating quicksort leaves to do. -/
import Derived.Test.YtofebpikihandaaSq3
import Derived.Test.YtofebpikihandaaSo6
import Derived.Test.YtofebpikihandaaSo8
import Derived.Test.YtofebpikihandaaSo9
import Derived.Test.YtofebpikihandaaSp1
import Derived.Sort.LotD2
namespace Go.Proofs.Ytofebpikihandaa
open Go.RowKit Go.Sort
set_option linter.unusedVariables false

/-- A sorted row within [a, b). -/
def Fin (d : Array Int) (a b : Nat) (R : Array Int) : Prop := PermIn a b d R ∧ SortedIn ltInt a b R
/-- What is left: [a', b') of dk; whatever sorts it sorts [a, b) of d. -/
structure At (d : Array Int) (a b a' b' n : Nat) (dk : Array Int) : Prop where
  aa : a ≤ a'
  ab : a' ≤ b'
  bb : b' ≤ b
  bn : b ≤ n
  size : dk.size = n
  low : Go.Sort.Below ltInt a' b' dk
  fin : ∀ R, PermIn a' b' dk R → SortedIn ltInt a' b' R → Fin d a b R
theorem At.start {d : Array Int} {a b n : Nat} (hab : a ≤ b) (hb : b ≤ n) (hn : d.size = n) (hl : Go.Sort.Below ltInt a b d) : At d a b a b n d :=
  ⟨Nat.le_refl _, hab, Nat.le_refl _, hb, hn, hl, fun R hp hs => ⟨hp, hs⟩⟩
theorem At.perm {d dk d1 : Array Int} {a b a' b' n : Nat} (h : At d a b a' b' n dk) (hp : PermIn a' b' dk d1) : At d a b a' b' n d1 :=
  ⟨h.aa, h.ab, h.bb, h.bn, hp.1.trans h.size, h.low.perm (by have := h.bb; have := h.bn; have := h.size; omega) hp, fun R hR hs => h.fin R (permIn_trans _ _ _ _ _ hp hR) hs⟩
theorem At.ins {d dk : Array Int} {a b a' b' n : Nat} (h : At d a b a' b' n dk) : Fin d a b (insertionSort ltInt dk a' b') := by
  have := insertionSort_holds swo_ltInt dk a' b' h.ab (by have := h.bb; have := h.bn; have := h.size; omega)
  exact h.fin _ this.1 this.2
theorem At.heap {d dk : Array Int} {a b a' b' n : Nat} (h : At d a b a' b' n dk) : Fin d a b (heapSort ltInt dk a' b') := by
  have := heapSort_holds swo_ltInt dk a' b' h.ab (by have := h.bb; have := h.bn; have := h.size; omega)
  exact h.fin _ this.1 this.2
theorem At.par {d dk : Array Int} {a b a' b' n : Nat} (h : At d a b a' b' n dk) (hlt : a' < b') :
    At d a b a' b' n (partialInsertionSort ltInt dk a' b').1 ∧ ((partialInsertionSort ltInt dk a' b').2 = true → Fin d a b (partialInsertionSort ltInt dk a' b').1) := by
  have := partialInsertionSort_holds swo_ltInt dk a' b' hlt (by have := h.bb; have := h.bn; have := h.size; omega) h.low
  exact ⟨h.perm this.1, fun hz => h.fin _ this.1 (this.2 hz)⟩
theorem At.eq {d d3 d4 : Array Int} {a b a' b' n q m : Nat} (h : At d a b a' b' n d3) (ha0 : 0 < a') (hq1 : a' ≤ q) (hq2 : q < b') (hnl : ltInt d3[a' - 1]! d3[q]! = false) (hp : EParted d3 d4 d3[q]! a' b' m) :
    At d a b m b' n d4 := by
  have hb3 : b' ≤ d3.size := by have := h.bb; have := h.bn; have := h.size; omega
  have hge : ∀ i, a' ≤ i → i < b' → ltInt d3[i]! d3[q]! = false := fun i hi hi' => by
    rcases h.low with h0 | hB
    · omega
    · exact swo_ltInt.ntrans _ _ _ (hB i hi hi') hnl
  have hge4 := permIn_all d3 d4 a' b' (fun x => ltInt x d3[q]! = false) hb3 hp.perm hge
  have hb4 : b' ≤ d4.size := by rw [hp.perm.1]; exact hb3
  have ham := hp.am
  have hmb := hp.mb
  refine ⟨by have := h.aa; omega, hmb, h.bb, h.bn, hp.perm.1.trans h.size, Or.inr fun i hi hi' => ?_, fun R hR hs => h.fin R (permIn_trans _ _ _ _ _ hp.perm (permIn_mono _ _ m b' a' b' (by omega) (Nat.le_refl _) hb4 hR)) ?_⟩
  · cases hc : ltInt d4[i]! d4[m - 1]! with
    | false => rfl
    | true =>
      have := swo_ltInt.trans _ _ _ (hp.hi i hi hi') hc
      rw [hp.lo (m - 1) (by omega) (by omega)] at this
      cases this
  · refine sorted_glue_eq swo_ltInt d3[q]! hs (fun i hi hi' => ?_) (fun i hi hi' => ?_) (permIn_all d4 R m b' (fun x => ltInt d3[q]! x = true) hb4 hR hp.hi)
    · rw [hR.2.1 i (Or.inl hi')]; exact hp.lo i hi hi'
    · rw [hR.2.1 i (Or.inl hi')]; exact hge4 i hi (by omega)
/-- Round the pivot: both sides are to be sorted, in either order. -/
structure Sides (d : Array Int) (a b a' b' n m : Nat) (d4 : Array Int) : Prop where
  am : a' ≤ m
  mb : m < b'
  size : d4.size = n
  lowL : Go.Sort.Below ltInt a' m d4
  lowR : Go.Sort.Below ltInt (m + 1) b' d4
  left : ∀ L, PermIn a' m d4 L → SortedIn ltInt a' m L → At d a b (m + 1) b' n L
  right : ∀ L, PermIn (m + 1) b' d4 L → SortedIn ltInt (m + 1) b' L → At d a b a' m n L
theorem At.part {d d3 d4 : Array Int} {a b a' b' n m : Nat} (h : At d a b a' b' n d3) (hp : Parted d3 d4 a' b' m) : Sides d a b a' b' n m d4 := by
  have hb3 : b' ≤ d3.size := by have := h.bb; have := h.bn; have := h.size; omega
  have hb4 : b' ≤ d4.size := by rw [hp.perm.1]; exact hb3
  have h1 := hp.am
  have h2 := hp.mb
  have hBa : Go.Sort.Below ltInt a' m d4 := (h.low.perm hb3 hp.perm).mono (by omega)
  have hBr : Go.Sort.Below ltInt (m + 1) b' d4 := Or.inr fun i hi hi' => by rw [Nat.add_sub_cancel]; exact hp.hi i (by omega) hi'
  refine ⟨h1, h2, hp.perm.1.trans h.size, hBa, hBr, fun L hL hsL => ?_, fun L hL hsL => ?_⟩
  · have hbL : b' ≤ L.size := by rw [hL.1]; exact hb4
    have eL : ∀ i, m ≤ i → L[i]! = d4[i]! := fun i hi => hL.2.1 i (Or.inr hi)
    refine ⟨by have := h.aa; omega, by omega, h.bb, h.bn, hL.1.trans (hp.perm.1.trans h.size), Or.inr fun i hi hi' => by rw [Nat.add_sub_cancel, eL i (by omega), eL m (Nat.le_refl _)]; exact hp.hi i (by omega) hi', fun R hR hsR => h.fin R ?_ ?_⟩
    · exact permIn_trans _ _ _ a' b' hp.perm (permIn_trans _ _ _ a' b' (permIn_mono _ _ a' m a' b' (Nat.le_refl _) (by omega) hb4 hL) (permIn_mono _ _ (m + 1) b' a' b' (by omega) (Nat.le_refl _) hbL hR))
    have eR : ∀ i, i ≤ m → R[i]! = L[i]! := fun i hi => hR.2.1 i (Or.inl (by omega))
    refine sorted_glue swo_ltInt (hsL.congr fun i _ hi' => eR i (by omega)) hsR (fun i hi hi' => ?_) (fun i hi hi' => ?_)
    · rw [eR i (by omega), eR m (Nat.le_refl _), eL m (Nat.le_refl _)]
      exact permIn_all d4 L a' m (fun x => ltInt x d4[m]! = true) (by omega) hL hp.lo i hi hi'
    · rw [eR m (Nat.le_refl _), eL m (Nat.le_refl _)]
      exact permIn_all L R (m + 1) b' (fun x => ltInt x d4[m]! = false) hbL hR (fun k hk hk' => by rw [eL k (by omega)]; exact hp.hi k (by omega) hk') i (by omega) hi'
  · have hbL : b' ≤ L.size := by rw [hL.1]; exact hb4
    have eL : ∀ i, i ≤ m → L[i]! = d4[i]! := fun i hi => hL.2.1 i (Or.inl (by omega))
    refine ⟨h.aa, h1, by have := h.bb; omega, h.bn, hL.1.trans (hp.perm.1.trans h.size), ?_, fun R hR hsR => h.fin R ?_ ?_⟩
    · rcases hBa with h0 | hBa
      · exact Or.inl h0
      · rcases Nat.eq_zero_or_pos a' with h0 | h0
        · exact Or.inl h0
        · exact Or.inr fun i hi hi' => by rw [eL i (by omega), eL (a' - 1) (by omega)]; exact hBa i hi hi'
    · exact permIn_trans _ _ _ a' b' hp.perm (permIn_trans _ _ _ a' b' (permIn_mono _ _ (m + 1) b' a' b' (by omega) (Nat.le_refl _) hb4 hL) (permIn_mono _ _ a' m a' b' (Nat.le_refl _) (by omega) hbL hR))
    have eR : ∀ i, m ≤ i → R[i]! = L[i]! := fun i hi => hR.2.1 i (Or.inr hi)
    refine sorted_glue swo_ltInt hsR (hsL.congr fun i hi _ => eR i (by omega)) (fun i hi hi' => ?_) (fun i hi hi' => ?_)
    · rw [eR m (Nat.le_refl _), eL m (Nat.le_refl _)]
      exact permIn_all L R a' m (fun x => ltInt x d4[m]! = true) (by omega) hR (fun k hk hk' => by rw [eL k (by omega)]; exact hp.lo k hk hk') i hi hi'
    · rw [eR i (by omega), eR m (Nat.le_refl _), eL m (Nat.le_refl _)]
      exact permIn_all d4 L (m + 1) b' (fun x => ltInt x d4[m]! = false) hb4 hL (fun k hk hk' => hp.hi k (by omega) hk') i (by omega) hi'
end Go.Proofs.Ytofebpikihandaa
