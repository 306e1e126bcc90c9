/- The walk of the law SplitBack: what a store of a chunk leaves in a row; the easy cases. -/
import Derived.OpenShut
import Derived.Test.YtbfmklbffmodjaaLw4
namespace Go.Proofs.Ytbfmklbffmodjaa
open Go.RowKit
set_option linter.unusedVariables false

/-- Cells written one behind the other. -/
def putAll (g : Nat) : World → Nat → List Value → World
  | W, _, [] => W
  | W, o, v :: vs => putAll g (W.setCell ⟨g, o, none⟩ v) (o + 1) vs
theorem putAll_row {g : Nat} {t : TypeId} : ∀ (vs : List Value) (W : World) (o : Nat) (cur : Array Value), W.heap[g]? = some (.cells cur t (0, 0)) → o + vs.length ≤ cur.size →
    ∃ cur', (putAll g W o vs).heap[g]? = some (.cells cur' t (0, 0)) ∧ cur'.size = cur.size ∧ (∀ p, p < o → cur'[p]? = cur[p]?) ∧ (∀ i v, vs[i]? = some v → cur'[o + i]? = some v) ∧ (∀ p, o + vs.length ≤ p → cur'[p]? = cur[p]?)
  | [], W, o, cur, h, _ => ⟨cur, h, rfl, fun _ _ => rfl, fun i v hv => by simp at hv, fun _ _ => rfl⟩
  | v :: vs, W, o, cur, h, hs => by
    rw [List.length_cons] at hs
    have h1 := heap_setCell_same W g o _ _ v h
    obtain ⟨cur', a1, a2, a3, a4, a5⟩ := putAll_row vs (W.setCell ⟨g, o, none⟩ v) (o + 1) _ h1 (by rw [Array.size_setIfInBounds]; omega)
    rw [Array.size_setIfInBounds] at a2
    refine ⟨cur', a1, a2, fun p hp => ?_, fun i u hu => ?_, fun p hp => ?_⟩
    · rw [a3 p (by omega), Array.getElem?_setIfInBounds_ne (by omega)]
    · cases i with
      | zero =>
        simp at hu
        subst hu
        rw [Nat.add_zero, a3 o (by omega), Array.getElem?_setIfInBounds_self_of_lt (by omega)]
      | succ i =>
        have := a4 i u (by simpa using hu)
        rw [show o + (i + 1) = o + 1 + i by omega]
        exact this
    · rw [List.length_cons] at hp
      rw [a5 p (by omega), Array.getElem?_setIfInBounds_ne (by omega)]
theorem putAll_below {g B : Nat} (hB : B ≤ g) : ∀ (vs : List Value) (W0 W : World) (o : Nat), Below B W0 W → Below B W0 (putAll g W o vs)
  | [], _, _, _, h => h
  | v :: vs, W0, W, o, h => putAll_below hB vs W0 _ (o + 1) (h.setCell (p := ⟨g, o, none⟩) hB v)
/-- Block g holds the chunks l, one behind the other. -/
def XR (g : Nat) (l : List CX) (W : World) : Prop := ∃ cur : Array Value, W.heap[g]? = some (.cells cur 39 (0, 0)) ∧ l.length * 12 ≤ cur.size ∧ ∀ (p : Nat) (v : Value), (flatF CX.cells l)[p]? = some v → cur[p]? = some v
theorem XR.of_own {W : World} {base g n c : Nat} {l : List CX} (h : W.ownsRow base 39 12 (.slice (some ⟨g, 0, none⟩) n c) n (flatF CX.cells l)) : XR g l W ∧ base ≤ g ∧ n ≤ c := by
  have hlen := h.1
  rw [flatF_len CX.len] at hlen
  rcases h.2 with ⟨h0, _⟩ | ⟨g', cap, cur, hv, hb, hg, hnc, _, hs, ht⟩
  · cases h0
  · injection hv with a1 a2 a3
    injection a1 with a1
    injection a1 with a1
    subst a1 a3
    refine ⟨⟨cur, hg, ?_, fun p v hp => ?_⟩, hb, hnc⟩
    · have h2 := congrArg List.length ht
      rw [List.length_take, flatF_len CX.len, Array.length_toList] at h2
      omega
    · rw [← ht, List.getElem?_take] at hp
      split at hp
      · simpa using hp
      · cases hp
theorem XR.at_ {W : World} {g : Nat} {l : List CX} (h : XR g l W) {j : Nat} {y : CX} (hy : l[j]? = some y) : At12 W g (j * 12) y := by
  obtain ⟨cur, hg, _, hc⟩ := h
  have key : ∀ i v, i < 12 → y.cells[i]? = some v → W.cell? ⟨g, j * 12 + i, none⟩ = some v := fun i v hi hv => by
    rw [cell_of_row _ _ _ _ _ _ hg]
    exact hc _ _ ((flatF_get (f := CX.cells) CX.len l j y hy i hi).trans hv)
  exact ⟨key 0 _ (by decide) rfl, key 1 _ (by decide) rfl, key 2 _ (by decide) rfl, key 3 _ (by decide) rfl, key 4 _ (by decide) rfl, key 5 _ (by decide) rfl, key 6 _ (by decide) rfl, key 7 _ (by decide) rfl, key 8 _ (by decide) rfl, key 9 _ (by decide) rfl, key 10 _ (by decide) rfl, key 11 _ (by decide) rfl⟩
theorem XR.fz {W : World} {g : Nat} {l : List CX} (h : XR g l W) (o : Nat) : W.frozen? ⟨g, o, none⟩ = false ∧ W.frozen? ⟨g, o + 1, none⟩ = false ∧ W.frozen? ⟨g, o + 2, none⟩ = false ∧ W.frozen? ⟨g, o + 3, none⟩ = false ∧ W.frozen? ⟨g, o + 4, none⟩ = false ∧ W.frozen? ⟨g, o + 5, none⟩ = false ∧ W.frozen? ⟨g, o + 6, none⟩ = false ∧ W.frozen? ⟨g, o + 7, none⟩ = false ∧ W.frozen? ⟨g, o + 8, none⟩ = false ∧ W.frozen? ⟨g, o + 9, none⟩ = false ∧ W.frozen? ⟨g, o + 10, none⟩ = false ∧ W.frozen? ⟨g, o + 11, none⟩ = false := by
  obtain ⟨cur, hg, _⟩ := h
  exact ⟨frozen_of_row _ _ _ _ _ hg, frozen_of_row _ _ _ _ _ hg, frozen_of_row _ _ _ _ _ hg, frozen_of_row _ _ _ _ _ hg, frozen_of_row _ _ _ _ _ hg, frozen_of_row _ _ _ _ _ hg, frozen_of_row _ _ _ _ _ hg, frozen_of_row _ _ _ _ _ hg, frozen_of_row _ _ _ _ _ hg, frozen_of_row _ _ _ _ _ hg, frozen_of_row _ _ _ _ _ hg, frozen_of_row _ _ _ _ _ hg⟩
theorem XR.lt {W : World} {g : Nat} {l : List CX} (h : XR g l W) : g < W.heap.size := by
  obtain ⟨cur, hg, _⟩ := h
  exact (Array.getElem?_eq_some_iff.1 hg).1
theorem XR.set {W : World} {g : Nat} {l : List CX} (h : XR g l W) {j : Nat} (hj : j < l.length) (y : CX) : XR g (l.set j y) (putAll g W (j * 12) y.cells) := by
  obtain ⟨cur, hg, hs, hc⟩ := h
  have hb : j * 12 + 12 ≤ l.length * 12 := by omega
  obtain ⟨cur', a1, a2, a3, a4, a5⟩ := putAll_row y.cells W (j * 12) cur hg (by rw [CX.len]; omega)
  rw [CX.len] at a5
  refine ⟨cur', a1, by rw [List.length_set, a2]; exact hs, fun p v hp => ?_⟩
  have hpl : p < (flatF CX.cells (l.set j y)).length := by
    rcases Nat.lt_or_ge p (flatF CX.cells (l.set j y)).length with h0 | h0
    · exact h0
    · rw [List.getElem?_eq_none h0] at hp; cases hp
  rw [flatF_len CX.len, List.length_set] at hpl
  have hq : p / 12 < l.length := by omega
  have hr : p % 12 < 12 := Nat.mod_lt _ (by decide)
  have hpe : p / 12 * 12 + p % 12 = p := by omega
  by_cases hpj : p / 12 = j
  · have h1 := flatF_get (f := CX.cells) CX.len (l.set j y) (p / 12) y (by rw [hpj, List.getElem?_set_self hj]) (p % 12) hr
    rw [hpe, hp] at h1
    have := a4 (p % 12) v h1.symm
    rw [← hpj, hpe] at this
    exact this
  · have h1 := flatF_get (f := CX.cells) CX.len (l.set j y) (p / 12) l[p / 12] (by rw [List.getElem?_set_ne (fun e => hpj e.symm), List.getElem?_eq_getElem hq]) (p % 12) hr
    have h2 := flatF_get (f := CX.cells) CX.len l (p / 12) l[p / 12] (List.getElem?_eq_getElem hq) (p % 12) hr
    rw [hpe] at h1 h2
    have h3 := hc p v (h2.trans (h1.symm.trans hp))
    rcases Nat.lt_or_ge p (j * 12) with h0 | h0
    · rw [a3 p h0]; exact h3
    · rw [a5 p (by omega)]; exact h3
theorem XR.cs {W : World} {g c : Nat} {l : List CX} (h : XR g l W) (hc : l.length ≤ c) (hv : ∀ x ∈ l, CV W x) : CS W (some ⟨g, 0, none⟩) l.length c l := by
  have hlt := h.lt
  obtain ⟨cur, hg, _, hr⟩ := h
  refine ⟨rfl, hc, fun _ => ⟨g, 0, rfl, hlt, fun p v hp => ?_⟩, hv⟩
  rw [cell_of_row _ _ _ _ _ _ hg, Nat.zero_add]
  exact hr p v hp

/-! ### The easy cases -/
section
variable (x : MX) (tsn ssn most at_ : Int) (w : World)
set_option maxHeartbeats 1000000 in
theorem splitBack_let (h : 2000 < (x.da.2.1 : Int)) :
    Calls Try.prog 5 #[.agg x.cells.toArray, .int .u32 tsn, .int .u16 ssn, .int .i64 most, .int .i64 at_] w fun e w' => e = .returned (.bool true) ∧ Below w.heap.size w w' := by
  have R0 := keep (show MB (w.alloc (.cells x.cells.toArray 26)) w.heap.size x from heap_alloc_new w _)
  have L0 := keep (below_lay w (.cells x.cells.toArray 26))
  have K0 := keep (fun w => awake_any w)
  obtain ⟨xs, xu, xp, ⟨x1, x2, x3⟩, xbs⟩ := x
  dsimp only at h
  dsimp only [MX.cells] at R0 L0 ⊢
  go_enter Try.func5, Try.ntmps5
  go_wp2_with (go_at_call 7; refine (K0.out _).mono ?_; rintro e w1 ⟨rfl, hb1⟩
               have R1 := R0.out.step hb1
               obtain ⟨⟨m0, m1, m2, m3⟩, _⟩ := R1.all
               dsimp only at m0 m1 m2 m3
               have L1 := keep (up L0.out hb1)
               clear hb1 R1)
  go_ret
  exact ⟨rfl, L1.out⟩
set_option maxHeartbeats 1000000 in
theorem splitBack_arg (h : (x.da.2.1 : Int) ≤ 2000) (ha : x.da.2.1 = 0 ∨ most < 1 ∨ 1172 < most) :
    Calls Try.prog 5 #[.agg x.cells.toArray, .int .u32 tsn, .int .u16 ssn, .int .i64 most, .int .i64 at_] w fun e w' => e = .returned (.bool true) ∧ Below w.heap.size w w' := by
  have R0 := keep (show MB (w.alloc (.cells x.cells.toArray 26)) w.heap.size x from heap_alloc_new w _)
  have L0 := keep (below_lay w (.cells x.cells.toArray 26))
  have K0 := keep (fun w => awake_any w)
  have KS := fun w' => Split_arg x tsn ssn most w' ha
  clear ha
  obtain ⟨xs, xu, xp, ⟨x1, x2, x3⟩, xbs⟩ := x
  dsimp only at h
  dsimp only [MX.cells] at R0 L0 KS ⊢
  replace KS := keep KS
  have q : ¬ 2000 < (x2 : Int) := by omega
  clear h
  go_enter Try.func5, Try.ntmps5
  go_wp2_with (first
    | (go_at_call 7; refine (K0.out _).mono ?_; rintro e w1 ⟨rfl, hb1⟩
       have R1 := R0.out.step hb1
       obtain ⟨⟨m0, m1, m2, m3⟩, _⟩ := R1.all
       dsimp only at m0 m1 m2 m3
       have L1 := keep (up L0.out hb1)
       clear hb1 R1)
    | (go_at_call 8; refine (KS.out _).mono ?_; rintro e w2 ⟨rfl, hb2⟩
       have L2 := keep (up L1.out hb2)
       clear hb2 m0 m1 m2 m3))
  go_ret
  exact ⟨rfl, L2.out⟩
end
end Go.Proofs.Ytbfmklbffmodjaa
