/- The order of two timers: what is due earlier, of two at one time the one with the lesser id. -/
import Derived.WalkSpells
import Derived.KernelRfl
import Derived.Test.YthnhmgdefmahkaaProg
import Derived.Test.YthnhmgdefmahkaaMem
import Derived.Test.YthnhmgdefmahkaaTMath
import Derived.StillTailTactics
import Derived.Sort.Grow
namespace Go.Proofs.Ythnhmgdefmahkaa
open Go.RowKit Go.Sort
set_option linter.unusedVariables false

/-- Which of two numbers is less: -1, 0, 1. -/
def cmpI (x y : Int) : Int := if x < y then -1 else if y < x then 1 else 0

theorem isNaN_any (x : Int) (w : World) : Calls Try.prog 37 #[.int .i64 x] w fun e w' => e = .returned (.bool false) ∧ w = w' := by
  go_enter Try.func37, Try.ntmps37
  go_wp2
  go_ret
  exact ⟨rfl, rfl⟩

theorem Compare_any (x y : Int) (w : World) : Calls Try.prog 26 #[.int .i64 x, .int .i64 y] w fun e w' => e = .returned (.int .i64 (cmpI x y)) ∧ w' = w := by
  unfold cmpI
  by_cases h1 : x < y
  · rw [if_pos h1]
    go_enter Try.func26, Try.ntmps26
    go_wp2_with (go_at_call 37; refine (isNaN_any _ _).mono ?_; rintro e w' ⟨rfl, rfl⟩)
    go_ret
    exact ⟨rfl, rfl⟩
  · rw [if_neg h1]
    by_cases h2 : y < x
    · rw [if_pos h2]
      go_enter Try.func26, Try.ntmps26
      go_wp2_with (go_at_call 37; refine (isNaN_any _ _).mono ?_; rintro e w' ⟨rfl, rfl⟩)
      go_ret
      exact ⟨rfl, rfl⟩
    · rw [if_neg h2]
      go_enter Try.func26, Try.ntmps26
      go_wp2_with (go_at_call 37; refine (isNaN_any _ _).mono ?_; rintro e w' ⟨rfl, rfl⟩)
      go_ret
      exact ⟨rfl, rfl⟩

/-- The first of two numbers that is not 0. -/
def orI (a b : Int) : Int := if a = 0 then b else a

set_option maxHeartbeats 1000000 in
theorem Or_any (g c : Nat) (a b : Int) (w : World) (h0 : w.cell? ⟨g, 0, none⟩ = some (.int .i64 a)) (h1 : w.cell? ⟨g, 1, none⟩ = some (.int .i64 b)) :
    Calls Try.prog 25 #[.slice (some ⟨g, 0, none⟩) 2 c] w fun e w' => e = .returned (.int .i64 (orI a b)) ∧ w' = w := by
  unfold orI
  by_cases ha : a = 0
  · subst ha
    rw [if_pos rfl]
    by_cases hb : b = 0
    · subst hb
      go_enter Try.func25, Try.ntmps25
      go_wp2
      refine wp_loop_rounds 3 ?_
      iterate 3 (rw [rounds_succ]; go_wp2)
      go_ret
      exact ⟨rfl, rfl⟩
    · have hb' : (b == 0) = false := by simp [hb]
      have hb2 : (b != 0) = true := by simp [hb]
      go_enter Try.func25, Try.ntmps25
      go_wp2
      refine wp_loop_rounds 2 ?_
      iterate 2 (rw [rounds_succ]; go_wp2)
      go_ret
      exact ⟨rfl, rfl⟩
  · rw [if_neg ha]
    have ha' : (a == 0) = false := by simp [ha]
    have ha2 : (a != 0) = true := by simp [ha]
    go_enter Try.func25, Try.ntmps25
    go_wp2
    refine wp_loop_rounds 1 ?_
    rw [rounds_succ]; go_wp2
    go_ret
    exact ⟨rfl, rfl⟩

/-- Timer x against timer y. -/
def ordI (x y : Int × Int) : Int := orI (cmpI x.2 y.2) (cmpI x.1 y.1)
theorem ordI_lt (x y : Int × Int) : decide (ordI x y < 0) = bef x y := by
  unfold ordI orI cmpI bef
  by_cases h1 : x.2 < y.2
  · simp [h1]
  · by_cases h2 : y.2 < x.2
    · have h3 : ¬ x.2 = y.2 := by omega
      simp [h1, h2, h3]
    · have h3 : x.2 = y.2 := by omega
      by_cases h4 : x.1 < y.1
      · simp [h3, h4]
      · by_cases h5 : y.1 < x.1 <;> simp [h3, h4, h5]

theorem region_tail {P : Program} {id : Nat} {Q : Exit → Act → World → Prop} {a : Act} {w : World} {l : List Oper} (n : Nat) (hm : P.follows .mixedOrders = true) (hB : Region.lexTailB .any l.toArray n = true)
    (h : wpStill P l.toArray w.drew (fun a' => wpList P l.toArray Q (l.drop n) a' w.drew) (l.take n) a) : (Code.region id l.toArray true).wp P Q a w := wp_region_still_tail n hm hB h

set_option maxHeartbeats 1000000 in
theorem order_any (x y : Int × Int) (W : World) : Calls Try.prog 22 #[.agg #[.int .i64 x.1, .int .i64 x.2], .agg #[.int .i64 y.1, .int .i64 y.2]] W fun e w' => e = .returned (.int .i64 (ordI x y)) ∧ ∃ q os', w' = grow (W.drewN q) os' := by
  unfold ordI
  obtain ⟨xi, xa⟩ := x
  obtain ⟨yi, ya⟩ := y
  dsimp only
  have K1 := fun w => Compare_any xa ya w
  have K2 := fun w => Compare_any xi yi w
  have K3 := fun g c w h0 h1 => Or_any g c (cmpI xa ya) (cmpI xi yi) w h0 h1
  generalize orI (cmpI xa ya) (cmpI xi yi) = r at K3 ⊢
  generalize cmpI xa ya = c1 at K1 K3 ⊢
  generalize cmpI xi yi = c2 at K2 K3 ⊢
  go_enter Try.func22, Try.ntmps22
  go_wp2
  refine region_tail 10 (by kernel_rfl) (by kernel_rfl) ?_
  simp only [List.take_succ_cons, List.take_zero, List.drop_succ_cons, List.drop_zero]
  generalize hw : World.drew _ = w1
  have a0 : w1.cell? ⟨W.heap.size, 0, none⟩ = some (.int .i64 xi) := by rw [← hw]; simp
  have a1 : w1.cell? ⟨W.heap.size, 1, none⟩ = some (.int .i64 xa) := by rw [← hw]; simp
  have b0 : w1.cell? ⟨W.heap.size + 1, 0, none⟩ = some (.int .i64 yi) := by rw [← hw]; simp
  have b1 : w1.cell? ⟨W.heap.size + 1, 1, none⟩ = some (.int .i64 ya) := by rw [← hw]; simp
  have HW := keep hw
  clear hw
  iterate 4 still_step
  still_call (K1 _)
  iterate 4 still_step
  still_call (K2 _)
  refine wpStill_nil ?_
  clear a0 a1 b0 b1 K1 K2
  go_wp2_with (go_at_call 25; refine (K3 _ _ _ (by simp) (by simp)).mono ?_; rintro e w' ⟨rfl, rfl⟩)
  go_ret
  exact ⟨rfl, 1, _, by rw [← HW.out, alloc_eq_grow, alloc_eq_grow, alloc_eq_grow, grow_grow, drew_grow, grow_grow]; rfl⟩
end Go.Proofs.Ythnhmgdefmahkaa
