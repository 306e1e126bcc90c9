/- The walk of the law TimerMoves. -/
import Derived.OpenShut
import Derived.Test.YthnhmgdefmahkaaTG
namespace Go.Proofs.Ythnhmgdefmahkaa
open Go.RowKit
set_option linter.unusedVariables false

theorem startL_nil (id t : Int) : startL [] id t = [(id, t)] := rfl
theorem startL_again (id a b : Int) : startL [(id, a)] id b = [(id, b)] := by simp [startL, stopL, insL]
theorem stop_start (l : List (Int × Int)) (id t : Int) : stopL (startL l id t) id = stopL l id := by
  have h : ∀ p ∈ stopL l id, p.1 ≠ id := fun p hp => (mem_stopL.1 hp).2
  have e := List.takeWhile_append_dropWhile (p := fun q => bef q (id, t)) (l := stopL l id)
  have e2 := stopL_none h
  unfold startL insL
  generalize stopL l id = q at *
  conv at e2 => lhs; rw [← e]
  unfold stopL at *
  rw [List.filter_append] at e2 ⊢
  rw [List.filter_cons, if_neg (by simp)]
  exact e2
theorem stop_one (id b other : Int) : stopL [(id, b)] other = if id = other then [] else [(id, b)] := by
  unfold stopL
  by_cases h : id = other <;> simp [h]
theorem due_all {l : List (Int × Int)} {now : Int} (h : ∀ p ∈ l, p.2 ≤ now) : dueL l now = l ∧ restL l now = [] := by
  have e : dueL l now = l := by
    unfold dueL
    induction l with
    | nil => rfl
    | cons x r ih => rw [List.takeWhile_cons, if_pos (by simpa using h x (by simp)), ih fun p hp => h p (by simp [hp])]
  have := due_rest l now
  rw [e] at this
  exact ⟨e, List.append_right_eq_self.1 this⟩

set_option maxHeartbeats 4000000 in
set_option maxRecDepth 100000 in
theorem timerMoves_walk (id a b other : Int) (w : World) (hid : (Lit.int .i64 id).wf = true) (ha : (Lit.int .i64 a).wf = true) (hb : (Lit.int .i64 b).wf = true) (ho : (Lit.int .i64 other).wf = true) :
    Calls Try.prog 6 #[.int .i64 id, .int .i64 a, .int .i64 b, .int .i64 other] w fun e w' => e = .returned (.bool true) ∧ Below w.heap.size w w' := by
  have HI := keep hid
  have HA := keep ha
  have HB := keep hb
  have HO := keep ho
  have hbm : b ≤ 9223372036854775807 := (bounds_i64 hb).2
  have hdue : dueL (stopL [(id, b)] other) 9223372036854775807 = stopL [(id, b)] other ∧ restL (stopL [(id, b)] other) 9223372036854775807 = [] := due_all fun p hp => by
    have := (mem_stopL.1 hp).1
    rw [List.mem_singleton] at this
    rw [this]
    exact hbm
  have HD := keep hdue
  clear hid ha hb ho hbm hdue
  go_enter Try.func6, Try.ntmps6
  go_wp2_with fail
  refine (awake_any _).mono ?_
  rintro e w0 ⟨rfl, hb0⟩
  have HB0 := keep hb0
  have HS0 := keep (SetAt.fresh w0)
  have HO0 := keep (show OwnB w.heap.size w0.heap.size none from ⟨hb0.size, fun k hk => by cases hk⟩)
  clear hb0
  go_wp2_with fail
  refine (Start_set _ _ _ _ _ _ HS0.out HI.out HA.out (by decide)).mono ?_
  rintro e w1 ⟨rfl, hst⟩
  obtain ⟨m1, hs1, ho1, hb1, hz1⟩ := hst.go HO0.out (HB0.out.alloc HB0.out.size _) (by have := HB0.out.size; simp; omega)
  rw [startL_nil] at hs1
  replace hs1 := keep hs1
  replace ho1 := keep ho1
  replace hb1 := keep hb1
  clear hst HS0 HO0 HB0
  go_wp2_with fail
  refine (Start_set _ _ _ _ _ _ hs1.out HI.out HB.out (by simp)).mono ?_
  rintro e w2 ⟨rfl, hst⟩
  obtain ⟨m2, hs2, ho2, hb2, hz2⟩ := hst.go ho1.out hb1.out hz1
  rw [startL_again] at hs2
  replace hs2 := keep hs2
  replace ho2 := keep ho2
  replace hb2 := keep hb2
  clear hst hs1 ho1 hb1 hz1
  go_wp2_with fail
  refine (Len_set _ _ _ _ hs2.out).mono ?_
  rintro e w3 ⟨rfl, rfl⟩
  rw [List.length_singleton]
  go_wp2_with fail
  refine (At_set _ _ _ _ _ hs2.out HI.out).mono ?_
  rintro e w3 ⟨rfl, rfl⟩
  rw [show atL [(id, b)] id = b by simp [atL], show hasL [(id, b)] id = true by simp [hasL]]
  go_wp2_with fail
  refine (Start_set _ _ _ _ _ _ hs2.out HO.out HA.out (by simp)).mono ?_
  rintro e w3 ⟨rfl, hst⟩
  obtain ⟨m3, hs3, ho3, hb3, hz3⟩ := hst.go ho2.out hb2.out hz2
  replace hs3 := keep hs3
  replace ho3 := keep ho3
  replace hb3 := keep hb3
  clear hst hs2 ho2 hb2 hz2
  go_wp2_with fail
  refine (Stop_set _ _ _ _ _ hs3.out HO.out).mono ?_
  rintro e w4 ⟨rfl, hs4, hp4⟩
  rw [stop_start] at hs4
  have hb4 := keep (ho3.out.below hb3.out hz3 hp4)
  have hz4 : w.heap.size ≤ w4.heap.size := by have := hp4.size; omega
  replace hs4 := keep hs4
  clear hp4 hs3 hb3 hz3
  go_wp2_with fail
  refine (Due_set _ _ _ _ _ hs4.out (Nat.le_trans (stopL_len _ _) (by simp))).mono ?_
  rintro e w5 ⟨A5, c5, rfl, ho5, hs5, hp5⟩
  rw [HD.out.1] at ho5 ⊢
  rw [HD.out.2] at hs5
  have hb5 := keep (ho3.out.below hb4.out hz4 hp5)
  have hI := IS.of_own ho5.out
  replace hs5 := keep hs5
  clear hp5 hs4 hb4 ho5 hz4 HD
  rw [stop_one] at hI ⊢
  by_cases hio : id = other
  · subst hio
    rw [if_pos rfl, List.length_nil]
    clear hI
    go_wp2_with fail
    refine (Len_set _ _ _ _ hs5.out).mono ?_
    rintro e w6 ⟨rfl, rfl⟩
    rw [List.length_nil]
    go_wp2
    go_ret
    exact ⟨rfl, hb5.out⟩
  · rw [if_neg hio] at hI ⊢
    rw [List.length_singleton] at hI ⊢
    obtain ⟨gb, o, z, rfl, hgb, hc, hz⟩ := hI.at_ (j := 0) (by omega)
    obtain rfl : id = z := by simpa [idsL] using hz
    rw [Nat.add_zero] at hc
    have h1 : (other == id) = false := by simp; exact fun e => hio e.symm
    have h2 : (other != id) = true := by simp; exact fun e => hio e.symm
    clear hI hz hio
    go_wp2_with fail
    refine (Len_set _ _ _ _ hs5.out).mono ?_
    rintro e w6 ⟨rfl, rfl⟩
    rw [List.length_nil]
    go_wp2
    go_ret
    exact ⟨rfl, hb5.out⟩
end Go.Proofs.Ythnhmgdefmahkaa
