/- Package split: why a message is no chunks. -/
import Derived.Test.YtbfmklbffmodjaaPc7
namespace Go.Proofs.Ytbfmklbffmodjaa
open Go.RowKit
attribute [local go_sem] Oper.semAt_some
set_option linter.unusedVariables false

set_option maxRecDepth 100000 in
set_option maxHeartbeats 2000000 in
theorem Split_arg (x : MX) (tsn ssn most : Int) (w : World) (h : x.da.2.1 = 0 ∨ most < 1 ∨ 1172 < most) :
    Calls Try.prog 8 #[.agg x.cells.toArray, .int .u32 tsn, .int .u16 ssn, .int .i64 most] w fun e w' => e = .returned (.tuple #[.slice none 0 0, .int .i64 1]) ∧ Below w.heap.size w w' := by
  have HL := keep (below_lay w (.cells x.cells.toArray 26))
  obtain ⟨xs, xu, xp, ⟨x1, x2, x3⟩, xbs⟩ := x
  dsimp only [MX.cells] at h HL ⊢
  refine (callsIn_wide (n := 3)).1 ?_
  by_cases h0 : x2 = 0
  · subst h0
    clear h
    refine callsIn_of_wp_marks Try.func8 rfl trivial ?_ rfl
    simp only [Try.ntmps8, List.size_toArray, List.length_cons, List.length_nil, Nat.reduceAdd, Nat.reduceSub, Array.replicate_succ, Array.replicate_zero, List.push_toArray, List.append_toArray, List.nil_append, List.cons_append]
    gi_wp2
    exact ⟨_, results_tmp2 rfl _ _ _, rfl, HL.out⟩
  · have h0' : ((x2 : Int) == 0) = false := by simp; exact h0
    by_cases h1 : most < 1
    · clear h
      refine callsIn_of_wp_marks Try.func8 rfl trivial ?_ rfl
      simp only [Try.ntmps8, List.size_toArray, List.length_cons, List.length_nil, Nat.reduceAdd, Nat.reduceSub, Array.replicate_succ, Array.replicate_zero, List.push_toArray, List.append_toArray, List.nil_append, List.cons_append]
      gi_wp2
      exact ⟨_, results_tmp2 rfl _ _ _, rfl, HL.out⟩
    · have h2 : 1172 < most := by omega
      clear h
      refine callsIn_of_wp_marks Try.func8 rfl trivial ?_ rfl
      simp only [Try.ntmps8, List.size_toArray, List.length_cons, List.length_nil, Nat.reduceAdd, Nat.reduceSub, Array.replicate_succ, Array.replicate_zero, List.push_toArray, List.append_toArray, List.nil_append, List.cons_append]
      gi_wp2
      exact ⟨_, results_tmp2 rfl _ _ _, rfl, HL.out⟩
set_option maxRecDepth 100000 in
set_option maxHeartbeats 2000000 in
theorem Split_large (x : MX) (tsn ssn most : Int) (w : World) (h1 : ¬ most < 1) (h2 : ¬ 1172 < most) (h : 16384 < (x.da.2.1 : Int)) :
    Calls Try.prog 8 #[.agg x.cells.toArray, .int .u32 tsn, .int .u16 ssn, .int .i64 most] w fun e w' => e = .returned (.tuple #[.slice none 0 0, .int .i64 10]) ∧ Below w.heap.size w w' := by
  have HL := keep (below_lay w (.cells x.cells.toArray 26))
  obtain ⟨xs, xu, xp, ⟨x1, x2, x3⟩, xbs⟩ := x
  dsimp only [MX.cells] at h HL ⊢
  refine (callsIn_wide (n := 3)).1 ?_
  have h0 : ¬ x2 = 0 := by omega
  have h0' : ((x2 : Int) == 0) = false := by simp; exact h0
  refine callsIn_of_wp_marks Try.func8 rfl trivial ?_ rfl
  simp only [Try.ntmps8, List.size_toArray, List.length_cons, List.length_nil, Nat.reduceAdd, Nat.reduceSub, Array.replicate_succ, Array.replicate_zero, List.push_toArray, List.append_toArray, List.nil_append, List.cons_append]
  gi_wp2
  exact ⟨_, results_tmp2 rfl _ _ _, rfl, HL.out⟩
end Go.Proofs.Ytbfmklbffmodjaa
