/- Package rto: Sample whole; the reference; awake. -/
import Derived.Test.YtkpbaoiaebdngaaRo4
namespace Go.Proofs.Ytkpbaoiaebdngaa
open Go.RowKit
set_option linter.unusedVariables false

theorem Sample_any (s : RS) (r : Int) (w : World) : Calls Try.prog 9 #[.agg s.cells, .int .i64 r] w (StPost w (s.samp r)) := by
  unfold RS.samp
  rcases h : okR s r with _ | _
  · exact Sample_no s r _ _ _ _ rfl rfl rfl rfl h w
  · exact Sample_ok s r h w

theorem clamp_any (n : Int) (w : World) : Calls Try.prog 18 #[.int .i64 n] w fun e w' => e = .returned (.int .i64 (clampI n)) ∧ w = w' := by
  go_enter Try.func18, Try.ntmps18
  go_wp2_with fail
  all_goals go_ret
  all_goals exact ⟨ret_int (by unfold clampI held; omega), rfl⟩
def bk (n : Int) : Int := if inB 2147483648 n = true then clampI (2 * n) else n
theorem refBack_any (n : Int) (w : World) : Calls Try.prog 12 #[.int .i64 n] w fun e w' => e = .returned (.int .i64 (bk n)) ∧ w = w' := by
  rcases h : inB 2147483648 n with _ | _
  · have h2 : ¬ (0 ≤ n ∧ n ≤ 2147483648) := fun x => by rw [inB_iff.2 x] at h; cases h
    have e : bk n = n := by unfold bk; rw [h]; rfl
    rw [e]
    clear e h
    go_enter Try.func12, Try.ntmps12
    go_wp2_with (go_at_call 18; refine (clamp_any _ _).mono ?_; rintro e w' ⟨rfl, rfl⟩)
    all_goals go_ret
    all_goals first | exact ⟨rfl, rfl⟩ | exact absurd ⟨by omega, by omega⟩ h2
  · have h2 := inB_iff.1 h
    have e : bk n = clampI (2 * n) := by unfold bk; rw [h]; rfl
    have e1 := (wrap_in (2 * n) (by omega)).1
    rw [e]
    have a1 : ¬ n < 0 := by omega
    have a2 : ¬ n > 2147483648 := by omega
    clear e h h2
    have K := keep (clamp_any (2 * n))
    generalize clampI (2 * n) = y at K ⊢
    go_enter Try.func12, Try.ntmps12
    go_wp2_with (go_at_call 18; refine (K.out _).mono ?_; rintro e w' ⟨rfl, rfl⟩)
    all_goals go_ret
    all_goals exact ⟨rfl, rfl⟩
/-- Four results. -/
theorem results_tmp4 {fn : Func} {t u x y : Tmp} (h : fn.results = #[.tmp t, .tmp u, .tmp x, .tmp y]) (tmps : Array Value) (P : Program) (w : World) :
    (results fn tmps).run P w = .ok (.tuple #[tmps.getD t undef, tmps.getD u undef, tmps.getD x undef, tmps.getD y undef]) w := by simp [results, h]
def four (s : RS) : Ending := .returned (.tuple #[.int .i64 s.sm, .int .i64 s.va, .int .i64 s.wa, .bool s.kn])
theorem four_eq {a b c d x y : Int} (h1 : a = x) (h2 : b = y) (h3 : c = d) : Ending.returned (.tuple #[.int .i64 a, .int .i64 b, .int .i64 c, .bool true]) = four ⟨x, y, d, true⟩ := by rw [h1, h2, h3]; rfl
theorem refSample_no (s : RS) (r : Int) (hok : okR s r = false) (w : World) :
    Calls Try.prog 10 #[.int .i64 s.sm, .int .i64 s.va, .int .i64 s.wa, .bool s.kn, .int .i64 r] w fun e w' => e = four s ∧ w = w' := by
  have hno : ¬ (0 ≤ r ∧ r ≤ 1073741824 ∧ 0 ≤ s.sm ∧ s.sm ≤ 2147483648 ∧ 0 ≤ s.va ∧ s.va ≤ 2147483648 ∧ 0 ≤ s.wa ∧ s.wa ≤ 2147483648) := fun ⟨a, b, c, d, e, f, g, h⟩ => by
    have : okR s r = true := by
      simp only [okR, Bool.and_eq_true, inB_iff]
      exact ⟨⟨⟨⟨a, b⟩, c, d⟩, e, f⟩, g, h⟩
    rw [this] at hok
    cases hok
  obtain ⟨sm, va, wa, kn⟩ := s
  dsimp only at hno ⊢
  clear hok
  -- the first of the eight that does not hold
  have cases8 : (r < 0) ∨ (¬ r < 0 ∧ 1073741824 < r) ∨ (¬ r < 0 ∧ ¬ 1073741824 < r ∧ sm < 0) ∨ (¬ r < 0 ∧ ¬ 1073741824 < r ∧ ¬ sm < 0 ∧ 2147483648 < sm) ∨ (¬ r < 0 ∧ ¬ 1073741824 < r ∧ ¬ sm < 0 ∧ ¬ 2147483648 < sm ∧ va < 0) ∨ (¬ r < 0 ∧ ¬ 1073741824 < r ∧ ¬ sm < 0 ∧ ¬ 2147483648 < sm ∧ ¬ va < 0 ∧ 2147483648 < va) ∨ (¬ r < 0 ∧ ¬ 1073741824 < r ∧ ¬ sm < 0 ∧ ¬ 2147483648 < sm ∧ ¬ va < 0 ∧ ¬ 2147483648 < va ∧ wa < 0) ∨ (¬ r < 0 ∧ ¬ 1073741824 < r ∧ ¬ sm < 0 ∧ ¬ 2147483648 < sm ∧ ¬ va < 0 ∧ ¬ 2147483648 < va ∧ ¬ wa < 0 ∧ 2147483648 < wa) := by omega
  clear hno
  rcases cases8 with h1 | ⟨h1, h2⟩ | ⟨h1, h2, h3⟩ | ⟨h1, h2, h3, h4⟩ | ⟨h1, h2, h3, h4, h5⟩ | ⟨h1, h2, h3, h4, h5, h6⟩ | ⟨h1, h2, h3, h4, h5, h6, h7⟩ | ⟨h1, h2, h3, h4, h5, h6, h7, h8⟩
  all_goals
    go_enter Try.func10, Try.ntmps10
    go_wp2_with fail
    refine bodyPost_ret (results_tmp4 rfl _ _ _) rfl ?_
    exact ⟨rfl, rfl⟩
set_option maxHeartbeats 1000000 in
theorem refSample_ok (s : RS) (r : Int) (hok : okR s r = true) (w : World) :
    Calls Try.prog 10 #[.int .i64 s.sm, .int .i64 s.va, .int .i64 s.wa, .bool s.kn, .int .i64 r] w fun e w' => e = four ⟨rsm s r, rva s r, clampI (rsm s r + morI (rva s r)), true⟩ ∧ w = w' := by
  have hf := Fit.of hok
  have h5 := hf.sm
  have h6 := hf.va
  clear hok
  obtain ⟨x, hx⟩ : ∃ x, rsm s r = x := ⟨_, rfl⟩
  obtain ⟨y, hy⟩ : ∃ y, rva s r = y := ⟨_, rfl⟩
  rw [hx] at h5 ⊢
  rw [hy] at h6 ⊢
  unfold rsm at hx
  unfold rva at hy
  obtain ⟨sm, va, wa, kn⟩ := s
  obtain ⟨r0, r1, s0, s1, v0, v1, w0, w1⟩ := hf
  dsimp only at r0 r1 s0 s1 v0 v1 w0 w1 hx hy ⊢
  have a1 : ¬ r < 0 := by omega
  have a2 : ¬ 1073741824 < r := by omega
  have a3 : ¬ sm < 0 := by omega
  have a4 : ¬ 2147483648 < sm := by omega
  have a5 : ¬ va < 0 := by omega
  have a6 : ¬ 2147483648 < va := by omega
  have a7 : ¬ wa < 0 := by omega
  have a8 : ¬ 2147483648 < wa := by omega
  have e1 := wrap_in (4 * y) (by omega)
  have e3 := wrap_in (x + 4 * y) (by omega)
  have e4 := wrap_in (x + 1) (by omega)
  obtain ⟨e1, e1'⟩ := e1
  obtain ⟨e3, e3'⟩ := e3
  obtain ⟨e4, e4'⟩ := e4
  have m1 : y = 0 → morI y = 1 := fun h => by unfold morI; omega
  have m2 : y ≠ 0 → morI y = 4 * y := fun h => by unfold morI; omega
  replace m1 := keep m1
  replace m2 := keep m2
  cases kn
  · have b1 : r.tdiv 2 = y := by rw [Int.tdiv_eq_ediv_of_nonneg r0, ← hy]; rfl
    have b2 : wrap64 y = y := (wrap_in y (by omega)).2
    obtain rfl : r = x := hx
    clear hy r0 r1 s0 s1 v0 v1 w0 w1 h5 h6
    go_enter Try.func10, Try.ntmps10
    go_wp2_with (go_at_call 18; refine (clamp_any _ _).mono ?_; rintro e w' ⟨rfl, rfl⟩)
    all_goals refine bodyPost_ret (results_tmp4 rfl _ _ _) rfl ⟨?_, rfl⟩
    · exact four_eq rfl rfl (by rw [m1.out (by simp_all)])
    · exact four_eq rfl rfl (by rw [m2.out (by simp_all)])
  · have n1 := wrap_in (7 * sm) (by omega)
    have n2 := wrap_in (7 * sm + r) (by omega)
    have n3 := wrap_in (3 * va) (by omega)
    have n4 := wrap_in (sm - r) (by omega)
    have n5 := wrap_in (r - sm) (by omega)
    obtain ⟨n1, _⟩ := n1
    obtain ⟨n2, _⟩ := n2
    obtain ⟨n3, _⟩ := n3
    obtain ⟨n4, _⟩ := n4
    obtain ⟨n5, n5'⟩ := n5
    have x1 : (7 * sm + r).tdiv 8 = x := by rw [Int.tdiv_eq_ediv_of_nonneg (by omega), ← hx]; rfl
    have x2 : wrap64 x = x := (wrap_in x (by omega)).2
    have y2 : wrap64 y = y := (wrap_in y (by omega)).2
    obtain ⟨d, hd⟩ : ∃ d, max (sm - r) (r - sm) = d := ⟨_, rfl⟩
    have hd0 : 0 ≤ d ∧ d ≤ 2147483648 := by omega
    have y1 : (3 * va + d).tdiv 4 = y := by rw [Int.tdiv_eq_ediv_of_nonneg (by omega), ← hy, hd]; rfl
    obtain ⟨n6, _⟩ := wrap_in (3 * va + d) (by omega)
    obtain ⟨n7, n7'⟩ := wrap_in d (by omega)
    by_cases hlt : sm - r < 0
    · have g1 : -(sm - r) = d := by omega
      clear hx hy r0 r1 s0 s1 v0 v1 w0 w1 h5 h6 hd hd0 n5 n5'
      go_enter Try.func10, Try.ntmps10
      go_wp2_with (go_at_call 18; refine (clamp_any _ _).mono ?_; rintro e w' ⟨rfl, rfl⟩)
      all_goals refine bodyPost_ret (results_tmp4 rfl _ _ _) rfl ⟨?_, rfl⟩
      · exact four_eq rfl rfl (by rw [m1.out (by simp_all)])
      · exact four_eq rfl rfl (by rw [m2.out (by simp_all)])
    · have g1 : sm - r = d := by omega
      clear hx hy r0 r1 s0 s1 v0 v1 w0 w1 h5 h6 hd hd0 n5 n5'
      go_enter Try.func10, Try.ntmps10
      go_wp2_with (go_at_call 18; refine (clamp_any _ _).mono ?_; rintro e w' ⟨rfl, rfl⟩)
      all_goals refine bodyPost_ret (results_tmp4 rfl _ _ _) rfl ⟨?_, rfl⟩
      · exact four_eq rfl rfl (by rw [m1.out (by simp_all)])
      · exact four_eq rfl rfl (by rw [m2.out (by simp_all)])
theorem refSample_any (s : RS) (r : Int) (w : World) :
    Calls Try.prog 10 #[.int .i64 s.sm, .int .i64 s.va, .int .i64 s.wa, .bool s.kn, .int .i64 r] w fun e w' => e = four (s.samp r) ∧ w = w' := by
  unfold RS.samp
  rcases h : okR s r with _ | _
  · exact refSample_no s r h w
  · exact refSample_ok s r h w
end Go.Proofs.Ytkpbaoiaebdngaa
