/- Package window: the room; the law's helpers. -/
import Derived.Test.YtjogpkkokblmoaaWi4
namespace Go.Proofs.Ytjogpkkokblmoaa
open Go.RowKit
set_option linter.unusedVariables false

def WS.room (s : WS) (f p : Int) : Int := if s.may = true ∧ 0 ≤ f ∧ 0 ≤ p then (if f = 0 then max (min s.cw p) s.mt else max (min (s.cw - f) p) 0) else 0
set_option maxHeartbeats 1000000 in
theorem Room_any (s : WS) (f p : Int) (hf : f ≤ 9223372036854775807) (w : World) :
    Calls Try.prog 14 #[.agg s.cells, .int .i64 f, .int .i64 p] w fun e w' => e = .returned (.int .i64 (s.room f p)) ∧ Below w.heap.size w w' := by
  have K0 := mayBe_any s
  have R := keep (WB.new 26 w s)
  have L := keep (below_lay w (.cells s.cells 26))
  unfold WS.room
  rcases hm : s.may with _ | _
  · rw [if_neg (by simp)]
    rw [hm] at K0
    clear hm hf
    obtain ⟨cw, th, pa, mt, re, ex⟩ := s
    dsimp only [WS.cells] at K0 R L ⊢
    replace K0 := keep K0
    go_enter Try.func14, Try.ntmps14
    go_wp2_with (first
      | (go_at_call 17; refine (K0.out _).mono ?_; rintro e w2 ⟨rfl, hb⟩
         have L2 := keep (up L.out hb)
         clear hb L))
    go_ret
    exact ⟨rfl, L2.out⟩
  · obtain ⟨m1, m2, m3, m4⟩ := may_iff.1 hm
    rw [hm] at K0
    obtain ⟨cw, th, pa, mt, re, ex⟩ := s
    dsimp only at m1 m2 m3 m4
    obtain ⟨r, hr⟩ : ∃ r, (if true = true ∧ 0 ≤ f ∧ 0 ≤ p then (if f = 0 then max (min cw p) mt else max (min (cw - f) p) 0) else 0) = r := ⟨_, rfl⟩
    dsimp only
    rw [hr]
    have e1 := fun h : 0 ≤ f => wrap_in (cw - f) (by omega)
    clear hm hf
    by_cases hf0 : f < 0
    · have hr0 : r = 0 := by rw [if_neg (by omega)] at hr; exact hr.symm
      dsimp only [WS.cells] at K0 R L ⊢
      replace K0 := keep K0
      replace hr0 := keep hr0
      clear hr e1
      go_enter Try.func14, Try.ntmps14
      go_wp2_with (first
        | (go_at_call 17; refine (K0.out _).mono ?_; rintro e w2 ⟨rfl, hb⟩
           have L2 := keep (up L.out hb)
           clear hb L))
      go_ret
      exact ⟨ret_int hr0.out.symm, L2.out⟩
    by_cases hp0 : p < 0
    · have hr0 : r = 0 := by rw [if_neg (by omega)] at hr; exact hr.symm
      dsimp only [WS.cells] at K0 R L ⊢
      replace K0 := keep K0
      replace hr0 := keep hr0
      clear hr e1
      go_enter Try.func14, Try.ntmps14
      go_wp2_with (first
        | (go_at_call 17; refine (K0.out _).mono ?_; rintro e w2 ⟨rfl, hb⟩
           have L2 := keep (up L.out hb)
           clear hb L))
      go_ret
      exact ⟨ret_int hr0.out.symm, L2.out⟩
    rw [if_pos (show true = true ∧ 0 ≤ f ∧ 0 ≤ p from ⟨rfl, by omega, by omega⟩)] at hr
    have e2 := e1 (by omega)
    obtain ⟨e2, e3⟩ := e2
    clear e1
    by_cases hz : f = 0
    · rw [if_pos hz] at hr
      replace hr := keep hr
      subst hz
      dsimp only [WS.cells] at K0 R L ⊢
      replace K0 := keep K0
      clear e2 e3
      go_enter Try.func14, Try.ntmps14
      go_wp2_with (first
        | (go_at_call 17; refine (K0.out _).mono ?_; rintro e w2 ⟨rfl, hb⟩
           have R2 := R.out.step hb
           obtain ⟨⟨d0, d1, d2, d3, d4, d5⟩, _⟩ := R2.all
           dsimp only at d0 d1 d2 d3 d4 d5
           have L2 := keep (up L.out hb)
           clear hb L R2 R))
      all_goals go_ret
      all_goals exact ⟨ret_int (by have := hr.out; omega), L2.out⟩
    · rw [if_neg hz] at hr
      replace hr := keep hr
      dsimp only [WS.cells] at K0 R L ⊢
      replace K0 := keep K0
      go_enter Try.func14, Try.ntmps14
      go_wp2_with (first
        | (go_at_call 17; refine (K0.out _).mono ?_; rintro e w2 ⟨rfl, hb⟩
           have R2 := R.out.step hb
           obtain ⟨⟨d0, d1, d2, d3, d4, d5⟩, _⟩ := R2.all
           dsimp only at d0 d1 d2 d3 d4 d5
           have L2 := keep (up L.out hb)
           clear hb L R2 R))
      all_goals go_ret
      all_goals exact ⟨ret_int (by have := hr.out; omega), L2.out⟩

theorem theirs_any (s : WS) (w : World) : Calls Try.prog 13 #[.agg s.cells] w (StPost w s) := by
  obtain ⟨cw, th, pa, mt, re, ex⟩ := s
  dsimp only [WS.cells]
  go_enter Try.func13, Try.ntmps13
  go_wp2_with fail
  have l1 := below_lay w (.cells (WS.cells ⟨cw, th, pa, mt, re, ex⟩) 26)
  have R3 := WB.new 34 (w.alloc (.cells (WS.cells ⟨cw, th, pa, mt, re, ex⟩) 26)) ⟨cw, th, pa, mt, re, ex⟩
  rw [show (w.alloc (.cells (WS.cells ⟨cw, th, pa, mt, re, ex⟩) 26)).heap.size = w.heap.size + 1 by simp] at R3
  exact bodyPost_ret (ret_rf rfl _ _ _ _ rfl R3) rfl ⟨rfl, l1.alloc l1.size _⟩
theorem alike_same (s : WS) (w : World) : Calls Try.prog 15 #[.agg s.cells, .agg s.cells] w fun e w' => e = .returned (.bool true) ∧ Below w.heap.size w w' := by
  obtain ⟨cw, th, pa, mt, re, ex⟩ := s
  have L := keep (below_lay w (.cells (WS.cells ⟨cw, th, pa, mt, re, ex⟩) 26))
  have L2 := keep (L.out.alloc L.out.size (.cells (WS.cells ⟨cw, th, pa, mt, re, ex⟩) 34))
  clear L
  dsimp only [WS.cells] at L2 ⊢
  go_enter Try.func15, Try.ntmps15
  go_wp2_with fail
  all_goals go_ret
  all_goals exact ⟨ret_bool (by simp), L2.out⟩
set_option maxHeartbeats 1000000 in
theorem May_any (s : WS) (w : World) : Calls Try.prog 12 #[.agg s.cells] w fun e w' => e = .returned (.bool s.may) ∧ Below w.heap.size w w' := by
  have L := keep (below_lay w (.cells s.cells 34))
  obtain ⟨b, hb⟩ : ∃ b, s.may = b := ⟨_, rfl⟩
  rw [hb]
  have hb2 : b = decide ((1 ≤ s.mt ∧ s.mt ≤ 65536) ∧ (s.mt ≤ s.cw ∧ s.cw ≤ 1073741824) ∧ (0 ≤ s.th ∧ s.th ≤ 1073741824) ∧ (0 ≤ s.pa ∧ s.pa ≤ 1073741824)) := by
    rw [← hb]
    have := @may_iff s
    cases h : s.may <;> simp_all
  replace hb2 := keep hb2
  clear hb
  obtain ⟨cw, th, pa, mt, re, ex⟩ := s
  dsimp only [WS.cells] at L hb2 ⊢
  go_enter Try.func12, Try.ntmps12
  go_wp2_with fail
  all_goals go_ret
  all_goals exact ⟨ret_bool (by rw [hb2.out]; first | (simp_all; done) | (simp_all; omega) | (symm; rw [decide_eq_false_iff_not]; omega)), L.out⟩
end Go.Proofs.Ytjogpkkokblmoaa
