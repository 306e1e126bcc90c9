/- Package window: what has come. -/
import Derived.Test.YtjogpkkokblmoaaWi3
namespace Go.Proofs.Ytjogpkkokblmoaa
open Go.RowKit
set_option linter.unusedVariables false

def WS.acked (s : WS) (n : Int) (full : Bool) (cum : Int) : WS :=
  if (s.may && inI 0 n 1073741824) = false then s
  else if s.re = true then { s with re := decide (s.ex ≠ cum) && !less32 s.ex cum }
  else if n = 0 ∨ full = false then s
  else if s.cw ≤ s.th then { s with cw := growI s.cw (min n s.mt) }
  else s.count n
theorem Two.six {w W : World} {s u : WS} (h : Two w s u W) (v : WS) : Two w v u (lay6 W w.heap.size v) := ⟨laid6 h.r v, else6 h.t (by omega) v, below6 h.below (Nat.le_refl _) v⟩
set_option maxHeartbeats 1000000 in
theorem acked_not (s : WS) (n : Int) (full : Bool) (cum : Int) (hm : s.may = false) (w : World) :
    Calls Try.prog 9 #[.agg s.cells, .int .i64 n, .bool full, .int .u32 cum] w (StPost w s) := by
  have K0 := mayBe_any s
  have K1 := fun w => within_any 0 n 1073741824 w
  rw [hm] at K0
  clear hm
  obtain ⟨cw, th, pa, mt, re, ex⟩ := s
  have T := keep (Two.new ⟨cw, th, pa, mt, re, ex⟩ w)
  dsimp only [WS.cells] at K0 ⊢
  replace K0 := keep K0
  replace K1 := keep K1
  go_enter Try.func9, Try.ntmps9
  go_wp2_with (first
    | (go_at_call 17; refine (K0.out _).mono ?_; rintro e w2 ⟨rfl, hb⟩
       have T2 := T.out.step hb
       obtain ⟨⟨d0, d1, d2, d3, d4, d5⟩, f0, f1, f2, f3, f4, f5⟩ := T2.r.all
       obtain ⟨⟨x0, x1, x2, x3, x4, x5⟩, y0, y1, y2, y3, y4, y5⟩ := T2.t.all
       dsimp only [WS.zero] at d0 d1 d2 d3 d4 d5 x0 x1 x2 x3 x4 x5
       replace T2 := keep T2
       clear hb T)
    | (go_at_call 16; refine (K1.out _).mono ?_; rintro e w3 ⟨rfl, rfl⟩))
  exact T2.out.ret rfl rfl rfl
set_option maxHeartbeats 1000000 in
theorem acked_out (s : WS) (n : Int) (full : Bool) (cum : Int) (hm : s.may = true) (hn : inI 0 n 1073741824 = false) (w : World) :
    Calls Try.prog 9 #[.agg s.cells, .int .i64 n, .bool full, .int .u32 cum] w (StPost w s) := by
  have K0 := mayBe_any s
  have K1 := fun w => within_any 0 n 1073741824 w
  rw [hm] at K0
  rw [hn] at K1
  clear hm hn
  obtain ⟨cw, th, pa, mt, re, ex⟩ := s
  have T := keep (Two.new ⟨cw, th, pa, mt, re, ex⟩ w)
  dsimp only [WS.cells] at K0 ⊢
  replace K0 := keep K0
  replace K1 := keep K1
  go_enter Try.func9, Try.ntmps9
  go_wp2_with (first
    | (go_at_call 17; refine (K0.out _).mono ?_; rintro e w2 ⟨rfl, hb⟩
       have T2 := T.out.step hb
       obtain ⟨⟨d0, d1, d2, d3, d4, d5⟩, f0, f1, f2, f3, f4, f5⟩ := T2.r.all
       obtain ⟨⟨x0, x1, x2, x3, x4, x5⟩, y0, y1, y2, y3, y4, y5⟩ := T2.t.all
       dsimp only [WS.zero] at d0 d1 d2 d3 d4 d5 x0 x1 x2 x3 x4 x5
       replace T2 := keep T2
       clear hb T)
    | (go_at_call 16; refine (K1.out _).mono ?_; rintro e w3 ⟨rfl, rfl⟩))
  exact T2.out.ret rfl rfl rfl
set_option maxHeartbeats 1000000 in
theorem acked_rec1 (s : WS) (n : Int) (full : Bool) (cum : Int) (hm : s.may = true) (hn : inI 0 n 1073741824 = true) (hr : s.re = true) (hx : s.ex = cum) (w : World) :
    Calls Try.prog 9 #[.agg s.cells, .int .i64 n, .bool full, .int .u32 cum] w (StPost w { s with re := false }) := by
  have K0 := mayBe_any s
  have K1 := fun w => within_any 0 n 1073741824 w
  rw [hm] at K0
  rw [hn] at K1
  clear hm hn
  obtain ⟨cw, th, pa, mt, re, ex⟩ := s
  have T := keep (Two.new ⟨cw, th, pa, mt, re, ex⟩ w)
  dsimp only at hr hx
  subst hr
  subst hx
  dsimp only [WS.cells] at K0 ⊢
  replace K0 := keep K0
  replace K1 := keep K1
  go_enter Try.func9, Try.ntmps9
  go_wp2_with (first
    | (go_at_call 17; refine (K0.out _).mono ?_; rintro e w2 ⟨rfl, hb⟩
       have T2 := T.out.step hb
       obtain ⟨⟨d0, d1, d2, d3, d4, d5⟩, f0, f1, f2, f3, f4, f5⟩ := T2.r.all
       obtain ⟨⟨x0, x1, x2, x3, x4, x5⟩, y0, y1, y2, y3, y4, y5⟩ := T2.t.all
       dsimp only [WS.zero] at d0 d1 d2 d3 d4 d5 x0 x1 x2 x3 x4 x5
       replace T2 := keep T2
       clear hb T)
    | (go_at_call 16; refine (K1.out _).mono ?_; rintro e w3 ⟨rfl, rfl⟩))
  exact (T2.out.re false).ret' rfl rfl rfl ⟨cw, th, pa, mt, false, ex⟩
set_option maxHeartbeats 1000000 in
theorem acked_rec2 (s : WS) (n : Int) (full : Bool) (cum : Int) (hm : s.may = true) (hn : inI 0 n 1073741824 = true) (hr : s.re = true) (hx : ¬ s.ex = cum) (w : World) :
    Calls Try.prog 9 #[.agg s.cells, .int .i64 n, .bool full, .int .u32 cum] w (StPost w { s with re := !less32 s.ex cum }) := by
  have K0 := mayBe_any s
  have K1 := fun w => within_any 0 n 1073741824 w
  rw [hm] at K0
  rw [hn] at K1
  clear hm hn
  obtain ⟨cw, th, pa, mt, re, ex⟩ := s
  have T := keep (Two.new ⟨cw, th, pa, mt, re, ex⟩ w)
  dsimp only at hr hx
  subst hr
  have hx2 : (ex != cum) = true := by simp [hx]
  have K2 := fun w => Less_any ex cum w
  dsimp only [WS.cells] at K0 ⊢
  obtain ⟨b, hb⟩ : ∃ b, less32 ex cum = b := ⟨_, rfl⟩
  rw [hb] at K2 ⊢
  replace K2 := keep K2
  clear hb
  replace K0 := keep K0
  replace K1 := keep K1
  go_enter Try.func9, Try.ntmps9
  go_wp2_with (first
    | (go_at_call 17; refine (K0.out _).mono ?_; rintro e w2 ⟨rfl, hb⟩
       have T2 := T.out.step hb
       obtain ⟨⟨d0, d1, d2, d3, d4, d5⟩, f0, f1, f2, f3, f4, f5⟩ := T2.r.all
       obtain ⟨⟨x0, x1, x2, x3, x4, x5⟩, y0, y1, y2, y3, y4, y5⟩ := T2.t.all
       dsimp only [WS.zero] at d0 d1 d2 d3 d4 d5 x0 x1 x2 x3 x4 x5
       replace T2 := keep T2
       clear hb T)
    | (go_at_call 16; refine (K1.out _).mono ?_; rintro e w3 ⟨rfl, rfl⟩)
    | (go_at_call 18; refine (K2.out _).mono ?_; rintro e w4 ⟨rfl, rfl⟩))
  exact (T2.out.re (!b)).ret' rfl rfl rfl ⟨cw, th, pa, mt, !b, ex⟩
set_option maxHeartbeats 1000000 in
theorem acked_none (s : WS) (n : Int) (full : Bool) (cum : Int) (hm : s.may = true) (hn : inI 0 n 1073741824 = true) (hr : s.re = false) (h0 : n = 0 ∨ (n ≠ 0 ∧ full = false)) (w : World) :
    Calls Try.prog 9 #[.agg s.cells, .int .i64 n, .bool full, .int .u32 cum] w (StPost w s) := by
  have K0 := mayBe_any s
  have K1 := fun w => within_any 0 n 1073741824 w
  rw [hm] at K0
  rw [hn] at K1
  clear hm hn
  obtain ⟨cw, th, pa, mt, re, ex⟩ := s
  have T := keep (Two.new ⟨cw, th, pa, mt, re, ex⟩ w)
  dsimp only at hr
  subst hr
  dsimp only [WS.cells] at K0 ⊢
  rcases h0 with rfl | ⟨h0, rfl⟩
  all_goals
  all_goals
    replace K0 := keep K0
    replace K1 := keep K1
    go_enter Try.func9, Try.ntmps9
    go_wp2_with (first
      | (go_at_call 17; refine (K0.out _).mono ?_; rintro e w2 ⟨rfl, hb⟩
         have T2 := T.out.step hb
         obtain ⟨⟨d0, d1, d2, d3, d4, d5⟩, f0, f1, f2, f3, f4, f5⟩ := T2.r.all
         obtain ⟨⟨x0, x1, x2, x3, x4, x5⟩, y0, y1, y2, y3, y4, y5⟩ := T2.t.all
         dsimp only [WS.zero] at d0 d1 d2 d3 d4 d5 x0 x1 x2 x3 x4 x5
         replace T2 := keep T2
         clear hb T)
      | (go_at_call 16; refine (K1.out _).mono ?_; rintro e w3 ⟨rfl, rfl⟩))
    exact T2.out.ret rfl rfl rfl
set_option maxHeartbeats 1000000 in
theorem acked_slow (s : WS) (n : Int) (full : Bool) (cum : Int) (hm : s.may = true) (hn : inI 0 n 1073741824 = true) (hr : s.re = false) (h0 : n ≠ 0) (hf : full = true) (hc : s.cw ≤ s.th) (w : World) :
    Calls Try.prog 9 #[.agg s.cells, .int .i64 n, .bool full, .int .u32 cum] w (StPost w { s with cw := growI s.cw (min n s.mt) }) := by
  have K0 := mayBe_any s
  have K1 := fun w => within_any 0 n 1073741824 w
  rw [hm] at K0
  rw [hn] at K1
  subst hf
  obtain ⟨m1, m2, m3, m4⟩ := may_iff.1 hm
  have n1 := inI_iff.1 hn
  clear hm hn
  obtain ⟨cw, th, pa, mt, re, ex⟩ := s
  have T := keep (Two.new ⟨cw, th, pa, mt, re, ex⟩ w)
  dsimp only at hr m1 m2 m3 m4 hc
  subst hr
  obtain ⟨z, hz⟩ : ∃ z, growI cw (min n mt) = z := ⟨_, rfl⟩
  have K2 : ∀ u, u = min n mt → ∀ w : World, Calls Try.prog 19 #[.int .i64 cw, .int .i64 u] w fun e w' => e = .returned (.int .i64 z) ∧ w = w' := fun u hu w => by
    have := grown_any cw u (by omega) (by omega) (by omega) (by omega) w
    rw [hu, hz] at this
    rw [hu]
    exact this
  replace K2 := keep K2
  dsimp only [WS.cells] at K0 ⊢
  rw [hz]
  clear hz m1 m2 m3 m4 n1
  replace K0 := keep K0
  replace K1 := keep K1
  go_enter Try.func9, Try.ntmps9
  go_wp2_with (first
    | (go_at_call 17; refine (K0.out _).mono ?_; rintro e w2 ⟨rfl, hb⟩
       have T2 := T.out.step hb
       obtain ⟨⟨d0, d1, d2, d3, d4, d5⟩, f0, f1, f2, f3, f4, f5⟩ := T2.r.all
       obtain ⟨⟨x0, x1, x2, x3, x4, x5⟩, y0, y1, y2, y3, y4, y5⟩ := T2.t.all
       dsimp only [WS.zero] at d0 d1 d2 d3 d4 d5 x0 x1 x2 x3 x4 x5
       replace T2 := keep T2
       clear hb T)
    | (go_at_call 16; refine (K1.out _).mono ?_; rintro e w3 ⟨rfl, rfl⟩)
    | (go_at_call 19; refine (K2.out _ (by omega) _).mono ?_; rintro e w4 ⟨rfl, rfl⟩))
  all_goals exact (T2.out.cw z).ret' rfl rfl rfl ⟨z, th, pa, mt, false, ex⟩
set_option maxHeartbeats 1000000 in
theorem acked_count (s : WS) (n : Int) (full : Bool) (cum : Int) (hm : s.may = true) (hn : inI 0 n 1073741824 = true) (hr : s.re = false) (h0 : n ≠ 0) (hf : full = true) (hc : ¬ s.cw ≤ s.th) (w : World) :
    Calls Try.prog 9 #[.agg s.cells, .int .i64 n, .bool full, .int .u32 cum] w (StPost w (s.count n)) := by
  have K0 := mayBe_any s
  have K1 := fun w => within_any 0 n 1073741824 w
  have n1 := inI_iff.1 hn
  have K2 := fun w => counted_any s n hm n1.1 n1.2 w
  rw [hm] at K0
  rw [hn] at K1
  subst hf
  clear hm hn n1
  obtain ⟨v, hv⟩ : ∃ v, s.count n = v := ⟨_, rfl⟩
  rw [hv] at K2 ⊢
  clear hv
  obtain ⟨cw', th', pa', mt', re', ex'⟩ := v
  obtain ⟨cw, th, pa, mt, re, ex⟩ := s
  have T := keep (Two.new ⟨cw, th, pa, mt, re, ex⟩ w)
  dsimp only at hr hc
  subst hr
  dsimp only [WS.cells] at K0 K2 ⊢
  replace K2 := keep K2
  replace K0 := keep K0
  replace K1 := keep K1
  go_enter Try.func9, Try.ntmps9
  go_wp2_with (first
    | (go_at_call 17; refine (K0.out _).mono ?_; rintro e w2 ⟨rfl, hb⟩
       have T2 := T.out.step hb
       obtain ⟨⟨d0, d1, d2, d3, d4, d5⟩, f0, f1, f2, f3, f4, f5⟩ := T2.r.all
       obtain ⟨⟨x0, x1, x2, x3, x4, x5⟩, y0, y1, y2, y3, y4, y5⟩ := T2.t.all
       dsimp only [WS.zero] at d0 d1 d2 d3 d4 d5 x0 x1 x2 x3 x4 x5
       replace T2 := keep T2
       clear hb T)
    | (go_at_call 16; refine (K1.out _).mono ?_; rintro e w3 ⟨rfl, rfl⟩)
    | (go_at_call 20; refine (K2.out _).mono ?_; rintro e w4 ⟨he, hb4⟩
       dsimp only [WS.cells] at he
       subst he
       have T4 := T2.out.step hb4
       have T5 := T4.six ⟨cw', th', pa', mt', re', ex'⟩
       obtain ⟨⟨d0, d1, d2, d3, d4, d5⟩, f0, f1, f2, f3, f4, f5⟩ := T4.r.all
       obtain ⟨⟨g0, g1, g2, g3, g4, g5⟩, _⟩ := T5.r.all
       obtain ⟨⟨x0, x1, x2, x3, x4, x5⟩, y0, y1, y2, y3, y4, y5⟩ := T5.t.all
       dsimp only [WS.zero] at d0 d1 d2 d3 d4 d5 g0 g1 g2 g3 g4 g5 x0 x1 x2 x3 x4 x5
       replace T5 := keep T5
       clear hb4 T2 T4))
  exact T5.out.ret' rfl rfl rfl ⟨cw', th', pa', mt', re', ex'⟩
theorem Acked_any (s : WS) (n : Int) (full : Bool) (cum : Int) (w : World) :
    Calls Try.prog 9 #[.agg s.cells, .int .i64 n, .bool full, .int .u32 cum] w (StPost w (s.acked n full cum)) := by
  unfold WS.acked
  rcases hm : s.may with _ | _
  · rw [if_pos (by rfl)]
    exact acked_not s n full cum hm w
  rcases hn : inI 0 n 1073741824 with _ | _
  · rw [if_pos (by rfl)]
    exact acked_out s n full cum hm hn w
  rw [if_neg (by decide)]
  rcases hr : s.re with _ | _
  · rw [if_neg (by decide)]
    by_cases h0 : n = 0
    · rw [if_pos (.inl h0)]
      exact acked_none s n full cum hm hn hr (.inl h0) w
    rcases hf : full with _ | _
    · rw [if_pos (.inr rfl)]
      exact acked_none s n false cum hm hn hr (.inr ⟨h0, rfl⟩) w
    rw [if_neg (by simp [h0])]
    by_cases hc : s.cw ≤ s.th
    · rw [if_pos hc]
      have := acked_slow s n true cum hm hn hr h0 rfl hc w
      rw [hr] at this
      exact this
    · rw [if_neg hc]
      exact acked_count s n true cum hm hn hr h0 rfl hc w
  · rw [if_pos rfl]
    by_cases hx : s.ex = cum
    · have := acked_rec1 s n full cum hm hn hr hx w
      simpa [hx] using this
    · have := acked_rec2 s n full cum hm hn hr hx w
      simpa [hx] using this
end Go.Proofs.Ytjogpkkokblmoaa
