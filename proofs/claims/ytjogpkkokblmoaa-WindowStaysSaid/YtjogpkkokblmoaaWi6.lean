/- Package window: what stays; the contracts in letters; awake. -/
import Derived.Test.YtjogpkkokblmoaaWi5
namespace Go.Proofs.Ytjogpkkokblmoaa
open Go.RowKit
set_option linter.unusedVariables false

theorem mtu_in (m : Int) : 1 ≤ mtuOf m ∧ mtuOf m ≤ 65536 := by
  unfold mtuOf
  split
  · rename_i h; exact inI_iff.1 h
  · decide
theorem may_start (m : Int) : (WS.start m).may = true := by
  have := mtu_in m
  refine may_iff.2 ?_
  simp only [WS.start]
  omega
theorem grow_in {n m : Int} (h0 : 0 ≤ n) (h1 : n ≤ 1073741824) (h2 : 0 ≤ m) : n ≤ growI n m ∧ growI n m ≤ 1073741824 ∧ growI n m ≤ n + m := by
  unfold growI; omega
theorem may_acked {s : WS} (h : s.may = true) (n : Int) (full : Bool) (cum : Int) : (s.acked n full cum).may = true ∧ (s.acked n full cum).mt = s.mt ∧ s.cw ≤ (s.acked n full cum).cw ∧ (s.acked n full cum).cw ≤ s.cw + s.mt := by
  obtain ⟨m1, m2, m3, m4⟩ := may_iff.1 h
  unfold WS.acked
  split
  · exact ⟨h, rfl, by omega, by omega⟩
  · rename_i hn
    have hn : inI 0 n 1073741824 = true := by rw [h] at hn; simpa using hn
    have n1 := inI_iff.1 hn
    split
    · exact ⟨may_iff.2 ⟨m1, m2, m3, m4⟩, rfl, by dsimp only; omega, by dsimp only; omega⟩
    split
    · exact ⟨h, rfl, by omega, by omega⟩
    split
    · have g := @grow_in s.cw (min n s.mt) (by omega) (by omega) (by omega)
      exact ⟨may_iff.2 ⟨m1, ⟨by dsimp only; omega, g.2.1⟩, m3, m4⟩, rfl, g.1, by dsimp only; omega⟩
    · unfold WS.count
      have g := @grow_in s.pa n (by omega) (by omega) (by omega)
      have g2 := @grow_in s.cw s.mt (by omega) (by omega) (by omega)
      split
      · exact ⟨may_iff.2 ⟨m1, ⟨by dsimp only; omega, g2.2.1⟩, m3, ⟨by dsimp only; omega, by dsimp only; omega⟩⟩, rfl, g2.1, g2.2.2⟩
      · exact ⟨may_iff.2 ⟨m1, m2, m3, ⟨by dsimp only; omega, g.2.1⟩⟩, rfl, by dsimp only; omega, by dsimp only; omega⟩
theorem half_in {s : WS} (h : s.may = true) : s.mt ≤ s.half ∧ s.half ≤ 1073741824 ∧ (s.half ≤ s.cw ∨ s.half ≤ 4 * s.mt) := by
  obtain ⟨m1, m2, m3, m4⟩ := may_iff.1 h
  unfold WS.half
  omega
theorem may_lost {s : WS} (h : s.may = true) (x : Int) : (s.lost x).may = true ∧ (s.lost x).mt = s.mt ∧ ((s.lost x).cw ≤ s.cw ∨ (s.lost x).cw ≤ 4 * s.mt) ∧ (s.lost x).re = true := by
  obtain ⟨m1, m2, m3, m4⟩ := may_iff.1 h
  have g := half_in h
  unfold WS.lost
  split
  · rename_i hr
    exact ⟨h, rfl, by omega, hr⟩
  · exact ⟨may_iff.2 ⟨m1, ⟨g.1, g.2.1⟩, ⟨by dsimp only; omega, g.2.1⟩, by dsimp only; omega⟩, rfl, g.2.2, rfl⟩
theorem lost_lost {s : WS} (h : s.may = true) (x y : Int) : (s.lost x).lost y = s.lost x := by
  have := (may_lost h x).2.2.2
  generalize s.lost x = t at *
  unfold WS.lost
  rw [if_pos this]
theorem may_back {s : WS} (h : s.may = true) : s.back.may = true ∧ s.back.mt = s.mt ∧ s.back.cw = s.mt := by
  obtain ⟨m1, m2, m3, m4⟩ := may_iff.1 h
  have g := half_in h
  unfold WS.back
  rw [if_pos h]
  exact ⟨may_iff.2 ⟨m1, ⟨by dsimp only; omega, by dsimp only; omega⟩, ⟨by dsimp only; omega, g.2.1⟩, by dsimp only; omega⟩, rfl, rfl⟩

theorem Start_at {m a b c d f : Int} {e : Bool} (h : WS.start m = ⟨a, b, c, d, e, f⟩) (w : World) :
    Calls Try.prog 8 #[.int .i64 m] w fun r w' => r = .returned (.agg #[.int .i64 a, .int .i64 b, .int .i64 c, .int .i64 d, .bool e, .int .u32 f]) ∧ Below w.heap.size w w' := by
  have := Start_any m w
  rw [h] at this
  exact this
theorem Acked_at {cw th pa mt ex n cum a b c d f : Int} {re full e : Bool} (h : WS.acked ⟨cw, th, pa, mt, re, ex⟩ n full cum = ⟨a, b, c, d, e, f⟩) (w : World) :
    Calls Try.prog 9 #[.agg #[.int .i64 cw, .int .i64 th, .int .i64 pa, .int .i64 mt, .bool re, .int .u32 ex], .int .i64 n, .bool full, .int .u32 cum] w fun r w' => r = .returned (.agg #[.int .i64 a, .int .i64 b, .int .i64 c, .int .i64 d, .bool e, .int .u32 f]) ∧ Below w.heap.size w w' := by
  have := Acked_any ⟨cw, th, pa, mt, re, ex⟩ n full cum w
  rw [h] at this
  exact this
theorem Lost_at {cw th pa mt ex x a b c d f : Int} {re e : Bool} (h : WS.lost ⟨cw, th, pa, mt, re, ex⟩ x = ⟨a, b, c, d, e, f⟩) (w : World) :
    Calls Try.prog 10 #[.agg #[.int .i64 cw, .int .i64 th, .int .i64 pa, .int .i64 mt, .bool re, .int .u32 ex], .int .u32 x] w fun r w' => r = .returned (.agg #[.int .i64 a, .int .i64 b, .int .i64 c, .int .i64 d, .bool e, .int .u32 f]) ∧ Below w.heap.size w w' := by
  have := Lost_any ⟨cw, th, pa, mt, re, ex⟩ x w
  rw [h] at this
  exact this
theorem Timeout_at {cw th pa mt ex a b c d f : Int} {re e : Bool} (h : WS.back ⟨cw, th, pa, mt, re, ex⟩ = ⟨a, b, c, d, e, f⟩) (w : World) :
    Calls Try.prog 11 #[.agg #[.int .i64 cw, .int .i64 th, .int .i64 pa, .int .i64 mt, .bool re, .int .u32 ex]] w fun r w' => r = .returned (.agg #[.int .i64 a, .int .i64 b, .int .i64 c, .int .i64 d, .bool e, .int .u32 f]) ∧ Below w.heap.size w w' := by
  have := Timeout_any ⟨cw, th, pa, mt, re, ex⟩ w
  rw [h] at this
  exact this
theorem run_cw (a b c d : Int) (e : Bool) (f : Int) (w : World) : (Instr.field 26 (.agg #[.int .i64 a, .int .i64 b, .int .i64 c, .int .i64 d, .bool e, .int .u32 f]) 0).run Try.prog w = .ok (.int .i64 a) w := by kernel_rfl
set_option maxHeartbeats 1000000 in
theorem awake_any (w : World) : Calls Try.prog 7 #[] w fun e w' => e = .returned (.bool true) ∧ Below w.heap.size w w' := by
  have K1 := keep (fun w => @Start_at 1200 3600 1073741824 0 1200 0 false (by rfl) w)
  have K2 := keep (fun w => @Acked_at 3600 1073741824 0 1200 0 1200 5 4800 1073741824 0 1200 0 false true false (by rfl) w)
  have K3 := keep (fun w => @Timeout_at 4800 1073741824 0 1200 0 1200 4800 0 1200 0 false false (by rfl) w)
  have hw1 := fun w => run_cw 3600 1073741824 0 1200 false 0 w
  have H0 := keep (Below.refl w.heap.size w)
  go_enter Try.func7, Try.ntmps7
  go_wp2_with (first
    | (go_at_call 9; refine (K2.out _).mono ?_; rintro e w2 ⟨rfl, hb2⟩
       have T2 := WB.new 26 w2 ⟨4800, 1073741824, 0, 1200, false, 0⟩
       obtain ⟨⟨d0, d1, d2, d3, d4, d5⟩, _⟩ := T2.all
       dsimp only at d0 d1 d2 d3 d4 d5
       have H2 := keep ((up H1.out hb2).alloc (up H1.out hb2).size (.cells (WS.cells ⟨4800, 1073741824, 0, 1200, false, 0⟩) 26))
       replace T2 := keep T2
       clear hb2 H1 K2)
    | (go_at_call 11; refine (K3.out _).mono ?_; rintro e w3 ⟨rfl, hb3⟩
       have H3 := keep ((up H2.out hb3).alloc (up H2.out hb3).size (.cells (WS.cells ⟨1200, 4800, 0, 1200, false, 0⟩) 26))
       have T3 := keep ((T2.out.step hb3).step (below_lay w3 (.cells (WS.cells ⟨1200, 4800, 0, 1200, false, 0⟩) 26)))
       have U3 := keep (WB.new 26 w3 ⟨1200, 4800, 0, 1200, false, 0⟩)
       clear hb3 H2 T2 K3)
    | (go_at_call 8; refine (K1.out _).mono ?_; rintro e w1 ⟨rfl, hb1⟩
       first
       | (have H4 := keep (up H3.out hb1)
          have T4 := T3.out.step hb1
          have U4 := U3.out.step hb1
          obtain ⟨⟨d0, d1, d2, d3, d4, d5⟩, _⟩ := T4.all
          obtain ⟨⟨e0, e1, e2, e3, e4, e5⟩, _⟩ := U4.all
          dsimp only at d0 d1 d2 d3 d4 d5 e0 e1 e2 e3 e4 e5
          clear hb1 H3 T3 U3 T4 U4)
       | (have H1 := keep (up H0.out hb1)
          clear hb1 H0)))
  go_ret
  exact ⟨rfl, H4.out⟩
end Go.Proofs.Ytjogpkkokblmoaa
