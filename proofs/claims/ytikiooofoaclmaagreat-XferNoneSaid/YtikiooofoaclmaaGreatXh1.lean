/- XferNone: the walk. -/
import Derived.Test.YtikiooofoaclmaaGreatKBM
namespace Go.Proofs.YtikiooofoaclmaaGreat
open Go.RowKit Go.Maps
set_option linter.unusedVariables false
set_option maxRecDepth 8000

theorem xHear_nil (c : CX) (now : Int) (w : World) : Calls Tryz.prog 15 #[.pointer none, .agg c.cells.toArray, .int .i64 now] w fun e w' => e = .returned (.int .i64 1) ∧ Below w.heap.size w w' := by
  have HB := keep (below_lay w (.cells c.cells.toArray 41))
  obtain ⟨ck, cf, ca, cb, co, cs, cp, ⟨x1, x2, x3⟩, ⟨x4, x5, x6⟩, ⟨x7, x8, x9⟩, ⟨x10, x11, x12⟩, ⟨x13, x14, x15⟩, cps, cbs⟩ := c
  dsimp only [CX.cells] at HB ⊢
  go_enter Tryz.func15, Tryz.ntmps15
  go_wp2
  go_ret
  exact ⟨rfl, HB.out⟩
set_option maxHeartbeats 4000000 in
theorem xferNone_walk (x : MX) (y : CX) (n : Int) (w : World) (hx : MV w x) (hy : CV w y) (hn : (Lit.int .i64 n).wf = true) :
    Calls Tryz.prog 4 #[.agg x.cells.toArray, .agg y.cells.toArray, .int .i64 n] w fun e w' => e = .returned (.bool true) ∧ Below w.heap.size w w' := by
  have KA := keep (fun W => awakeX W)
  have KSe := keep (fun (s : Int) (u : Bool) (p : Int) (a : Option Addr) (b c : Nat) (l t z : Int) W => xSend_nil ⟨s, u, p, (a, b, c), []⟩ l t z W)
  have KHe := keep (fun W => xHear_nil y n W)
  have HB := keep ((below_lay w (.cells x.cells.toArray 33)))
  have HB1 := keep (up HB.out (below_lay (w.alloc (.cells x.cells.toArray 33)) (.cells y.cells.toArray 41)))
  have HM := keep (show (w.alloc (.cells x.cells.toArray 33)).heap[w.heap.size]? = some (.cells x.cells.toArray 33 (0, 0)) from heap_alloc_new w _)
  have HC := keep (show ((w.alloc (.cells x.cells.toArray 33)).alloc (.cells y.cells.toArray 41)).heap[(w.alloc (.cells x.cells.toArray 33)).heap.size]? = some (.cells y.cells.toArray 41 (0, 0)) from heap_alloc_new _ _)
  replace HM := keep (blk_step HM.out (below_lay (w.alloc (.cells x.cells.toArray 33)) (.cells y.cells.toArray 41)))
  simp only [World.size_alloc] at HC
  clear hx hy hn
  obtain ⟨xs, xu, xp, ⟨x1, x2, x3⟩, xbs⟩ := x
  obtain ⟨ck, cf, ca, cb, co, cs, cp, ⟨y1, y2, y3⟩, ⟨y4, y5, y6⟩, ⟨y7, y8, y9⟩, ⟨y10, y11, y12⟩, ⟨y13, y14, y15⟩, cps, cbs⟩ := y
  dsimp only [CX.cells, MX.cells] at KSe KHe HB HB1 HM HC ⊢
  by_cases h1 : (2000 : Int) < (x2 : Int)
  · go_enter Tryz.func4, Tryz.ntmps4
    go_wp2_with (first
      | (go_at_call 7; refine (KA.out _).mono ?_; rintro e w1 ⟨rfl, hb⟩
         have m3 := upd_cell (blk_step HM.out hb) 3 _ rfl
         replace hb := keep hb))
    all_goals go_ret
    all_goals exact ⟨rfl, HB1.out.trans (hb.out.mono HB1.out.size)⟩
  · by_cases h2 : (2000 : Int) < (y14 : Int)
    · go_enter Tryz.func4, Tryz.ntmps4
      go_wp2_with (first
        | (go_at_call 7; refine (KA.out _).mono ?_; rintro e w1 ⟨rfl, hb⟩
           have m3 := upd_cell (blk_step HM.out hb) 3 _ rfl
           have c11 := upd_cell (blk_step HC.out hb) 11 _ rfl
           replace hb := keep hb))
      all_goals go_ret
      all_goals exact ⟨rfl, HB1.out.trans (hb.out.mono HB1.out.size)⟩
    · go_enter Tryz.func4, Tryz.ntmps4
      go_wp2_with (first
        | (go_at_call 7; refine (KA.out _).mono ?_; rintro e w1 ⟨rfl, hb⟩
           have HMs := keep (blk_step HM.out hb)
           have HCs := keep (blk_step HC.out hb)
           have m0 := upd_cell HMs.out 0 _ rfl
           have m1 := upd_cell HMs.out 1 _ rfl
           have m2 := upd_cell HMs.out 2 _ rfl
           have m3 := upd_cell HMs.out 3 _ rfl
           have c11 := upd_cell HCs.out 11 _ rfl
           have HB2 := keep (HB1.out.trans (hb.mono HB1.out.size))
           clear hb)
        | (go_at_call 14; refine (xRestart_nil _ _ _).mono ?_; rintro e w' ⟨rfl, rfl⟩)
        | (go_at_call 11; refine (xDue_nil _).mono ?_; rintro e w' ⟨rfl, rfl⟩)
        | (go_at_call 9; refine (KSe.out _ _ _ _ _ _ _ _ _ _).mono ?_; rintro e w2 ⟨rfl, hb⟩
           have HC2 := keep (blk_step HCs.out hb)
           obtain ⟨d0, d1, d2, d3, d4, d5, d6, d7, d8, d9, d10, d11⟩ := (show CK w2 (w.heap.size + 1) ⟨ck, cf, ca, cb, co, cs, cp, (y1, y2, y3), (y4, y5, y6), (y7, y8, y9), (y10, y11, y12), (y13, y14, y15), cps, cbs⟩ from HC2.out).all.1
           have HB3 := keep (HB2.out.trans (hb.mono HB2.out.size))
           clear hb)
        | (go_at_call 15; refine (KHe.out _).mono ?_; rintro e w3 ⟨rfl, hb⟩
           have HB4 := keep (HB3.out.trans (hb.mono HB3.out.size))
           clear hb)
        | (go_at_call 16; refine (xTick_nil _ _).mono ?_; rintro e w4 ⟨rfl, k4, rfl⟩
           have HB5 := keep (below_drewN HB4.out k4))
        | (go_at_call 10; refine (xTell_nil _ _).mono ?_; rintro e w' ⟨rfl, rfl⟩)
        | (go_at_call 17; refine (xMessages_nil _).mono ?_; rintro e w' ⟨rfl, rfl⟩)
        | (go_at_call 18; refine (xIdle_nil _).mono ?_; rintro e w' ⟨rfl, rfl⟩)
        | (go_at_call 19; refine (xFailures_nil _).mono ?_; rintro e w' ⟨rfl, rfl⟩)
        | (go_at_call 20; refine (xCum_nil _).mono ?_; rintro e w' ⟨rfl, rfl⟩)
        | (go_at_call 13; refine (xNext_nil _).mono ?_; rintro e w' ⟨rfl, rfl⟩))
      all_goals go_ret
      all_goals exact ⟨rfl, HB5.out⟩
end Go.Proofs.YtikiooofoaclmaaGreat
