/- Package window: a loss and a timeout. -/
import Derived.Test.YtjogpkkokblmoaaWi2
namespace Go.Proofs.Ytjogpkkokblmoaa
open Go.RowKit
set_option linter.unusedVariables false

theorem halvingL_any (g : Nat) (w : World) : Calls Try.prog 21 #[.func (.func 22) #[] #[.pointer (some ⟨g, 0, none⟩)]] w fun e w' => ∃ q, e = .returned (.func (.func 25) #[] #[.pointer (some ⟨q, 0, none⟩)]) ∧ w'.cell? ⟨q, 0, none⟩ = some (.func (.func 22) #[] #[.pointer (some ⟨g, 0, none⟩)]) ∧ q < w'.heap.size ∧ Below w.heap.size w w' := by
  go_enter Try.func21, Try.ntmps21
  go_wp2_with fail
  go_ret
  exact ⟨_, rfl, by simp, by simp, below_lay w _⟩
theorem halvingT_any (w : World) : Calls Try.prog 21 #[.func (.func 23) #[] #[]] w fun e w' => ∃ q, e = .returned (.func (.func 25) #[] #[.pointer (some ⟨q, 0, none⟩)]) ∧ w'.cell? ⟨q, 0, none⟩ = some (.func (.func 23) #[] #[]) ∧ q < w'.heap.size ∧ Below w.heap.size w w' := by
  go_enter Try.func21, Try.ntmps21
  go_wp2_with fail
  go_ret
  exact ⟨_, rfl, by simp, by simp, below_lay w _⟩

def WS.back (s : WS) : WS := if s.may = true then ⟨s.mt, s.half, 0, s.mt, false, 0⟩ else s
def WS.lost (s : WS) (x : Int) : WS := if s.re = true then s else if s.may = true then ⟨s.half, s.half, 0, s.mt, true, x⟩ else s
theorem Timeout_any (s : WS) (w : World) : Calls Try.prog 11 #[.agg s.cells] w (StPost w s.back) := by
  have K1 := keep (fun w => halvingT_any w)
  have K2 := keep (fun q w hq hl => halvT_any s q w hq hl)
  have T := keep (Two.new s w)
  obtain ⟨v, hv⟩ : ∃ v, s.back = v := ⟨_, rfl⟩
  rw [hv]
  unfold WS.back at hv
  rw [hv] at K2
  clear hv
  obtain ⟨cw, th, pa, mt, re, ex⟩ := s
  obtain ⟨cw', th', pa', mt', re', ex'⟩ := v
  dsimp only [WS.cells] at K2 ⊢
  go_enter Try.func11, Try.ntmps11
  go_wp2_with (first
    | (go_at_call 21; refine (K1.out _).mono ?_; rintro e w2 ⟨q, rfl, hq, hl, hb⟩
       have T2 := T.out.step hb
       obtain ⟨⟨d0, d1, d2, d3, d4, d5⟩, f0, f1, f2, f3, f4, f5⟩ := T2.r.all
       dsimp only [WS.zero] at d0 d1 d2 d3 d4 d5
       replace T2 := keep T2
       replace hq := keep hq
       clear hb T)
    | (go_at_call 25; refine (K2.out _ _ hq.out hl).mono ?_; rintro e w4 ⟨he, hb4⟩
       dsimp only [WS.cells] at he
       subst he
       have T4 := T2.out.step hb4
       obtain ⟨⟨x0, x1, x2, x3, x4, x5⟩, y0, y1, y2, y3, y4, y5⟩ := T4.t.all
       dsimp only [WS.zero] at x0 x1 x2 x3 x4 x5
       replace T4 := keep T4
       clear hb4 T2))
  exact T4.out.ret' rfl rfl rfl ⟨cw', th', pa', mt', re', ex'⟩
/-- The three blocks with which Lost begins. -/
structure Three (w : World) (s u : WS) (x : Int) (W : World) : Prop where
  r : WB 26 W w.heap.size s
  x : W.cell? ⟨w.heap.size + 1, 0, none⟩ = some (.int .u32 x)
  t : WB 26 W (w.heap.size + 1 + 1) u
  below : Below w.heap.size w W
theorem Three.step {w W W' : World} {s u : WS} {x : Int} (h : Three w s u x W) (hb : Below W.heap.size W W') : Three w s u x W' :=
  ⟨h.r.step hb, (hb.cell (p := ⟨w.heap.size + 1, 0, none⟩) (by have := h.t.lt; show w.heap.size + 1 < _; omega)).trans h.x, h.t.step hb, up h.below hb⟩
theorem Three.new (s : WS) (x : Int) (w : World) : Three w s WS.zero x (((w.alloc (.cells s.cells 26)).alloc (.cells #[.int .u32 x] 24)).alloc (.cells WS.zero.cells 26)) := by
  have l1 := below_lay w (.cells s.cells 26)
  have l2 := l1.alloc l1.size (.cells #[.int .u32 x] 24)
  have R3 := WB.new 26 ((w.alloc (.cells s.cells 26)).alloc (.cells #[.int .u32 x] 24)) WS.zero
  have c1 : ((w.alloc (.cells s.cells 26)).alloc (.cells #[.int .u32 x] 24)).cell? ⟨w.heap.size + 1, 0, none⟩ = some (.int .u32 x) := by
    have := heap_alloc_new (w.alloc (.cells s.cells 26)) (.cells #[.int .u32 x] 24)
    rw [show (w.alloc (.cells s.cells 26)).heap.size = w.heap.size + 1 by simp] at this
    rw [cell_of_row _ _ _ _ _ _ this]
    rfl
  refine ⟨((WB.new _ w s).step (below_lay _ _)).step (below_lay _ _), ((below_lay _ _).cell (p := ⟨w.heap.size + 1, 0, none⟩) (by simp)).trans c1, ?_, l2.alloc l2.size _⟩
  rw [show ((w.alloc (.cells s.cells 26)).alloc (.cells #[.int .u32 x] 24)).heap.size = w.heap.size + 1 + 1 by simp] at R3
  exact R3
theorem Three.ret {w W : World} {s u : WS} {x : Int} (h : Three w s u x W) {fn : Func} {p : Tmp} (hr : fn.results = #[.cell p 26]) {a : Act} (hd : a.defers = []) (hp : a.tmps.getD p undef = .pointer (some ⟨w.heap.size + 1 + 1, 0, none⟩)) (v : WS) :
    bodyPost Try.prog fn (StPost w v) Exit.ret a (lay6 W (w.heap.size + 1 + 1) v) :=
  bodyPost_ret (ret_st hr _ _ _ _ hp (laid6 h.t v)) hd ⟨rfl, below6 h.below (by omega) v⟩
theorem fin_three (X Y : Obj) (s : WS) (w : World) {fn : Func} {p : Tmp} (hr : fn.results = #[.cell p 26]) {a : Act} (hd : a.defers = []) (hp : a.tmps.getD p undef = .pointer (some ⟨w.heap.size + 1 + 1, 0, none⟩)) :
    bodyPost Try.prog fn (StPost w s) Exit.ret a (((w.alloc X).alloc Y).alloc (.cells s.cells 26)) := by
  have l1 := below_lay w X
  have l2 := l1.alloc l1.size Y
  have R3 := WB.new 26 ((w.alloc X).alloc Y) s
  rw [show ((w.alloc X).alloc Y).heap.size = w.heap.size + 1 + 1 by simp] at R3
  exact bodyPost_ret (ret_st hr _ _ _ _ hp R3) hd ⟨rfl, l2.alloc l2.size _⟩

theorem Lost_any (s : WS) (x : Int) (w : World) : Calls Try.prog 10 #[.agg s.cells, .int .u32 x] w (StPost w (s.lost x)) := by
  rcases hr : s.re with _ | _
  · have K2 := keep (fun q g w hq hql hg hl => halvL_any s x q g w hq hql hg hl)
    have T := keep (Three.new s x w)
    obtain ⟨v, hv⟩ : ∃ v, s.lost x = v := ⟨_, rfl⟩
    rw [hv]
    unfold WS.lost at hv
    rw [hr, if_neg (by decide)] at hv
    rw [hv] at K2
    clear hv
    obtain ⟨cw, th, pa, mt, re, ex⟩ := s
    obtain ⟨cw', th', pa', mt', re', ex'⟩ := v
    dsimp only at hr
    subst hr
    dsimp only [WS.cells] at K2 ⊢
    go_enter Try.func10, Try.ntmps10
    go_wp2_with (first
      | (go_at_call 21; refine (halvingL_any _ _).mono ?_; rintro e w2 ⟨q, rfl, hq, hl, hb⟩
         have T2 := T.out.step hb
         obtain ⟨⟨d0, d1, d2, d3, d4, d5⟩, f0, f1, f2, f3, f4, f5⟩ := T2.r.all
         dsimp only [WS.zero] at d0 d1 d2 d3 d4 d5
         replace T2 := keep T2
         replace hq := keep hq
         clear hb T)
      | (go_at_call 25; refine (K2.out _ _ _ hq.out hl T2.out.x (by have := T2.out.t.lt; omega)).mono ?_; rintro e w4 ⟨he, hb4⟩
         dsimp only [WS.cells] at he
         subst he
         have T4 := T2.out.step hb4
         obtain ⟨⟨x0, x1, x2, x3, x4, x5⟩, y0, y1, y2, y3, y4, y5⟩ := T4.t.all
         dsimp only [WS.zero] at x0 x1 x2 x3 x4 x5
         replace T4 := keep T4
         clear hb4 T2))
    exact T4.out.ret rfl rfl rfl ⟨cw', th', pa', mt', re', ex'⟩
  · have e : s.lost x = s := by unfold WS.lost; rw [hr]; rfl
    rw [e]
    obtain ⟨cw, th, pa, mt, re, ex⟩ := s
    dsimp only at hr
    subst hr
    dsimp only [WS.cells]
    go_enter Try.func10, Try.ntmps10
    go_wp2_with fail
    exact fin_three _ _ ⟨cw, th, pa, mt, true, ex⟩ w rfl rfl rfl

/-- A state above its threshold. -/
def WS.count (s : WS) (n : Int) : WS := if s.cw ≤ growI s.pa n then { s with pa := growI s.pa n - s.cw, cw := growI s.cw s.mt } else { s with pa := growI s.pa n }
set_option maxHeartbeats 1000000 in
theorem counted_any (s : WS) (n : Int) (hm : s.may = true) (h0 : 0 ≤ n) (h1 : n ≤ 1073741824) (w : World) :
    Calls Try.prog 20 #[.agg s.cells, .int .i64 n] w (StPost w (s.count n)) := by
  obtain ⟨m1, m2, m3, m4⟩ := may_iff.1 hm
  obtain ⟨cw, th, pa, mt, re, ex⟩ := s
  dsimp only at m1 m2 m3 m4
  have K1 := keep (fun w => grown_any pa n (by omega) (by omega) h0 h1 w)
  have K2 := keep (fun w => grown_any cw mt (by omega) (by omega) (by omega) (by omega) w)
  obtain ⟨y, hy⟩ : ∃ y, growI pa n = y := ⟨_, rfl⟩
  obtain ⟨z, hz⟩ : ∃ z, growI cw mt = z := ⟨_, rfl⟩
  have hy0 : 0 ≤ y ∧ y ≤ 1073741824 := by unfold growI at hy; omega
  obtain ⟨a1, a2⟩ := wrap_in (y - cw) (by omega)
  unfold WS.count
  dsimp only [WS.cells]
  rw [hy] at K1 ⊢
  rw [hz] at K2 ⊢
  clear hm m1 m2 m3 m4 hy hz hy0 h0 h1
  by_cases hc : cw ≤ y
  · rw [if_pos hc]
    go_enter Try.func20, Try.ntmps20
    go_wp2_with (first
      | (go_at_call_of 19 (Value.int IntKind.i64 n); refine (K1.out _).mono ?_; rintro e w2 ⟨rfl, rfl⟩)
      | (go_at_call 19; refine (K2.out _).mono ?_; rintro e w2 ⟨rfl, rfl⟩))
    exact fin_two _ ⟨z, th, y - cw, mt, re, ex⟩ w rfl rfl rfl
  · rw [if_neg hc]
    go_enter Try.func20, Try.ntmps20
    go_wp2_with (first
      | (go_at_call_of 19 (Value.int IntKind.i64 n); refine (K1.out _).mono ?_; rintro e w2 ⟨rfl, rfl⟩)
      | (go_at_call 19; refine (K2.out _).mono ?_; rintro e w2 ⟨rfl, rfl⟩))
    exact fin_two _ ⟨cw, th, y, mt, re, ex⟩ w rfl rfl rfl
end Go.Proofs.Ytjogpkkokblmoaa
