/- Package window: start, and what halves. -/
import Derived.Test.YtjogpkkokblmoaaWi1
namespace Go.Proofs.Ytjogpkkokblmoaa
open Go.RowKit
set_option linter.unusedVariables false

def mtuOf (m : Int) : Int := if inI 1 m 65536 = true then m else 1200
def WS.start (m : Int) : WS := ⟨3 * mtuOf m, 1073741824, 0, mtuOf m, false, 0⟩
theorem Start_any (m : Int) (w : World) : Calls Try.prog 8 #[.int .i64 m] w (StPost w (WS.start m)) := by
  rcases h : inI 1 m 65536 with _ | _
  · have e : mtuOf m = 1200 := by unfold mtuOf; rw [h]; rfl
    unfold WS.start
    rw [e]
    go_enter Try.func8, Try.ntmps8
    go_wp2_with (go_at_call 16; refine (within_any _ _ _ _).mono ?_; rintro e w' ⟨rfl, rfl⟩; rw [h])
    exact bodyPost_ret (ret_st rfl _ _ w.heap.size ⟨3600, 1073741824, 0, 1200, false, 0⟩ rfl (WB.new _ w ⟨3600, 1073741824, 0, 1200, false, 0⟩)) rfl ⟨rfl, below_lay w _⟩
  · have e : mtuOf m = m := by unfold mtuOf; rw [h]; rfl
    unfold WS.start
    rw [e]
    have h1 := inI_iff.1 h
    have e2 := wrap_in (3 * m) (by omega)
    obtain ⟨e2, e3⟩ := e2
    go_enter Try.func8, Try.ntmps8
    go_wp2_with (go_at_call 16; refine (within_any _ _ _ _).mono ?_; rintro e w' ⟨rfl, rfl⟩; rw [h])
    exact bodyPost_ret (ret_st rfl _ _ w.heap.size ⟨3 * m, 1073741824, 0, m, false, 0⟩ (by rfl) (WB.new _ w ⟨3 * m, 1073741824, 0, m, false, 0⟩)) rfl ⟨rfl, below_lay w _⟩

/-- Both blocks of a function that takes a state and hands one back, and what lies below. -/
structure Two (w : World) (s u : WS) (W : World) : Prop where
  r : WB 26 W w.heap.size s
  t : WB 26 W (w.heap.size + 1) u
  below : Below w.heap.size w W
theorem Two.step {w W W' : World} {s u : WS} (h : Two w s u W) (hb : Below W.heap.size W W') : Two w s u W' := ⟨h.r.step hb, h.t.step hb, up h.below hb⟩
theorem Two.drew {w W : World} {s u : WS} (h : Two w s u W) : Two w s u W.drew := ⟨h.r, h.t, h.below.drew⟩
theorem Two.drewN {w W : World} {s u : WS} (h : Two w s u W) (k : Nat) : Two w s u (W.drewN k) := ⟨h.r, h.t, below_drewN h.below k⟩
theorem Two.new (s : WS) (w : World) : Two w s WS.zero ((w.alloc (.cells s.cells 26)).alloc (.cells WS.zero.cells 26)) := by
  have l1 := below_lay w (.cells s.cells 26)
  have R3 := WB.new 26 (w.alloc (.cells s.cells 26)) WS.zero
  refine ⟨(WB.new _ w s).step (below_lay _ _), ?_, l1.alloc l1.size _⟩
  rw [show (w.alloc (.cells s.cells 26)).heap.size = w.heap.size + 1 by simp] at R3
  exact R3
theorem Two.cw {w W : World} {s u : WS} (h : Two w s u W) (x : Int) : Two w { s with cw := x } u (W.setCell ⟨w.heap.size, 0, none⟩ (.int .i64 x)) := ⟨h.r.cw x, h.t.else_ (by omega) _, h.below.setCell (p := ⟨w.heap.size, 0, none⟩) (Nat.le_refl _) _⟩
theorem Two.th {w W : World} {s u : WS} (h : Two w s u W) (x : Int) : Two w { s with th := x } u (W.setCell ⟨w.heap.size, 1, none⟩ (.int .i64 x)) := ⟨h.r.th x, h.t.else_ (by omega) _, h.below.setCell (p := ⟨w.heap.size, 1, none⟩) (Nat.le_refl _) _⟩
theorem Two.pa {w W : World} {s u : WS} (h : Two w s u W) (x : Int) : Two w { s with pa := x } u (W.setCell ⟨w.heap.size, 2, none⟩ (.int .i64 x)) := ⟨h.r.pa x, h.t.else_ (by omega) _, h.below.setCell (p := ⟨w.heap.size, 2, none⟩) (Nat.le_refl _) _⟩
theorem Two.re {w W : World} {s u : WS} (h : Two w s u W) (x : Bool) : Two w { s with re := x } u (W.setCell ⟨w.heap.size, 4, none⟩ (.bool x)) := ⟨h.r.re x, h.t.else_ (by omega) _, h.below.setCell (p := ⟨w.heap.size, 4, none⟩) (Nat.le_refl _) _⟩
theorem Two.ex {w W : World} {s u : WS} (h : Two w s u W) (x : Int) : Two w { s with ex := x } u (W.setCell ⟨w.heap.size, 5, none⟩ (.int .u32 x)) := ⟨h.r.ex x, h.t.else_ (by omega) _, h.below.setCell (p := ⟨w.heap.size, 5, none⟩) (Nat.le_refl _) _⟩
theorem Two.ret {w W : World} {s u : WS} (h : Two w s u W) {fn : Func} {p : Tmp} (hr : fn.results = #[.cell p 26]) {a : Act} (hd : a.defers = []) (hp : a.tmps.getD p undef = .pointer (some ⟨w.heap.size + 1, 0, none⟩)) :
    bodyPost Try.prog fn (StPost w s) Exit.ret a (lay6 W (w.heap.size + 1) s) :=
  bodyPost_ret (ret_st hr _ _ _ _ hp (laid6 h.t s)) hd ⟨rfl, below6 h.below (by omega) s⟩

theorem fin_two (X : Obj) (s : WS) (w : World) {fn : Func} {p : Tmp} (hr : fn.results = #[.cell p 26]) {a : Act} (hd : a.defers = []) (hp : a.tmps.getD p undef = .pointer (some ⟨w.heap.size + 1, 0, none⟩)) :
    bodyPost Try.prog fn (StPost w s) Exit.ret a ((w.alloc X).alloc (.cells s.cells 26)) := by
  have l1 := below_lay w X
  have R3 := WB.new 26 (w.alloc X) s
  rw [show (w.alloc X).heap.size = w.heap.size + 1 by simp] at R3
  exact bodyPost_ret (ret_st hr _ _ _ _ hp R3) hd ⟨rfl, l1.alloc l1.size _⟩
theorem fin_two_drew (X : Obj) (s : WS) (w : World) {fn : Func} {p : Tmp} (hr : fn.results = #[.cell p 26]) {a : Act} (hd : a.defers = []) (hp : a.tmps.getD p undef = .pointer (some ⟨w.heap.size + 1, 0, none⟩)) :
    bodyPost Try.prog fn (StPost w s) Exit.ret a (((w.alloc X).alloc (.cells s.cells 26)).drew) := by
  have l1 := below_lay w X
  have R3 := WB.new 26 (w.alloc X) s
  rw [show (w.alloc X).heap.size = w.heap.size + 1 by simp] at R3
  exact bodyPost_ret (ret_st hr _ _ _ _ hp R3.drew) hd ⟨rfl, (l1.alloc l1.size _).drew⟩

theorem Lost1_any (s : WS) (x : Int) (g : Nat) (w : World) (hg : w.cell? ⟨g, 0, none⟩ = some (.int .u32 x)) (hl : g < w.heap.size) :
    Calls Try.prog 22 #[.agg s.cells, .pointer (some ⟨g, 0, none⟩)] w (StPost w ⟨s.th, s.th, s.pa, s.mt, true, x⟩) := by
  obtain ⟨cw, th, pa, mt, re, ex⟩ := s
  dsimp only [WS.cells]
  go_enter Try.func22, Try.ntmps22
  go_wp2_with fail
  go_region_with fail
  all_goals (try go_wp2_with fail)
  all_goals exact fin_two_drew _ ⟨th, th, pa, mt, true, x⟩ w rfl rfl rfl
theorem Timeout1_any (s : WS) (w : World) :
    Calls Try.prog 23 #[.agg s.cells] w (StPost w ⟨s.mt, s.th, s.pa, s.mt, false, 0⟩) := by
  obtain ⟨cw, th, pa, mt, re, ex⟩ := s
  dsimp only [WS.cells]
  go_enter Try.func23, Try.ntmps23
  go_wp2_with fail
  exact fin_two _ ⟨mt, th, pa, mt, false, 0⟩ w rfl rfl rfl

def growI (n m : Int) : Int := n + min m (1073741824 - n)
theorem grown_any (n m : Int) (h0 : 0 ≤ n) (h1 : n ≤ 1073741824) (h2 : 0 ≤ m) (h3 : m ≤ 1073741824) (w : World) :
    Calls Try.prog 19 #[.int .i64 n, .int .i64 m] w fun e w' => e = .returned (.int .i64 (growI n m)) ∧ w = w' := by
  obtain ⟨a1, a2⟩ := wrap_in (1073741824 - n) (by omega)
  obtain ⟨b1, b2⟩ := wrap_in (n + (1073741824 - n)) (by omega)
  obtain ⟨c1, c2⟩ := wrap_in (n + m) (by omega)
  go_enter Try.func19, Try.ntmps19
  go_wp2_with fail
  all_goals go_ret
  all_goals exact ⟨ret_int (by unfold growI; omega), rfl⟩

def WS.half (s : WS) : Int := max (s.cw / 2) (4 * s.mt)
/-- What a call of the function that halving makes leaves, when it hands on to what makes R of what it halved. -/
def WS.halved (s : WS) : WS := { s with th := s.half, pa := 0 }
theorem Two.ret' {w W : World} {s u : WS} (h : Two w s u W) {fn : Func} {p : Tmp} (hr : fn.results = #[.cell p 26]) {a : Act} (hd : a.defers = []) (hp : a.tmps.getD p undef = .pointer (some ⟨w.heap.size + 1, 0, none⟩)) (v : WS) :
    bodyPost Try.prog fn (StPost w v) Exit.ret a (lay6 W (w.heap.size + 1) v) :=
  bodyPost_ret (ret_st hr _ _ _ _ hp (laid6 h.t v)) hd ⟨rfl, below6 h.below (by omega) v⟩

set_option maxHeartbeats 1000000 in
theorem halvL_any (s : WS) (x : Int) (q g : Nat) (w : World) (hq : w.cell? ⟨q, 0, none⟩ = some (.func (.func 22) #[] #[.pointer (some ⟨g, 0, none⟩)])) (hql : q < w.heap.size) (hg : w.cell? ⟨g, 0, none⟩ = some (.int .u32 x)) (hl : g < w.heap.size) :
    Calls Try.prog 25 #[.agg s.cells, .pointer (some ⟨q, 0, none⟩)] w (StPost w (if s.may = true then ⟨s.half, s.half, 0, s.mt, true, x⟩ else s)) := by
  have K0 := mayBe_any s
  rcases hm : s.may with _ | _
  · rw [hm] at K0
    obtain ⟨cw, th, pa, mt, re, ex⟩ := s
    have T := keep (Two.new ⟨cw, th, pa, mt, re, ex⟩ w)
    dsimp only [WS.cells] at K0 ⊢
    replace K0 := keep K0
    clear hm
    go_enter Try.func25, Try.ntmps25
    go_wp2_with (go_at_call 17; refine (K0.out _).mono ?_; rintro e w2 ⟨rfl, hb⟩
                 have T2 := T.out.step hb
                 obtain ⟨⟨d0, d1, d2, d3, d4, d5⟩, f0, f1, f2, f3, f4, f5⟩ := T2.r.all
                 obtain ⟨⟨x0, x1, x2, x3, x4, x5⟩, y0, y1, y2, y3, y4, y5⟩ := T2.t.all
                 dsimp only [WS.zero] at d0 d1 d2 d3 d4 d5 x0 x1 x2 x3 x4 x5
                 replace T2 := keep T2
                 clear hb T)
    all_goals exact T2.out.ret rfl rfl rfl
  · rw [hm] at K0
    obtain ⟨m1, m2, m3, m4⟩ := may_iff.1 hm
    obtain ⟨t, ht⟩ : ∃ t, s.half = t := ⟨_, rfl⟩
    rw [ht, if_pos rfl]
    unfold WS.half at ht
    obtain ⟨cw, th, pa, mt, re, ex⟩ := s
    dsimp only at m1 m2 m3 m4 ht
    obtain ⟨d, hd⟩ : ∃ d, cw.tdiv 2 = d := ⟨_, rfl⟩
    have hd2 : cw / 2 = d := by rw [← hd, Int.tdiv_eq_ediv_of_nonneg (by omega)]
    rw [hd2] at ht
    obtain ⟨u, hu⟩ : ∃ u, 4 * mt = u := ⟨_, rfl⟩
    rw [hu] at ht
    obtain ⟨a1, a2⟩ := wrap_in u (by omega)
    obtain ⟨a3, a4⟩ := wrap_in d (by omega)
    have n1 : ¬ 1073741824 < t := by omega
    have n2 : t ≤ 1073741824 := by omega
    have hne : ¬ q = w.heap.size := by omega
    have K1 := keep (fun (w3 : World) (hb : Below w.heap.size w w3) => Lost1_any ⟨cw, t, 0, mt, re, ex⟩ x g w3 ((hb.cell (p := ⟨g, 0, none⟩) hl).trans hg) (Nat.lt_of_lt_of_le hl hb.size))
    have T := keep (Two.new ⟨cw, th, pa, mt, re, ex⟩ w)
    have HQ := keep (And.intro hq hql)
    dsimp only [WS.cells] at K0 K1 ⊢
    replace K0 := keep K0
    clear hm m1 m2 m3 m4 hd2 hq hql
    by_cases hc : d < u
    · obtain rfl : u = t := by omega
      clear ht
      go_enter Try.func25, Try.ntmps25
      go_wp2_with (first
        | (go_at_call 17; refine (K0.out _).mono ?_; rintro e w2 ⟨rfl, hb⟩
           have T2 := T.out.step hb
           have cq := (T2.below.cell (p := ⟨q, 0, none⟩) HQ.out.2).trans HQ.out.1
           obtain ⟨⟨d0, d1, d2, d3, d4, d5⟩, f0, f1, f2, f3, f4, f5⟩ := T2.r.all
           have T3 := (T2.th u).pa 0
           obtain ⟨⟨e0, e1, e2, e3, e4, e5⟩, _⟩ := T3.r.all
           dsimp only [WS.zero] at d0 d1 d2 d3 d4 d5 e0 e1 e2 e3 e4 e5
           replace T3 := keep T3
           clear hb T T2)
        | (go_at_call 22; refine (K1.out _ T3.out.below).mono ?_; rintro e w4 ⟨he, hb4⟩
           dsimp only [WS.cells] at he
           subst he
           have T4 := T3.out.step hb4
           obtain ⟨⟨x0, x1, x2, x3, x4, x5⟩, y0, y1, y2, y3, y4, y5⟩ := T4.t.all
           dsimp only [WS.zero] at x0 x1 x2 x3 x4 x5
           replace T4 := keep T4
           clear hb4 T3))
      all_goals first | exact T4.out.ret' rfl rfl rfl ⟨u, u, 0, mt, true, x⟩ | (exfalso; omega)
    · obtain rfl : d = t := by omega
      clear ht
      go_enter Try.func25, Try.ntmps25
      go_wp2_with (first
        | (go_at_call 17; refine (K0.out _).mono ?_; rintro e w2 ⟨rfl, hb⟩
           have T2 := T.out.step hb
           have cq := (T2.below.cell (p := ⟨q, 0, none⟩) HQ.out.2).trans HQ.out.1
           obtain ⟨⟨d0, d1, d2, d3, d4, d5⟩, f0, f1, f2, f3, f4, f5⟩ := T2.r.all
           have T3 := (T2.th d).pa 0
           obtain ⟨⟨e0, e1, e2, e3, e4, e5⟩, _⟩ := T3.r.all
           dsimp only [WS.zero] at d0 d1 d2 d3 d4 d5 e0 e1 e2 e3 e4 e5
           replace T3 := keep T3
           clear hb T T2)
        | (go_at_call 22; refine (K1.out _ T3.out.below).mono ?_; rintro e w4 ⟨he, hb4⟩
           dsimp only [WS.cells] at he
           subst he
           have T4 := T3.out.step hb4
           obtain ⟨⟨x0, x1, x2, x3, x4, x5⟩, y0, y1, y2, y3, y4, y5⟩ := T4.t.all
           dsimp only [WS.zero] at x0 x1 x2 x3 x4 x5
           replace T4 := keep T4
           clear hb4 T3))
      all_goals first | exact T4.out.ret' rfl rfl rfl ⟨d, d, 0, mt, true, x⟩ | (exfalso; omega)
set_option maxHeartbeats 1000000 in
theorem halvT_any (s : WS) (q : Nat) (w : World) (hq : w.cell? ⟨q, 0, none⟩ = some (.func (.func 23) #[] #[])) (hql : q < w.heap.size) :
    Calls Try.prog 25 #[.agg s.cells, .pointer (some ⟨q, 0, none⟩)] w (StPost w (if s.may = true then ⟨s.mt, s.half, 0, s.mt, false, 0⟩ else s)) := by
  have K0 := mayBe_any s
  rcases hm : s.may with _ | _
  · rw [hm] at K0
    obtain ⟨cw, th, pa, mt, re, ex⟩ := s
    have T := keep (Two.new ⟨cw, th, pa, mt, re, ex⟩ w)
    dsimp only [WS.cells] at K0 ⊢
    replace K0 := keep K0
    clear hm
    go_enter Try.func25, Try.ntmps25
    go_wp2_with (go_at_call 17; refine (K0.out _).mono ?_; rintro e w2 ⟨rfl, hb⟩
                 have T2 := T.out.step hb
                 obtain ⟨⟨d0, d1, d2, d3, d4, d5⟩, f0, f1, f2, f3, f4, f5⟩ := T2.r.all
                 obtain ⟨⟨x0, x1, x2, x3, x4, x5⟩, y0, y1, y2, y3, y4, y5⟩ := T2.t.all
                 dsimp only [WS.zero] at d0 d1 d2 d3 d4 d5 x0 x1 x2 x3 x4 x5
                 replace T2 := keep T2
                 clear hb T)
    all_goals exact T2.out.ret rfl rfl rfl
  · rw [hm] at K0
    obtain ⟨m1, m2, m3, m4⟩ := may_iff.1 hm
    obtain ⟨t, ht⟩ : ∃ t, s.half = t := ⟨_, rfl⟩
    rw [ht, if_pos rfl]
    unfold WS.half at ht
    obtain ⟨cw, th, pa, mt, re, ex⟩ := s
    dsimp only at m1 m2 m3 m4 ht
    obtain ⟨d, hd⟩ : ∃ d, cw.tdiv 2 = d := ⟨_, rfl⟩
    have hd2 : cw / 2 = d := by rw [← hd, Int.tdiv_eq_ediv_of_nonneg (by omega)]
    rw [hd2] at ht
    obtain ⟨u, hu⟩ : ∃ u, 4 * mt = u := ⟨_, rfl⟩
    rw [hu] at ht
    obtain ⟨a1, a2⟩ := wrap_in u (by omega)
    obtain ⟨a3, a4⟩ := wrap_in d (by omega)
    have n1 : ¬ 1073741824 < t := by omega
    have n2 : t ≤ 1073741824 := by omega
    have hne : ¬ q = w.heap.size := by omega
    have K1 := keep (fun (w3 : World) (hb : Below w.heap.size w w3) => Timeout1_any ⟨cw, t, 0, mt, re, ex⟩ w3)
    have T := keep (Two.new ⟨cw, th, pa, mt, re, ex⟩ w)
    have HQ := keep (And.intro hq hql)
    dsimp only [WS.cells] at K0 K1 ⊢
    replace K0 := keep K0
    clear hm m1 m2 m3 m4 hd2 hq hql
    by_cases hc : d < u
    · obtain rfl : u = t := by omega
      clear ht
      go_enter Try.func25, Try.ntmps25
      go_wp2_with (first
        | (go_at_call 17; refine (K0.out _).mono ?_; rintro e w2 ⟨rfl, hb⟩
           have T2 := T.out.step hb
           have cq := (T2.below.cell (p := ⟨q, 0, none⟩) HQ.out.2).trans HQ.out.1
           obtain ⟨⟨d0, d1, d2, d3, d4, d5⟩, f0, f1, f2, f3, f4, f5⟩ := T2.r.all
           have T3 := (T2.th u).pa 0
           obtain ⟨⟨e0, e1, e2, e3, e4, e5⟩, _⟩ := T3.r.all
           dsimp only [WS.zero] at d0 d1 d2 d3 d4 d5 e0 e1 e2 e3 e4 e5
           replace T3 := keep T3
           clear hb T T2)
        | (go_at_call 23; refine (K1.out _ T3.out.below).mono ?_; rintro e w4 ⟨he, hb4⟩
           dsimp only [WS.cells] at he
           subst he
           have T4 := T3.out.step hb4
           obtain ⟨⟨x0, x1, x2, x3, x4, x5⟩, y0, y1, y2, y3, y4, y5⟩ := T4.t.all
           dsimp only [WS.zero] at x0 x1 x2 x3 x4 x5
           replace T4 := keep T4
           clear hb4 T3))
      all_goals first | exact T4.out.ret' rfl rfl rfl ⟨mt, u, 0, mt, false, 0⟩ | (exfalso; omega)
    · obtain rfl : d = t := by omega
      clear ht
      go_enter Try.func25, Try.ntmps25
      go_wp2_with (first
        | (go_at_call 17; refine (K0.out _).mono ?_; rintro e w2 ⟨rfl, hb⟩
           have T2 := T.out.step hb
           have cq := (T2.below.cell (p := ⟨q, 0, none⟩) HQ.out.2).trans HQ.out.1
           obtain ⟨⟨d0, d1, d2, d3, d4, d5⟩, f0, f1, f2, f3, f4, f5⟩ := T2.r.all
           have T3 := (T2.th d).pa 0
           obtain ⟨⟨e0, e1, e2, e3, e4, e5⟩, _⟩ := T3.r.all
           dsimp only [WS.zero] at d0 d1 d2 d3 d4 d5 e0 e1 e2 e3 e4 e5
           replace T3 := keep T3
           clear hb T T2)
        | (go_at_call 23; refine (K1.out _ T3.out.below).mono ?_; rintro e w4 ⟨he, hb4⟩
           dsimp only [WS.cells] at he
           subst he
           have T4 := T3.out.step hb4
           obtain ⟨⟨x0, x1, x2, x3, x4, x5⟩, y0, y1, y2, y3, y4, y5⟩ := T4.t.all
           dsimp only [WS.zero] at x0 x1 x2 x3 x4 x5
           replace T4 := keep T4
           clear hb4 T3))
      all_goals first | exact T4.out.ret' rfl rfl rfl ⟨mt, d, 0, mt, false, 0⟩ | (exfalso; omega)
end Go.Proofs.Ytjogpkkokblmoaa
