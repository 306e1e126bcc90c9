/- The reference: which message chunks are. -/
import Derived.Test.YtbfmklbffmodjaaSp5
import Derived.Deep.RegionHeld3
import Derived.Test.YtbfmklbffmodjaaAppK
namespace Go.Proofs.Ytbfmklbffmodjaa
open Go.RowKit
set_option linter.unusedVariables false

theorem wrap_in (x : Int) (h : -9223372036854775808 ≤ x ∧ x ≤ 9223372036854775807) : IntKind.i64.wrap x = x ∧ wrap64 x = x := by
  constructor <;> simp [IntKind.wrap, IntKind.signed, IntKind.bits, wrap64] <;> omega
theorem Msg_size : (Try.prog.info? 26).map (·.size) = some 4 := by kernel_rfl
/-- A message's block. -/
def MB (w : World) (g : Nat) (x : MX) : Prop := w.heap[g]? = some (.cells x.cells.toArray 26 (0, 0))
theorem MB.lt {w : World} {g : Nat} {x : MX} (h : MB w g x) : g < w.heap.size := (Array.getElem?_eq_some_iff.1 h).1
theorem MB.at_ {w : World} {g : Nat} {x : MX} (h : MB w g x) (j : Nat) (v : Value) (hv : x.cells.toArray[j]? = some v) : w.cell? ⟨g, j, none⟩ = some v := by rw [cell_of_row _ _ _ _ _ _ h]; exact hv
theorem MB.fz {w : World} {g : Nat} {x : MX} (h : MB w g x) (j : Nat) : w.frozen? ⟨g, j, none⟩ = false := frozen_of_row w g j _ _ h
theorem MB.all {w : World} {g : Nat} {x : MX} (h : MB w g x) :
    (w.cell? ⟨g, 0, none⟩ = some (.int .u16 x.st) ∧ w.cell? ⟨g, 1, none⟩ = some (.bool x.un) ∧ w.cell? ⟨g, 2, none⟩ = some (.int .u32 x.pp) ∧ w.cell? ⟨g, 3, none⟩ = some (.slice x.da.1 x.da.2.1 x.da.2.2)) ∧
    (w.frozen? ⟨g, 0, none⟩ = false ∧ w.frozen? ⟨g, 1, none⟩ = false ∧ w.frozen? ⟨g, 2, none⟩ = false ∧ w.frozen? ⟨g, 3, none⟩ = false) :=
  ⟨⟨h.at_ 0 _ rfl, h.at_ 1 _ rfl, h.at_ 2 _ rfl, h.at_ 3 _ rfl⟩, h.fz 0, h.fz 1, h.fz 2, h.fz 3⟩
theorem ret_msg_ok {fn : Func} {p u : Tmp} (hr : fn.results = #[.cell p 26, .tmp u]) (tmps : Array Value) (w : World) (g : Nat) (x : MX) (hp : tmps.getD p undef = .pointer (some ⟨g, 0, none⟩)) (h : MB w g x) :
    (results fn tmps).run Try.prog w = .ok (.tuple #[.agg x.cells.toArray, tmps.getD u undef]) w := by
  rw [results_cell_tmp hr, hp]
  have := run_loadVar_row w g _ 26 x.cells.toArray (0, 0) _ h Try.underlying26 rfl Msg_size
  simp [asAddr, this]
theorem At12.step {w w' : World} {b o : Nat} {x : CX} (h : At12 w b o x) (hb : Below w.heap.size w w') (hlt : b < w.heap.size) : At12 w' b o x := by
  have k : ∀ (j : Nat) (v : Value), w.cell? ⟨b, j, none⟩ = some v → w'.cell? ⟨b, j, none⟩ = some v := fun j v h => (hb.cell (p := ⟨b, j, none⟩) hlt).trans h
  obtain ⟨c0, c1, c2, c3, c4, c5, c6, c7, c8, c9, c10, c11⟩ := h
  exact ⟨k _ _ c0, k _ _ c1, k _ _ c2, k _ _ c3, k _ _ c4, k _ _ c5, k _ _ c6, k _ _ c7, k _ _ c8, k _ _ c9, k _ _ c10, k _ _ c11⟩
def MX.zero : MX := ⟨0, false, 0, (none, 0, 0), []⟩
/-- What a call that tells a message leaves. -/
def TellM (w : World) (o : Option Msg) (e : Ending) (w' : World) : Prop :=
  ∃ x : MX, e = .returned (.tuple #[.agg x.cells.toArray, .bool o.isSome]) ∧ MV w' x ∧ x.msg = o.getD ⟨0, false, 0, []⟩ ∧ Below w.heap.size w w'
def wholeO (l : List Ch) : Option Msg := if whole l = true then some (msgOf l) else none

set_option maxHeartbeats 1000000 in
theorem refWhole_none (A : Option Addr) (c : Nat) (w : World) : Calls Try.prog 14 #[.slice A 0 c] w (TellM w none) := by
  go_enter Try.func14, Try.ntmps14
  go_wp2_with fail
  refine bodyPost_ret (ret_msg_ok rfl _ _ w.heap.size MX.zero rfl (heap_alloc_new w _)) rfl ?_
  exact ⟨MX.zero, rfl, ⟨by decide, by decide, BS.nil _⟩, rfl, below_lay w _⟩
/-- While the reference gathers: its message's block g, its result's block, and the row of octets. -/
structure WJ (w : World) (g : Nat) (mx : MX) (wr : World) : Prop where
  m : MB wr g mx
  r : MB wr w.heap.size MX.zero
  own : wr.ownsRow (g + 1) 5 1 (.slice mx.da.1 mx.da.2.1 mx.da.2.2) mx.da.2.1 (bc mx.bs)
  below : Below w.heap.size w wr
  gw : w.heap.size < g
  sz : g + 1 ≤ wr.heap.size
theorem cell_else {W : World} {k j : Nat} {p : Addr} (h : p.block ≠ k) (v : Value) : (W.setCell ⟨k, j, none⟩ v).cell? p = W.cell? p := by
  have e := heap_setCell_other W ⟨k, j, none⟩ p.block v h
  unfold World.cell?
  rw [e]
theorem WJ.drewN {w : World} {g : Nat} {mx : MX} {wr : World} (h : WJ w g mx wr) (k : Nat) : WJ w g mx (wr.drewN k) := ⟨h.m, h.r, h.own, below_drewN h.below k, h.gw, h.sz⟩
theorem WJ.step {w : World} {g : Nat} {mx : MX} {wr w2 : World} (h : WJ w g mx wr) (hb : Below wr.heap.size wr w2) : WJ w g mx w2 := by
  refine ⟨(hb.block g h.m.lt).trans h.m, (hb.block _ h.r.lt).trans h.r, ⟨h.own.1, ?_⟩, h.below.trans (hb.mono h.below.size), h.gw, Nat.le_trans h.sz hb.size⟩
  rcases h.own.2 with h0 | ⟨k, cap, cur, hv, hk, hg, r⟩
  · exact .inl h0
  · exact .inr ⟨k, cap, cur, hv, hk, (hb.block k (Array.getElem?_eq_some_iff.1 hg).1).trans hg, r⟩
theorem WJ.app {w : World} {g : Nat} {mx : MX} {wr w2 : World} (h : WJ w g mx wr) {A' : Option Addr} {m c' : Nat} {ubs : List UInt8} (ho : w2.ownsRow (g + 1) 5 1 (.slice A' (mx.da.2.1 + m) c') (mx.da.2.1 + m) (bc mx.bs ++ bc ubs)) (hb : Below (g + 1) wr w2) :
    WJ w g ⟨mx.st, mx.un, mx.pp, (A', mx.da.2.1 + m, c'), mx.bs ++ ubs⟩ (w2.setCell ⟨g, 3, none⟩ (.slice A' (mx.da.2.1 + m) c')) := by
  have m2 : MB w2 g mx := (hb.block g (by omega)).trans h.m
  have r2 : MB w2 w.heap.size MX.zero := (hb.block _ (by have := h.gw; omega)).trans h.r
  refine ⟨heap_setCell_same w2 g 3 _ _ _ m2, (heap_setCell_other w2 ⟨g, 3, none⟩ w.heap.size _ (by have := h.gw; show w.heap.size ≠ g; omega)).trans r2, ?_, (h.below.trans (hb.mono (by have := h.gw; omega))).setCell (p := ⟨g, 3, none⟩) (Nat.le_of_lt h.gw) _, h.gw, ?_⟩
  · rw [bc_append]
    exact ownsRow_setCell_below ho (a := ⟨g, 3, none⟩) (Nat.lt_succ_self g) _
  · have := hb.size
    have := h.sz
    simp
    omega
theorem flat_len_le {l : List CX} {D : Nat} (h : ∀ x ∈ l, x.bs.length ≤ D) (j : Nat) : ((l.take j).flatMap CX.bs).length ≤ j * D := by
  induction j generalizing l with
  | zero => simp
  | succ j ih =>
    cases l with
    | nil => simp
    | cons x r =>
      rw [List.take_succ_cons, List.flatMap_cons, List.length_append, Nat.add_mul, Nat.one_mul]
      have := ih (l := r) fun y hy => h y (List.mem_cons_of_mem _ hy)
      have := h x (by simp)
      omega
theorem u8_info : (Try.prog.info? 5).map (fun i => (i.zero, i.size, i.bytes)) = some (some (.int .u8 0), 1, 1) := by kernel_rfl
theorem MB.laid {w : World} {g : Nat} {u : MX} (h : MB w g u) (x : MX) : MB ((((w.setCell ⟨g, 0, none⟩ (.int .u16 x.st)).setCell ⟨g, 1, none⟩ (.bool x.un)).setCell ⟨g, 2, none⟩ (.int .u32 x.pp)).setCell ⟨g, 3, none⟩ (.slice x.da.1 x.da.2.1 x.da.2.2)) g x := by
  exact heap_setCell_same _ g 3 _ _ _ (heap_setCell_same _ g 2 _ _ _ (heap_setCell_same _ g 1 _ _ _ (heap_setCell_same w g 0 _ _ _ h)))
theorem MB.below {w0 w : World} {g : Nat} (h : Below g w0 w) (x : MX) : Below g w0 ((((w.setCell ⟨g, 0, none⟩ (.int .u16 x.st)).setCell ⟨g, 1, none⟩ (.bool x.un)).setCell ⟨g, 2, none⟩ (.int .u32 x.pp)).setCell ⟨g, 3, none⟩ (.slice x.da.1 x.da.2.1 x.da.2.2)) :=
  (((h.setCell (p := ⟨g, 0, none⟩) (Nat.le_refl _) _).setCell (p := ⟨g, 1, none⟩) (Nat.le_refl _) _).setCell (p := ⟨g, 2, none⟩) (Nat.le_refl _) _).setCell (p := ⟨g, 3, none⟩) (Nat.le_refl _) _
theorem MB.own {w : World} {g base n c : Nat} {A : Option Addr} {bs : List UInt8} (h : w.ownsRow base 5 1 (.slice A n c) n (bc bs)) (hg : g < base) (x : MX) : BS ((((w.setCell ⟨g, 0, none⟩ (.int .u16 x.st)).setCell ⟨g, 1, none⟩ (.bool x.un)).setCell ⟨g, 2, none⟩ (.int .u32 x.pp)).setCell ⟨g, 3, none⟩ (.slice x.da.1 x.da.2.1 x.da.2.2)) A n c bs := by
  have h4 := ownsRow_setCell_below (ownsRow_setCell_below (ownsRow_setCell_below (ownsRow_setCell_below h (a := ⟨g, 0, none⟩) hg (.int .u16 x.st)) (a := ⟨g, 1, none⟩) hg (.bool x.un)) (a := ⟨g, 2, none⟩) hg (.int .u32 x.pp)) (a := ⟨g, 3, none⟩) hg (.slice x.da.1 x.da.2.1 x.da.2.2)
  obtain ⟨A', c', he, hc, _⟩ := own_shape2' h4
  injection he with _ _ e3
  have hl := h4.1
  rw [bc_length, Nat.mul_one] at hl
  exact ⟨hl.symm, by omega, BR.of_own h4⟩
theorem whole_make {l : List Ch} {x y : Ch} (hx : l[0]? = some x) (hy : l.getLast? = some y) (hk : x.kd = 0) (hb : x.fl / 2 % 2 = 1) (he : y.fl % 2 = 1) (hc : chain l = true) : whole l = true ∧ msgOf l = ⟨x.ou, decide (x.fl / 4 % 2 = 1), x.pp, l.flatMap Ch.da⟩ := by
  cases l with
  | nil => simp at hx
  | cons z t =>
    simp at hx
    subst hx
    refine ⟨?_, rfl⟩
    unfold whole
    dsimp only
    have : lastEnd (z :: t) = true := by unfold lastEnd; rw [hy]; simp [he]
    rw [this, hc]
    simp [hk, hb]
theorem chain_take {l : List Ch} {j : Nat} {x y : Ch} (h : chain (l.take j) = true) (hx : l[j - 1]? = some x) (hy : l[j]? = some y) (hj : 0 < j) (hf : fol x y = true) : chain (l.take (j + 1)) = true := by
  refine chain_of _ fun i u v hu hv => ?_
  rw [List.getElem?_take] at hu hv
  split at hv
  · rename_i h1
    rw [if_pos (by omega)] at hu
    by_cases hij : i + 1 = j
    · have e1 : i = j - 1 := by omega
      rw [e1, hx] at hu
      rw [hij, hy] at hv
      injection hu with hu
      injection hv with hv
      rw [← hu, ← hv]
      exact hf
    · refine chain_get (l.take j) i u v h ?_ ?_
      · rw [List.getElem?_take, if_pos (by omega)]; exact hu
      · rw [List.getElem?_take, if_pos (by omega)]; exact hv
  · cases hv
set_option maxHeartbeats 1000000 in
theorem refWhole_head (b o q c : Nat) (l : List CX) (w : World) (hbl : b < w.heap.size) (h : CS w (some ⟨b, o, none⟩) (q + 1) c l) (x y : CX) (hat : At12 w b o x) (hat' : At12 w b (o + q * 12) y) (bx : CB x) (hy' : CB y) (hk : x.kd = 0) (hb : x.fl / 2 % 2 = 1) (he : y.fl % 2 = 1) (hx0 : l[0]? = some x) (hyq : l[q]? = some y) (hq : q ≤ 1000000) (hD : ∀ x ∈ l, x.bs.length ≤ 20000) (r : Option Msg) (hr : r = wholeO (l.map CX.ch)) :
    Calls Try.prog 14 #[.slice (some ⟨b, o, none⟩) (q + 1) c] w (TellM w r) := by
  have HC := keep h
  have HD := keep hD
  have HRr := keep hr
  have HW : Hid ((chain (l.map CX.ch) = true → r = some ⟨x.ou, decide (x.fl / 4 % 2 = 1), x.pp, l.flatMap CX.bs⟩) ∧ (∀ i u v, l[i]? = some u → l[i + 1]? = some v → fol u.ch v.ch = false → r = none)) := by
    refine keep ⟨fun hc => ?_, fun i u v hu hv hf => ?_⟩
    · have := whole_make (l := l.map CX.ch) (x := x.ch) (y := y.ch) (by rw [List.getElem?_map, hx0]; rfl) (by rw [List.getLast?_eq_getElem?, List.length_map, ← h.1, List.getElem?_map, Nat.add_sub_cancel, hyq]; rfl) hk hb he hc
      rw [hr, wholeO, if_pos this.1, this.2, List.flatMap_map]
      rfl
    · rw [hr, wholeO, if_neg]
      rw [whole_break (l := l.map CX.ch) (i := i) (x := u.ch) (y := v.ch) (by rw [List.getElem?_map, hu]; rfl) (by rw [List.getElem?_map, hv]; rfl) hf]
      decide
  have HLn := keep h.1
  clear hD hr hx0 hyq
  obtain ⟨i0, hi0, hz0, hz1, hz2⟩ := info_parts u8_info
  have hn : 0 < (q : Int) + 1 := by omega
  have hz : ((q : Int) + 1 == 0) = false := by simp; omega
  obtain ⟨hw2, hw1⟩ := wrap_in (q : Int) (by omega)
  have hf := bx.fl
  have hf' := hy'.fl
  have BO := keep bx.ou
  have BP := keep bx.pp
  have HA := keep (hat.step (below_lay w (.cells MX.zero.cells.toArray 26)) hbl)
  have HR := keep (show MB (w.alloc (.cells MX.zero.cells.toArray 26)) w.heap.size MX.zero from heap_alloc_new w _)
  have HB := keep (below_lay w (.cells MX.zero.cells.toArray 26))
  clear h bx hy'
  obtain ⟨xk, xf, xa, xb, xo, xs, xp, ⟨x1, x2, x3⟩, ⟨x4, x5, x6⟩, ⟨x7, x8, x9⟩, ⟨x10, x11, x12⟩, ⟨x13, x14, x15⟩, xps, xbs⟩ := x
  obtain ⟨yk, yf, ya, yb, yo, ys, yp, ⟨y1, y2, y3⟩, ⟨y4, y5, y6⟩, ⟨y7, y8, y9⟩, ⟨y10, y11, y12⟩, ⟨y13, y14, y15⟩, yps, ybs⟩ := y
  dsimp only [At12] at hat hat' hk hb he hf hf'
  obtain ⟨c0, c1, c2, c3, c4, c5, c6, c7, c8, c9, c10, c11⟩ := hat
  obtain ⟨d0, d1, d2, d3, d4, d5, d6, d7, d8, d9, d10, d11⟩ := hat'
  subst hk
  go_enter Try.func14, Try.ntmps14
  go_wp2_with fail
  dsimp only [MX.cells, MX.zero] at HA HR HB
  clear c0 c1 c2 c3 c4 c5 c6 c7 c8 c9 c10 c11 d0 d1 d2 d3 d4 d5 d6 d7 d8 d9 d10 d11
  have hbW : b < (w.alloc (.cells [Value.int .u16 0, .bool false, .int .u32 0, .slice none 0 0].toArray 26)).heap.size := Nat.lt_of_lt_of_le hbl HB.out.size
  generalize w.alloc _ = W at HA HR HB hbW ⊢
  obtain ⟨c0, c1, c2, c3, c4, c5, c6, c7, c8, c9, c10, c11⟩ := HA.out
  dsimp only at c0 c1 c2 c3 c4 c5 c6 c7 c8 c9 c10 c11
  go_region_held3 (fun w' => w'.cell? ⟨b, o + 1, none⟩ = some (.int .u8 xf) ∧ w'.cell? ⟨b, o + 4, none⟩ = some (.int .u16 xo) ∧ w'.cell? ⟨b, o + 6, none⟩ = some (.int .u32 xp)) (first | exact ⟨c1, c4, c6⟩ | go_keep) (fail)
  go_wp2_with fail
  obtain ⟨un, hU⟩ : ∃ u, ((IntKind.u8.wrap (xf.tdiv 4)).tmod 2 == 1) = u := ⟨_, rfl⟩
  rw [hU]
  have HU : un = decide (xf / 4 % 2 = 1) := by
    rw [← hU, Int.tdiv_eq_ediv_of_nonneg hf.1]
    have : IntKind.u8.wrap (xf / 4) = xf / 4 := by simp [IntKind.wrap, IntKind.signed, IntKind.bits]; omega
    rw [this, Int.tmod_eq_emod_of_nonneg (by omega)]
    rfl
  replace HU := keep HU
  have lw := below_lay W (.cells [Value.int .u16 xo, .bool un, .int .u32 xp, .slice none 0 0].toArray 26)
  have J0 := keep (show WJ w W.heap.size ⟨xo, un, xp, (none, 0, 0), []⟩ (W.alloc (.cells [Value.int .u16 xo, .bool un, .int .u32 xp, .slice none 0 0].toArray 26)).drew from
    ⟨heap_alloc_new W _, (lw.block _ HR.out.lt).trans HR.out, World.ownsRow_nil _ _ _ _, (HB.out.trans (lw.mono HB.out.size)).drew, HR.out.lt, by simp⟩)
  generalize hg : W.heap.size = g at J0 ⊢
  clear hU HR HB HA lw hbW c0 c1 c2 c3 c4 c5 c6 c7 c8 c9 c10 c11
  go_loopw [5] (fun i wr => ∃ (j : Nat) (A : Option Addr) (N c' : Nat), i = .int .i64 j ∧ j ≤ q + 1 ∧ Hid (WJ w g ⟨xo, un, xp, (A, N, c'), (l.take j).flatMap CX.bs⟩ wr ∧ chain ((l.take j).map CX.ch) = true)) (fun i _ => q + 1 - (intOf i).toNat)
  case atStart => exact ⟨0, none, 0, 0, rfl, Nat.zero_le _, keep ⟨J0.out, rfl⟩⟩
  case round =>
    obtain ⟨j, A, N, c', rfl, hj, HJ⟩ := hrel
    clear J0
    by_cases hlt : j < q + 1
    · obtain ⟨b', o', u, hA, hbl', hat, hlj, hv⟩ := (HC.out.step HJ.out.1.below).at_ hlt
      injection hA with hA
      injection hA with e1 e2
      subst e1 e2
      have HV := keep hv
      have HLJ := keep hlj
      clear hv hlj
      obtain ⟨uk, uf, ua, ub, uo, us, up, ⟨u1, u2, u3⟩, ⟨u4, u5, u6⟩, ⟨u7, u8, u9⟩, ⟨u10, u11, u12⟩, ⟨u13, u14, u15⟩, ups, ubs⟩ := u
      dsimp only [At12] at hat
      obtain ⟨c0, c1, c2, c3, c4, c5, c6, c7, c8, c9, c10, c11⟩ := hat
      have hlt' : (j : Int) < (q : Int) + 1 := by clear hw1 hw2; omega
      rcases Nat.eq_zero_or_pos j with hj0 | hj0
      · subst hj0
        simp only [Nat.zero_mul, Nat.add_zero] at c0 c1 c2 c3 c4 c5 c6 c7 c8 c9 c10 c11
        have HB9 : N + u14 ≤ 40000000000 := by
          have e1 : (bc _).length = N * 1 := HJ.out.1.own.1
          rw [bc_length] at e1
          have e2 := flat_len_le HD.out 0
          have e3 : u14 = ubs.length := HV.out.bs.len
          have e4 : ubs.length ≤ 20000 := HD.out _ (List.mem_of_getElem? HLJ.out)
          dsimp only at e1
          (clear hw1 hw2; omega)
        replace HB9 := keep HB9
        go_wp2_with fail
        go_quiet (fail)
        go_wp2_with fail
        have HJ1 := keep (HJ.out.1.drewN nq)
        have k11 : (wr.drewN nq).cell? ⟨b, o + 11, none⟩ = some (.slice u13 u14 u15) := c11
        have HV9 := keep (HV.out.step (below_drewN (Below.refl _ _) nq))
        generalize wr.drewN nq = W9 at HJ1 k11 HV9 ⊢
        clear c0 c1 c2 c3 c4 c5 c6 c7 c8 c9 c10 c11
        obtain ⟨⟨m0, m1, m2, m3⟩, mf0, mf1, mf2, mf3⟩ := HJ1.out.m.all
        dsimp only at m0 m1 m2 m3
        refine wp_region_held_drew (S := (fun w' => w'.cell? ⟨b, o + 11, none⟩ = some (.slice u13 u14 u15))) (by kernel_rfl) k11 (fun hHeld => ?_)
        refine wpAnyH_take (i := 0) (oi := { dst := Option.some 75, op := Go.Op.fieldAddr 26 (Go.Operand.tmp 4) 3, type := 0, pos := "ref.go:55", after := #[], guard := Option.none }) (v := ?vz0) rfl (by kernel_rfl) (by kernel_rfl) (by kernel_rfl) (fun _ _ _ h => h) (Or.inl ⟨by rfl, ?hyz0⟩) (by assumption) ?restz0
        case hyz0 => (intro wz hSw; (try dsimp only at hSw); go_simp <;> (try with_reducible rfl))
        try simp only [Act.put, List.setIfInBounds_toArray, List.set_cons_zero, List.set_cons_succ]
        refine wpAnyH_take (i := 2) (oi := { dst := Option.some 77, op := Go.Op.move (Go.Operand.tmp 0), type := 28, pos := "ref.go:55", after := #[], guard := Option.none }) (v := ?vz2) rfl (by kernel_rfl) (by kernel_rfl) (by kernel_rfl) (fun _ _ _ h => h) (Or.inl ⟨by rfl, ?hyz2⟩) (by assumption) ?restz2
        case hyz2 => (intro wz hSw; (try dsimp only at hSw); go_simp <;> (try with_reducible rfl))
        try simp only [Act.put, List.setIfInBounds_toArray, List.set_cons_zero, List.set_cons_succ]
        refine wpAnyH_take (i := 3) (oi := { dst := Option.some 78, op := Go.Op.move (Go.Operand.tmp 5), type := 3, pos := "ref.go:55", after := #[], guard := Option.none }) (v := ?vz3) rfl (by kernel_rfl) (by kernel_rfl) (by kernel_rfl) (fun _ _ _ h => h) (Or.inl ⟨by rfl, ?hyz3⟩) (by assumption) ?restz3
        case hyz3 => (intro wz hSw; (try dsimp only at hSw); go_simp <;> (try with_reducible rfl))
        try simp only [Act.put, List.setIfInBounds_toArray, List.set_cons_zero, List.set_cons_succ]
        refine wpAnyH_take (i := 4) (oi := { dst := Option.some 79, op := Go.Op.indexAddr 28 (Go.Operand.tmp 77) (Go.Operand.tmp 78), type := 0, pos := "ref.go:55", after := #[{ on := 2, ground := Go.Ground.data }, { on := 3, ground := Go.Ground.data }], guard := Option.none }) (v := ?vz4) rfl (by kernel_rfl) (by kernel_rfl) (by kernel_rfl) (fun _ _ _ h => h) (Or.inl ⟨by rfl, ?hyz4⟩) (by assumption) ?restz4
        case hyz4 => (intro wz hSw; (try dsimp only at hSw); go_simp <;> (try with_reducible rfl))
        try simp only [Act.put, List.setIfInBounds_toArray, List.set_cons_zero, List.set_cons_succ]
        refine wpAnyH_take (i := 5) (oi := { dst := Option.some 80, op := Go.Op.fieldAddr 39 (Go.Operand.tmp 79) 11, type := 0, pos := "ref.go:55", after := #[{ on := 4, ground := Go.Ground.data }], guard := Option.none }) (v := ?vz5) rfl (by kernel_rfl) (by kernel_rfl) (by kernel_rfl) (fun _ _ _ h => h) (Or.inl ⟨by rfl, ?hyz5⟩) (by assumption) ?restz5
        case hyz5 => (intro wz hSw; (try dsimp only at hSw); go_simp <;> (try with_reducible rfl))
        try simp only [Act.put, List.setIfInBounds_toArray, List.set_cons_zero, List.set_cons_succ]
        refine wpAnyH_take (i := 6) (oi := { dst := Option.some 81, op := Go.Op.load 24 (Go.Operand.tmp 80), type := 24, pos := "ref.go:55", after := #[{ on := 5, ground := Go.Ground.data }], guard := Option.none }) (v := ?vz6) rfl (by kernel_rfl) (by kernel_rfl) (by kernel_rfl) (fun _ _ _ h => h) (Or.inl ⟨by rfl, ?hyz6⟩) (by assumption) ?restz6
        case hyz6 => (intro wz hSw; (try dsimp only at hSw); go_simp <;> (try with_reducible rfl))
        try simp only [Act.put, List.setIfInBounds_toArray, List.set_cons_zero, List.set_cons_succ]
        refine wpAnyH_ready (rs := [1]) (by kernel_rfl) (by simp) (AllReadyH.cons (o := { dst := Option.some 76, op := Go.Op.load 24 (Go.Operand.tmp 75), type := 24, pos := "ref.go:55", after := #[{ on := 0, ground := Go.Ground.data }], guard := Option.none }) rfl (fun K hK => ?_) AllReadyH.nil)
        go_simp
        refine hK.out _ _ k11 (fun hHeld => ?_)
        clear hK K
        try simp only [Act.put, List.setIfInBounds_toArray, List.set_cons_zero, List.set_cons_succ]
        refine wpAnyH_ready (rs := [7]) (by kernel_rfl) (by simp) (AllReadyH.cons (o := { dst := Option.some 82, op := Go.Op.call { callee := Go.Callee.builtin Go.Builtin.append, args := #[Go.Operand.tmp 76, Go.Operand.tmp 81], argTypes := #[24, 24] }, type := 24, pos := "ref.go:55", after := #[{ on := 1, ground := Go.Ground.data }, { on := 6, ground := Go.Ground.data }], guard := Option.none }) rfl (fun K hK => ?_) AllReadyH.nil)
        refine step_appendK (by decide) rfl (.tmp 76) (.tmp 81) 24 rfl (g + 1) 5 i0 (.int .u8 0) Try.underlying24 hi0 hz0 hz1 rfl _ N _ rfl HJ1.out.own.drew u13 u14 u15 (bc ubs) rfl (by rw [Nat.mul_one, bc_length]; exact HV9.out.bs.len) ((HV9.out.bs.step (Below.refl _ _).drew).br.sr) (bc_one ubs) (by have := HB9.out; unfold maxLen; (clear hw1 hw2; omega)) (by rw [hz2, Nat.mul_one]; have := HB9.out; (clear hw1 hw2; omega)) HJ1.out.sz ?_
        intro A2 c2 w2 ho2 hb2
        have k11' := (hb2.cell (p := ⟨b, o + 11, none⟩) (by have := HJ1.out.gw; show b < g + 1; (clear hw1 hw2; omega))).trans k11
        have HJ2 := keep ((WJ.drewN HJ1.out 1).app ho2.out hb2)
        obtain ⟨⟨m0, m1, m2, m3⟩, mf0, mf1, mf2, mf3⟩ := (show MB w2 g _ from (hb2.block g (Nat.lt_succ_self g)).trans HJ1.out.m).all
        dsimp only at m0 m1 m2 m3
        refine hK.out _ _ k11' (fun hHeld => ?_)
        clear hK K
        try simp only [Act.put, List.setIfInBounds_toArray, List.set_cons_zero, List.set_cons_succ]
        refine wpAnyH_take (i := 8) (oi := { dst := Option.some 83, op := Go.Op.fieldAddr 26 (Go.Operand.tmp 4) 3, type := 0, pos := "ref.go:55", after := #[{ on := 0, ground := Go.Ground.phase }, { on := 1, ground := Go.Ground.phase }, { on := 2, ground := Go.Ground.phase }, { on := 3, ground := Go.Ground.phase }, { on := 4, ground := Go.Ground.phase }, { on := 5, ground := Go.Ground.phase }, { on := 6, ground := Go.Ground.phase }, { on := 7, ground := Go.Ground.phase }], guard := Option.none }) (v := ?vz8) rfl (by kernel_rfl) (by kernel_rfl) (by kernel_rfl) (fun _ _ _ h => h) (Or.inl ⟨by rfl, ?hyz8⟩) (by assumption) ?restz8
        case hyz8 => (intro wz hSw; (try dsimp only at hSw); go_simp <;> (try with_reducible rfl))
        try simp only [Act.put, List.setIfInBounds_toArray, List.set_cons_zero, List.set_cons_succ]
        refine wpAnyH_ready (rs := [9]) (by kernel_rfl) (by simp) (AllReadyH.cons (o := { dst := Option.none, op := Go.Op.store 24 (Go.Operand.tmp 83) (Go.Operand.tmp 82), type := 0, pos := "ref.go:55", after := #[{ on := 8, ground := Go.Ground.data }, { on := 7, ground := Go.Ground.data }, { on := 7, ground := Go.Ground.chain }, { on := 0, ground := Go.Ground.phase }, { on := 1, ground := Go.Ground.phase }, { on := 2, ground := Go.Ground.phase }, { on := 3, ground := Go.Ground.phase }, { on := 4, ground := Go.Ground.phase }, { on := 5, ground := Go.Ground.phase }, { on := 6, ground := Go.Ground.phase }, { on := 7, ground := Go.Ground.phase }], guard := Option.none }) rfl (fun K hK => ?_) AllReadyH.nil)
        go_simp
        (try go_wp2_with fail)
        refine hK.out _ _ ((cell_else (W := w2) (k := g) (j := 3) (p := ⟨b, o + 11, none⟩) (by have := HJ1.out.gw; show b ≠ g; (clear hw1 hw2; omega)) _).trans k11') (fun hHeld => ?_)
        clear hK K
        try simp only [Act.put, List.setIfInBounds_toArray, List.set_cons_zero, List.set_cons_succ]
        refine wpAnyH_done (by kernel_rfl) ?_ _
        go_wp2_with fail
        go_roundw
        case rel =>
          refine ⟨1, A2, N + u14, c2, by go_num, by (clear hw1 hw2; omega), keep ⟨?_, ?_⟩⟩
          · have := HJ2.out
            rw [show (l.take 1).flatMap CX.bs = (l.take 0).flatMap CX.bs ++ ubs by rw [show (1 : Nat) = 0 + 1 from rfl, List.take_add_one, HLJ.out]; simp]
            exact this
          · rw [show (1 : Nat) = 0 + 1 from rfl, List.take_add_one, HLJ.out]
            rfl
        case measure => simp [intOf]
      · obtain ⟨i, hij⟩ : ∃ i, j = i + 1 := ⟨j - 1, by (clear hw1 hw2; omega)⟩
        have hjm : (j : Int) - 1 = (i : Int) := by (clear hw1 hw2; omega)
        have hj0' : 0 < (j : Int) := by (clear hw1 hw2; omega)
        have hlti : (i : Int) < (q : Int) + 1 := by (clear hw1 hw2; omega)
        have HJQ := keep (show j + 1 ≤ q + 1 from hlt)
        have HLJ' := keep (show l[i + 1]? = some _ from by rw [← hij]; exact HLJ.out)
        obtain ⟨b', o', p, hA, hblp, hatp, hlp, hvp⟩ := (HC.out.step HJ.out.1.below).at_ (j := i) (by (clear hw1 hw2; omega))
        injection hA with hA
        injection hA with e1 e2
        subst e1 e2
        obtain ⟨f, hf1⟩ : ∃ f, fol p.ch (CX.mk uk uf ua ub uo us up (u1, u2, u3) (u4, u5, u6) (u7, u8, u9) (u10, u11, u12) (u13, u14, u15) ups ubs).ch = f := ⟨_, rfl⟩
        have KF := fun w2 => refFollows_any p (CX.mk uk uf ua ub uo us up (u1, u2, u3) (u4, u5, u6) (u7, u8, u9) (u10, u11, u12) (u13, u14, u15) ups ubs) hvp.cb HV.out.cb w2
        rw [hf1] at KF
        have HF := keep hf1
        have HLP := keep hlp
        clear hf1 hlp hvp
        have HPc := fun (hh : f = false) => HW.out.2 i p _ HLP.out HLJ'.out (HF.out.trans hh)
        have HCc := fun (hh : f = true) (hc : chain ((l.take j).map CX.ch) = true) => show chain ((l.take (j + 1)).map CX.ch) = true from by
          rw [List.map_take] at hc ⊢
          exact chain_take hc (by rw [hij, Nat.add_sub_cancel, List.getElem?_map, HLP.out]; rfl) (by rw [List.getElem?_map, HLJ.out]; rfl) (by (clear hw1 hw2; omega)) (HF.out.trans hh)
        obtain ⟨pk, pf, pa, pb, po, ps', pp', ⟨p1, p2, p3⟩, ⟨p4, p5, p6⟩, ⟨p7, p8, p9⟩, ⟨p10, p11, p12⟩, ⟨p13, p14, p15⟩, pps, pbs⟩ := p
        dsimp only [At12] at hatp
        obtain ⟨d0, d1, d2, d3, d4, d5, d6, d7, d8, d9, d10, d11⟩ := hatp
        dsimp only [CX.cells] at KF
        replace KF := keep KF
        replace HPc := keep HPc
        replace HCc := keep HCc
        obtain ⟨hi2, hi1⟩ := wrap_in (i : Int) (by clear hw1 hw2; omega)
        obtain ⟨hjw2, hjw1⟩ := wrap_in ((j : Int) + 1) (by clear hi1 hi2 hw1 hw2; omega)
        clear hij
        have HB9 : N + u14 ≤ 40000000000 := by
          have e1 : (bc _).length = N * 1 := HJ.out.1.own.1
          rw [bc_length] at e1
          have e2 := flat_len_le HD.out j
          have e3 : u14 = ubs.length := HV.out.bs.len
          have e4 : ubs.length ≤ 20000 := HD.out _ (List.mem_of_getElem? HLJ.out)
          dsimp only at e1
          (clear hjw1 hjw2 hi1 hi2 hw1 hw2; omega)
        replace HB9 := keep HB9
        cases f
        · obtain rfl : r = none := HPc.out rfl
          go_wp2_with fail
          go_region_held3 (fun w' => (w'.cell? ⟨b, o + j * 12, none⟩ = some (.int .u8 uk) ∧ w'.cell? ⟨b, o + j * 12 + 1, none⟩ = some (.int .u8 uf) ∧ w'.cell? ⟨b, o + j * 12 + 2, none⟩ = some (.int .u32 ua) ∧ w'.cell? ⟨b, o + j * 12 + 3, none⟩ = some (.int .u32 ub) ∧ w'.cell? ⟨b, o + j * 12 + 4, none⟩ = some (.int .u16 uo) ∧ w'.cell? ⟨b, o + j * 12 + 5, none⟩ = some (.int .u16 us) ∧ w'.cell? ⟨b, o + j * 12 + 6, none⟩ = some (.int .u32 up) ∧ w'.cell? ⟨b, o + j * 12 + 7, none⟩ = some (.slice u1 u2 u3) ∧ w'.cell? ⟨b, o + j * 12 + 8, none⟩ = some (.slice u4 u5 u6) ∧ w'.cell? ⟨b, o + j * 12 + 9, none⟩ = some (.slice u7 u8 u9) ∧ w'.cell? ⟨b, o + j * 12 + 10, none⟩ = some (.slice u10 u11 u12) ∧ w'.cell? ⟨b, o + j * 12 + 11, none⟩ = some (.slice u13 u14 u15)) ∧ (w'.cell? ⟨b, o + i * 12, none⟩ = some (.int .u8 pk) ∧ w'.cell? ⟨b, o + i * 12 + 1, none⟩ = some (.int .u8 pf) ∧ w'.cell? ⟨b, o + i * 12 + 2, none⟩ = some (.int .u32 pa) ∧ w'.cell? ⟨b, o + i * 12 + 3, none⟩ = some (.int .u32 pb) ∧ w'.cell? ⟨b, o + i * 12 + 4, none⟩ = some (.int .u16 po) ∧ w'.cell? ⟨b, o + i * 12 + 5, none⟩ = some (.int .u16 ps') ∧ w'.cell? ⟨b, o + i * 12 + 6, none⟩ = some (.int .u32 pp') ∧ w'.cell? ⟨b, o + i * 12 + 7, none⟩ = some (.slice p1 p2 p3) ∧ w'.cell? ⟨b, o + i * 12 + 8, none⟩ = some (.slice p4 p5 p6) ∧ w'.cell? ⟨b, o + i * 12 + 9, none⟩ = some (.slice p7 p8 p9) ∧ w'.cell? ⟨b, o + i * 12 + 10, none⟩ = some (.slice p10 p11 p12) ∧ w'.cell? ⟨b, o + i * 12 + 11, none⟩ = some (.slice p13 p14 p15)))
            (first | exact ⟨⟨c0, c1, c2, c3, c4, c5, c6, c7, c8, c9, c10, c11⟩, ⟨d0, d1, d2, d3, d4, d5, d6, d7, d8, d9, d10, d11⟩⟩ | exact q5)
            (first
            | (go_at_call 17; refine (KF.out _).mono ?_; rintro e w5 ⟨rfl, hb5⟩
               have hb5' := (Below.refl wr.heap.size wr).drew.trans hb5
               have q5 := And.intro (At12.step (x := ⟨uk, uf, ua, ub, uo, us, up, (u1, u2, u3), (u4, u5, u6), (u7, u8, u9), (u10, u11, u12), (u13, u14, u15), ups, ubs⟩) ⟨c0, c1, c2, c3, c4, c5, c6, c7, c8, c9, c10, c11⟩ hb5' hblp) (At12.step (x := ⟨pk, pf, pa, pb, po, ps', pp', (p1, p2, p3), (p4, p5, p6), (p7, p8, p9), (p10, p11, p12), (p13, p14, p15), pps, pbs⟩) ⟨d0, d1, d2, d3, d4, d5, d6, d7, d8, d9, d10, d11⟩ hb5' hblp)
               have HJ5 := keep (HJ.out.1.step hb5')
               have k11 : w5.cell? ⟨b, o + j * 12 + 11, none⟩ = some (.slice u13 u14 u15) := (hb5'.cell (p := ⟨b, o + j * 12 + 11, none⟩) hblp).trans c11
               have HV9 := keep (HV.out.step hb5')
               clear hb5 hb5'))
          all_goals
            obtain ⟨⟨r0, r1, r2, r3⟩, rf0, rf1, rf2, rf3⟩ := HJ5.out.r.all
            dsimp only [MX.zero] at r0 r1 r2 r3
            go_wp2_with fail
            refine bodyPost_ret (ret_msg_ok rfl _ _ w.heap.size MX.zero rfl (MB.laid HJ5.out.r MX.zero)) rfl ⟨MX.zero, rfl, ⟨by decide, by decide, BS.nil _⟩, rfl, MB.below HJ5.out.below MX.zero⟩
        · go_wp2_with fail
          go_region_held3 (fun w' => (w'.cell? ⟨b, o + j * 12, none⟩ = some (.int .u8 uk) ∧ w'.cell? ⟨b, o + j * 12 + 1, none⟩ = some (.int .u8 uf) ∧ w'.cell? ⟨b, o + j * 12 + 2, none⟩ = some (.int .u32 ua) ∧ w'.cell? ⟨b, o + j * 12 + 3, none⟩ = some (.int .u32 ub) ∧ w'.cell? ⟨b, o + j * 12 + 4, none⟩ = some (.int .u16 uo) ∧ w'.cell? ⟨b, o + j * 12 + 5, none⟩ = some (.int .u16 us) ∧ w'.cell? ⟨b, o + j * 12 + 6, none⟩ = some (.int .u32 up) ∧ w'.cell? ⟨b, o + j * 12 + 7, none⟩ = some (.slice u1 u2 u3) ∧ w'.cell? ⟨b, o + j * 12 + 8, none⟩ = some (.slice u4 u5 u6) ∧ w'.cell? ⟨b, o + j * 12 + 9, none⟩ = some (.slice u7 u8 u9) ∧ w'.cell? ⟨b, o + j * 12 + 10, none⟩ = some (.slice u10 u11 u12) ∧ w'.cell? ⟨b, o + j * 12 + 11, none⟩ = some (.slice u13 u14 u15)) ∧ (w'.cell? ⟨b, o + i * 12, none⟩ = some (.int .u8 pk) ∧ w'.cell? ⟨b, o + i * 12 + 1, none⟩ = some (.int .u8 pf) ∧ w'.cell? ⟨b, o + i * 12 + 2, none⟩ = some (.int .u32 pa) ∧ w'.cell? ⟨b, o + i * 12 + 3, none⟩ = some (.int .u32 pb) ∧ w'.cell? ⟨b, o + i * 12 + 4, none⟩ = some (.int .u16 po) ∧ w'.cell? ⟨b, o + i * 12 + 5, none⟩ = some (.int .u16 ps') ∧ w'.cell? ⟨b, o + i * 12 + 6, none⟩ = some (.int .u32 pp') ∧ w'.cell? ⟨b, o + i * 12 + 7, none⟩ = some (.slice p1 p2 p3) ∧ w'.cell? ⟨b, o + i * 12 + 8, none⟩ = some (.slice p4 p5 p6) ∧ w'.cell? ⟨b, o + i * 12 + 9, none⟩ = some (.slice p7 p8 p9) ∧ w'.cell? ⟨b, o + i * 12 + 10, none⟩ = some (.slice p10 p11 p12) ∧ w'.cell? ⟨b, o + i * 12 + 11, none⟩ = some (.slice p13 p14 p15)))
            (first | exact ⟨⟨c0, c1, c2, c3, c4, c5, c6, c7, c8, c9, c10, c11⟩, ⟨d0, d1, d2, d3, d4, d5, d6, d7, d8, d9, d10, d11⟩⟩ | exact q5)
            (first
            | (go_at_call 17; refine (KF.out _).mono ?_; rintro e w5 ⟨rfl, hb5⟩
               have hb5' := (Below.refl wr.heap.size wr).drew.trans hb5
               have q5 := And.intro (At12.step (x := ⟨uk, uf, ua, ub, uo, us, up, (u1, u2, u3), (u4, u5, u6), (u7, u8, u9), (u10, u11, u12), (u13, u14, u15), ups, ubs⟩) ⟨c0, c1, c2, c3, c4, c5, c6, c7, c8, c9, c10, c11⟩ hb5' hblp) (At12.step (x := ⟨pk, pf, pa, pb, po, ps', pp', (p1, p2, p3), (p4, p5, p6), (p7, p8, p9), (p10, p11, p12), (p13, p14, p15), pps, pbs⟩) ⟨d0, d1, d2, d3, d4, d5, d6, d7, d8, d9, d10, d11⟩ hb5' hblp)
               have HJ5 := keep (HJ.out.1.step hb5')
               have k11 : w5.cell? ⟨b, o + j * 12 + 11, none⟩ = some (.slice u13 u14 u15) := (hb5'.cell (p := ⟨b, o + j * 12 + 11, none⟩) hblp).trans c11
               have HV9 := keep (HV.out.step hb5')
               clear hb5 hb5'))
          all_goals (try go_wp2_with fail)
          all_goals
            have HJ1 := HJ5
            clear q5 c0 c1 c2 c3 c4 c5 c6 c7 c8 c9 c10 c11 d0 d1 d2 d3 d4 d5 d6 d7 d8 d9 d10 d11
            obtain ⟨⟨m0, m1, m2, m3⟩, mf0, mf1, mf2, mf3⟩ := HJ1.out.m.all
            dsimp only at m0 m1 m2 m3
            refine wp_region_held_drew (S := (fun w' => w'.cell? ⟨b, o + j * 12 + 11, none⟩ = some (.slice u13 u14 u15))) (by kernel_rfl) k11 (fun hHeld => ?_)
            refine wpAnyH_take (i := 0) (oi := { dst := Option.some 75, op := Go.Op.fieldAddr 26 (Go.Operand.tmp 4) 3, type := 0, pos := "ref.go:55", after := #[], guard := Option.none }) (v := ?vy0) rfl (by kernel_rfl) (by kernel_rfl) (by kernel_rfl) (fun _ _ _ h => h) (Or.inl ⟨by rfl, ?hyy0⟩) (by assumption) ?resty0
            case hyy0 => (intro wz hSw; (try dsimp only at hSw); go_simp <;> (try with_reducible rfl))
            try simp only [Act.put, List.setIfInBounds_toArray, List.set_cons_zero, List.set_cons_succ]
            refine wpAnyH_take (i := 2) (oi := { dst := Option.some 77, op := Go.Op.move (Go.Operand.tmp 0), type := 28, pos := "ref.go:55", after := #[], guard := Option.none }) (v := ?vy2) rfl (by kernel_rfl) (by kernel_rfl) (by kernel_rfl) (fun _ _ _ h => h) (Or.inl ⟨by rfl, ?hyy2⟩) (by assumption) ?resty2
            case hyy2 => (intro wz hSw; (try dsimp only at hSw); go_simp <;> (try with_reducible rfl))
            try simp only [Act.put, List.setIfInBounds_toArray, List.set_cons_zero, List.set_cons_succ]
            refine wpAnyH_take (i := 3) (oi := { dst := Option.some 78, op := Go.Op.move (Go.Operand.tmp 5), type := 3, pos := "ref.go:55", after := #[], guard := Option.none }) (v := ?vy3) rfl (by kernel_rfl) (by kernel_rfl) (by kernel_rfl) (fun _ _ _ h => h) (Or.inl ⟨by rfl, ?hyy3⟩) (by assumption) ?resty3
            case hyy3 => (intro wz hSw; (try dsimp only at hSw); go_simp <;> (try with_reducible rfl))
            try simp only [Act.put, List.setIfInBounds_toArray, List.set_cons_zero, List.set_cons_succ]
            refine wpAnyH_take (i := 4) (oi := { dst := Option.some 79, op := Go.Op.indexAddr 28 (Go.Operand.tmp 77) (Go.Operand.tmp 78), type := 0, pos := "ref.go:55", after := #[{ on := 2, ground := Go.Ground.data }, { on := 3, ground := Go.Ground.data }], guard := Option.none }) (v := ?vy4) rfl (by kernel_rfl) (by kernel_rfl) (by kernel_rfl) (fun _ _ _ h => h) (Or.inl ⟨by rfl, ?hyy4⟩) (by assumption) ?resty4
            case hyy4 => (intro wz hSw; (try dsimp only at hSw); go_simp <;> (try with_reducible rfl))
            try simp only [Act.put, List.setIfInBounds_toArray, List.set_cons_zero, List.set_cons_succ]
            refine wpAnyH_take (i := 5) (oi := { dst := Option.some 80, op := Go.Op.fieldAddr 39 (Go.Operand.tmp 79) 11, type := 0, pos := "ref.go:55", after := #[{ on := 4, ground := Go.Ground.data }], guard := Option.none }) (v := ?vy5) rfl (by kernel_rfl) (by kernel_rfl) (by kernel_rfl) (fun _ _ _ h => h) (Or.inl ⟨by rfl, ?hyy5⟩) (by assumption) ?resty5
            case hyy5 => (intro wz hSw; (try dsimp only at hSw); go_simp <;> (try with_reducible rfl))
            try simp only [Act.put, List.setIfInBounds_toArray, List.set_cons_zero, List.set_cons_succ]
            refine wpAnyH_take (i := 6) (oi := { dst := Option.some 81, op := Go.Op.load 24 (Go.Operand.tmp 80), type := 24, pos := "ref.go:55", after := #[{ on := 5, ground := Go.Ground.data }], guard := Option.none }) (v := ?vy6) rfl (by kernel_rfl) (by kernel_rfl) (by kernel_rfl) (fun _ _ _ h => h) (Or.inl ⟨by rfl, ?hyy6⟩) (by assumption) ?resty6
            case hyy6 => (intro wz hSw; (try dsimp only at hSw); go_simp <;> (try with_reducible rfl))
            try simp only [Act.put, List.setIfInBounds_toArray, List.set_cons_zero, List.set_cons_succ]
            refine wpAnyH_ready (rs := [1]) (by kernel_rfl) (by simp) (AllReadyH.cons (o := { dst := Option.some 76, op := Go.Op.load 24 (Go.Operand.tmp 75), type := 24, pos := "ref.go:55", after := #[{ on := 0, ground := Go.Ground.data }], guard := Option.none }) rfl (fun K hK => ?_) AllReadyH.nil)
            go_simp
            refine hK.out _ _ k11 (fun hHeld => ?_)
            clear hK K
            try simp only [Act.put, List.setIfInBounds_toArray, List.set_cons_zero, List.set_cons_succ]
            refine wpAnyH_ready (rs := [7]) (by kernel_rfl) (by simp) (AllReadyH.cons (o := { dst := Option.some 82, op := Go.Op.call { callee := Go.Callee.builtin Go.Builtin.append, args := #[Go.Operand.tmp 76, Go.Operand.tmp 81], argTypes := #[24, 24] }, type := 24, pos := "ref.go:55", after := #[{ on := 1, ground := Go.Ground.data }, { on := 6, ground := Go.Ground.data }], guard := Option.none }) rfl (fun K hK => ?_) AllReadyH.nil)
            refine step_appendK (by decide) rfl (.tmp 76) (.tmp 81) 24 rfl (g + 1) 5 i0 (.int .u8 0) Try.underlying24 hi0 hz0 hz1 rfl _ N _ rfl HJ1.out.own.drew u13 u14 u15 (bc ubs) rfl (by rw [Nat.mul_one, bc_length]; exact HV9.out.bs.len) ((HV9.out.bs.step (Below.refl _ _).drew).br.sr) (bc_one ubs) (by have := HB9.out; unfold maxLen; (clear hjw1 hjw2 hi1 hi2 hw1 hw2; omega)) (by rw [hz2, Nat.mul_one]; have := HB9.out; (clear hjw1 hjw2 hi1 hi2 hw1 hw2; omega)) HJ1.out.sz ?_
            intro A2 c2 w2 ho2 hb2
            have k11' := (hb2.cell (p := ⟨b, o + j * 12 + 11, none⟩) (by have := HJ1.out.gw; show b < g + 1; (clear hjw1 hjw2 hi1 hi2 hw1 hw2; omega))).trans k11
            have HJ2 := keep ((WJ.drewN HJ1.out 1).app ho2.out hb2)
            obtain ⟨⟨m0, m1, m2, m3⟩, mf0, mf1, mf2, mf3⟩ := (show MB w2 g _ from (hb2.block g (Nat.lt_succ_self g)).trans HJ1.out.m).all
            dsimp only at m0 m1 m2 m3
            refine hK.out _ _ k11' (fun hHeld => ?_)
            clear hK K
            try simp only [Act.put, List.setIfInBounds_toArray, List.set_cons_zero, List.set_cons_succ]
            refine wpAnyH_take (i := 8) (oi := { dst := Option.some 83, op := Go.Op.fieldAddr 26 (Go.Operand.tmp 4) 3, type := 0, pos := "ref.go:55", after := #[{ on := 0, ground := Go.Ground.phase }, { on := 1, ground := Go.Ground.phase }, { on := 2, ground := Go.Ground.phase }, { on := 3, ground := Go.Ground.phase }, { on := 4, ground := Go.Ground.phase }, { on := 5, ground := Go.Ground.phase }, { on := 6, ground := Go.Ground.phase }, { on := 7, ground := Go.Ground.phase }], guard := Option.none }) (v := ?vy8) rfl (by kernel_rfl) (by kernel_rfl) (by kernel_rfl) (fun _ _ _ h => h) (Or.inl ⟨by rfl, ?hyy8⟩) (by assumption) ?resty8
            case hyy8 => (intro wz hSw; (try dsimp only at hSw); go_simp <;> (try with_reducible rfl))
            try simp only [Act.put, List.setIfInBounds_toArray, List.set_cons_zero, List.set_cons_succ]
            refine wpAnyH_ready (rs := [9]) (by kernel_rfl) (by simp) (AllReadyH.cons (o := { dst := Option.none, op := Go.Op.store 24 (Go.Operand.tmp 83) (Go.Operand.tmp 82), type := 0, pos := "ref.go:55", after := #[{ on := 8, ground := Go.Ground.data }, { on := 7, ground := Go.Ground.data }, { on := 7, ground := Go.Ground.chain }, { on := 0, ground := Go.Ground.phase }, { on := 1, ground := Go.Ground.phase }, { on := 2, ground := Go.Ground.phase }, { on := 3, ground := Go.Ground.phase }, { on := 4, ground := Go.Ground.phase }, { on := 5, ground := Go.Ground.phase }, { on := 6, ground := Go.Ground.phase }, { on := 7, ground := Go.Ground.phase }], guard := Option.none }) rfl (fun K hK => ?_) AllReadyH.nil)
            go_simp
            (try go_wp2_with fail)
            refine hK.out _ _ ((cell_else (W := w2) (k := g) (j := 3) (p := ⟨b, o + j * 12 + 11, none⟩) (by have := HJ1.out.gw; show b ≠ g; (clear hjw1 hjw2 hi1 hi2 hw1 hw2; omega)) _).trans k11') (fun hHeld => ?_)
            clear hK K
            try simp only [Act.put, List.setIfInBounds_toArray, List.set_cons_zero, List.set_cons_succ]
            refine wpAnyH_done (by kernel_rfl) ?_ _
            go_wp2_with fail
            go_roundw
            case rel =>
              refine ⟨j + 1, A2, N + u14, c2, by go_num, HJQ.out, keep ⟨?_, HCc.out (by first | rfl | trivial) HJ.out.2⟩⟩
              have := HJ2.out
              rw [show (l.take (j + 1)).flatMap CX.bs = (l.take j).flatMap CX.bs ++ ubs by rw [List.take_add_one, HLJ.out]; simp]
              exact this
            case measure => (have := HJQ.out; simp [intOf]; (clear hjw1 hjw2 hi1 hi2 hw1 hw2; omega))
    · obtain rfl : j = q + 1 := by clear hw1 hw2; omega
      obtain ⟨⟨m0, m1, m2, m3⟩, mf0, mf1, mf2, mf3⟩ := HJ.out.1.m.all
      obtain ⟨⟨r0, r1, r2, r3⟩, rf0, rf1, rf2, rf3⟩ := HJ.out.1.r.all
      dsimp only [MX.zero] at m0 m1 m2 m3 r0 r1 r2 r3
      have hll : l.take (q + 1) = l := List.take_of_length_le (by have := HLn.out; clear hw1 hw2; omega)
      have hch := HJ.out.2
      rw [hll] at hch
      have hr2 := keep (HW.out.1 hch)
      clear hch
      go_wp2_with fail
      rw [hr2.out]
      refine bodyPost_ret (ret_msg_ok rfl _ _ w.heap.size ⟨xo, un, xp, (A, N, c'), (l.take (q + 1)).flatMap CX.bs⟩ rfl (MB.laid HJ.out.1.r ⟨xo, un, xp, (A, N, c'), (l.take (q + 1)).flatMap CX.bs⟩)) rfl ⟨⟨xo, un, xp, (A, N, c'), (l.take (q + 1)).flatMap CX.bs⟩, rfl, ⟨BO.out, BP.out, MB.own HJ.out.1.own (Nat.lt_succ_of_lt HJ.out.1.gw) ⟨xo, un, xp, (A, N, c'), (l.take (q + 1)).flatMap CX.bs⟩⟩, ?_, MB.below HJ.out.1.below ⟨xo, un, xp, (A, N, c'), (l.take (q + 1)).flatMap CX.bs⟩⟩
      rw [hll, MX.msg, HU.out]
      rfl
end Go.Proofs.Ytbfmklbffmodjaa
