/- The reference: which message chunks are, all of it. -/
import Derived.Test.YtbfmklbffmodjaaSp6
namespace Go.Proofs.Ytbfmklbffmodjaa
open Go.RowKit
set_option linter.unusedVariables false

section
variable {b o q c : Nat} {l : List CX} {w : World} {x y : CX}
set_option maxHeartbeats 1000000 in
theorem refWhole_kind (hbl : b < w.heap.size) (hat : At12 w b o x) (hk : ¬ x.kd = 0) : Calls Try.prog 14 #[.slice (some ⟨b, o, none⟩) (q + 1) c] w (TellM w none) := by
  have hz : ((q : Int) + 1 == 0) = false := by simp; omega
  have hn : 0 < (q : Int) + 1 := by omega
  obtain ⟨xk, xf, xa, xb, xo, xs, xp, ⟨x1, x2, x3⟩, ⟨x4, x5, x6⟩, ⟨x7, x8, x9⟩, ⟨x10, x11, x12⟩, ⟨x13, x14, x15⟩, xps, xbs⟩ := x
  dsimp only [At12] at hat hk
  obtain ⟨c0, c1, c2, c3, c4, c5, c6, c7, c8, c9, c10, c11⟩ := hat
  have hk' : (xk != 0) = true := by simp; exact hk
  clear hk
  go_enter Try.func14, Try.ntmps14
  go_wp2_with fail
  refine bodyPost_ret (ret_msg_ok rfl _ _ w.heap.size MX.zero rfl (heap_alloc_new w _)) rfl ?_
  exact ⟨MX.zero, rfl, ⟨by decide, by decide, BS.nil _⟩, rfl, below_lay w _⟩
set_option maxHeartbeats 1000000 in
theorem refWhole_begin (hbl : b < w.heap.size) (hat : At12 w b o x) (bx : CB x) (hk : x.kd = 0) (hb : x.fl / 2 % 2 = 0) : Calls Try.prog 14 #[.slice (some ⟨b, o, none⟩) (q + 1) c] w (TellM w none) := by
  have hz : ((q : Int) + 1 == 0) = false := by simp; omega
  have hn : 0 < (q : Int) + 1 := by omega
  have hf := bx.fl
  obtain ⟨xk, xf, xa, xb, xo, xs, xp, ⟨x1, x2, x3⟩, ⟨x4, x5, x6⟩, ⟨x7, x8, x9⟩, ⟨x10, x11, x12⟩, ⟨x13, x14, x15⟩, xps, xbs⟩ := x
  dsimp only [At12] at hat hk hb hf
  obtain ⟨c0, c1, c2, c3, c4, c5, c6, c7, c8, c9, c10, c11⟩ := hat
  subst hk
  clear bx
  go_enter Try.func14, Try.ntmps14
  go_wp2_with fail
  refine bodyPost_ret (ret_msg_ok rfl _ _ w.heap.size MX.zero rfl (heap_alloc_new w _)) rfl ?_
  exact ⟨MX.zero, rfl, ⟨by decide, by decide, BS.nil _⟩, rfl, below_lay w _⟩
set_option maxHeartbeats 1000000 in
theorem refWhole_end (hbl : b < w.heap.size) (hat : At12 w b o x) (hat' : At12 w b (o + q * 12) y) (bx : CB x) (hy : CB y) (hk : x.kd = 0) (hb : x.fl / 2 % 2 = 1) (he : y.fl % 2 = 0) (hq : q ≤ 1000000) : Calls Try.prog 14 #[.slice (some ⟨b, o, none⟩) (q + 1) c] w (TellM w none) := by
  have hz : ((q : Int) + 1 == 0) = false := by simp; omega
  have hn : 0 < (q : Int) + 1 := by omega
  obtain ⟨hw2, hw1⟩ := wrap_in (q : Int) (by omega)
  have hf := bx.fl
  have hf' := hy.fl
  obtain ⟨xk, xf, xa, xb, xo, xs, xp, ⟨x1, x2, x3⟩, ⟨x4, x5, x6⟩, ⟨x7, x8, x9⟩, ⟨x10, x11, x12⟩, ⟨x13, x14, x15⟩, xps, xbs⟩ := x
  obtain ⟨yk, yf, ya, yb, yo, ys, yp, ⟨y1, y2, y3⟩, ⟨y4, y5, y6⟩, ⟨y7, y8, y9⟩, ⟨y10, y11, y12⟩, ⟨y13, y14, y15⟩, yps, ybs⟩ := y
  dsimp only [At12] at hat hat' hk hb he hf hf'
  obtain ⟨c0, c1, c2, c3, c4, c5, c6, c7, c8, c9, c10, c11⟩ := hat
  obtain ⟨d0, d1, d2, d3, d4, d5, d6, d7, d8, d9, d10, d11⟩ := hat'
  subst hk
  clear bx hy hq
  go_enter Try.func14, Try.ntmps14
  go_wp2_with fail
  refine bodyPost_ret (ret_msg_ok rfl _ _ w.heap.size MX.zero rfl (heap_alloc_new w _)) rfl ?_
  exact ⟨MX.zero, rfl, ⟨by decide, by decide, BS.nil _⟩, rfl, below_lay w _⟩
end
theorem refWhole_any (A : Option Addr) (n c : Nat) (l : List CX) (w : World) (h : CS w A n c l) (hn : n ≤ 1000000) (hD : ∀ x ∈ l, x.bs.length ≤ 20000) :
    Calls Try.prog 14 #[.slice A n c] w (TellM w (wholeO (l.map CX.ch))) := by
  cases n with
  | zero =>
    have : l = [] := List.eq_nil_of_length_eq_zero h.1.symm
    subst this
    exact refWhole_none A c w
  | succ q =>
    obtain ⟨b, o, x, rfl, hbl, hat, hlx, hvx⟩ := h.at_ (j := 0) (Nat.succ_pos q)
    obtain ⟨b', o', y, hA, _, hat', hly, hvy⟩ := h.at_ (j := q) (Nat.lt_succ_self q)
    injection hA with hA
    injection hA with e1 e2
    subst e1 e2
    rw [Nat.zero_mul, Nat.add_zero] at hat
    have hlast : (l.map CX.ch).getLast? = some y.ch := by
      rw [List.getLast?_eq_getElem?, List.length_map, ← h.1, List.getElem?_map, Nat.add_sub_cancel, hly]
      rfl
    obtain ⟨t, ht⟩ : ∃ t, l = x :: t := by
      cases l with
      | nil => simp at hlx
      | cons z t => simp at hlx; exact ⟨t, by rw [hlx]⟩
    have no : whole (l.map CX.ch) = false → wholeO (l.map CX.ch) = none := fun h0 => by unfold wholeO; rw [if_neg (by rw [h0]; decide)]
    by_cases hk : x.kd = 0
    case neg =>
      rw [no (by
        rw [ht, List.map_cons]
        unfold whole
        dsimp only
        rw [decide_eq_false (show ¬ x.ch.kd = 0 from hk)]
        rfl)]
      exact refWhole_kind hbl hat hk
    by_cases hb : x.fl / 2 % 2 = 1
    case neg =>
      rw [no (by rw [ht, List.map_cons]; exact whole_nobegin hb)]
      exact refWhole_begin hbl hat hvx.cb hk (by omega)
    by_cases he : y.fl % 2 = 1
    case neg =>
      rw [no (whole_noend hlast he)]
      exact refWhole_end hbl hat hat' hvx.cb hvy.cb hk hb (by omega) (by omega)
    exact refWhole_head b o q c l w hbl h x y hat hat' hvx.cb hvy.cb hk hb he hlx hly (by omega) hD _ rfl
end Go.Proofs.Ytbfmklbffmodjaa
