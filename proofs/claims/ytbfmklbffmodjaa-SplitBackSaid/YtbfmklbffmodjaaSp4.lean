/- Chunks of few parts, all of them; the same chunks. -/
import Derived.Test.YtbfmklbffmodjaaSp3
namespace Go.Proofs.Ytbfmklbffmodjaa
open Go.RowKit
set_option linter.unusedVariables false

def fewLC (l : List CX) : Bool := decide (l.length ≤ 80) && l.all fewC
set_option maxHeartbeats 1000000 in
theorem few_any (A : Option Addr) (n c : Nat) (l : List CX) (w : World) (h : CS w A n c l) :
    Calls Try.prog 11 #[.slice A n c] w fun e w' => e = .returned (.bool (fewLC l)) ∧ Below w.heap.size w w' := by
  have HC := keep h
  have HLn := keep h.1
  clear h
  by_cases h80 : n ≤ 80
  case neg =>
    have hf : fewLC l = false := by unfold fewLC; have := HLn.out; rw [decide_eq_false (by omega)]; rfl
    rw [hf]
    have h80' : 80 < (n : Int) := by omega
    clear h80 hf
    go_enter Try.func11, Try.ntmps11
    go_wp2_with fail
    go_ret
    exact ⟨rfl, Below.refl _ _⟩
  have h80' : ¬ 80 < (n : Int) := by omega
  obtain ⟨r, hr⟩ : ∃ r, fewLC l = r := ⟨_, rfl⟩
  rw [hr]
  have HR : l.all fewC = r := by rw [← hr]; unfold fewLC; rw [decide_eq_true (by have := HLn.out; omega)]; rfl
  replace HR := keep HR
  clear hr
  go_enter Try.func11, Try.ntmps11
  go_wp2_with fail
  go_loopw [3] (fun i wr => ∃ j : Nat, j ≤ n ∧ i = .int .i64 j ∧ Hid ((∀ y ∈ l.take j, fewC y = true) ∧ Below w.heap.size w wr)) (fun i _ => n - (intOf i).toNat)
  case atStart => exact ⟨0, Nat.zero_le _, rfl, keep ⟨by simp, Below.refl _ _⟩⟩
  case round =>
    obtain ⟨j, hj, rfl, hno⟩ := hrel
    by_cases hlt : j < n
    · obtain ⟨b, o, x, rfl, hbl, hat, hlj, hv⟩ := (HC.out.step hno.out.2).at_ hlt
      have hlt' : (j : Int) < (n : Int) := by omega
      have HJ := keep hlj
      have K := fun w2 hp => Few_any x w2 hp
      have HP := keep hv.ps
      obtain ⟨q, hq⟩ : ∃ q, fewC x = q := ⟨_, rfl⟩
      have HQ := keep hq
      rw [hq] at K
      clear hlj hv hq
      obtain ⟨xk, xf, xa, xb, xo, xs, xp, ⟨x1, x2, x3⟩, ⟨x4, x5, x6⟩, ⟨x7, x8, x9⟩, ⟨x10, x11, x12⟩, ⟨x13, x14, x15⟩, xps, xbs⟩ := x
      dsimp only [At12, CX.cells] at hat K HP
      obtain ⟨c0, c1, c2, c3, c4, c5, c6, c7, c8, c9, c10, c11⟩ := hat
      replace K := keep K
      cases q
      · obtain rfl : r = false := by
          rw [← HR.out, List.all_eq_false]
          exact ⟨_, List.mem_of_getElem? HJ.out, by rw [HQ.out]; decide⟩
        go_wp2_with (go_at_call 12; refine (K.out _ HP.out).mono ?_; rintro e w2 ⟨rfl, hb⟩
                     have B := keep (hno.out.2.trans (hb.mono hno.out.2.size))
                     clear hb)
        go_ret
        exact ⟨rfl, B.out⟩
      · go_wp2_with (go_at_call 12; refine (K.out _ HP.out).mono ?_; rintro e w2 ⟨rfl, hb⟩
                     have B := keep (hno.out.2.trans (hb.mono hno.out.2.size))
                     clear hb)
        go_roundw
        case rel =>
          refine ⟨j + 1, by omega, by go_num, keep ⟨fun y hy => ?_, B.out⟩⟩
          rw [List.take_add_one, HJ.out] at hy
          rcases List.mem_append.1 hy with hy | hy
          · exact hno.out.1 y hy
          · simp at hy
            rw [hy]
            exact HQ.out
        case measure => simp [intOf]; omega
    · obtain rfl : n = j := by omega
      have B := keep hno.out.2
      go_wp2_with fail
      go_ret
      refine ⟨ret_bool ?_, B.out⟩
      rw [← HR.out]
      symm
      have hno := hno.out.1
      rw [List.take_of_length_le (by have := HLn.out; omega)] at hno
      exact List.all_eq_true.2 hno

theorem same06_nil (A B : Option Addr) (c d : Nat) (w : World) : Calls Try.prog 24 #[.slice A 0 c, .slice B 0 d] w fun e w' => e = .returned (.bool true) ∧ w = w' := by
  go_enter Try.func24, Try.ntmps24
  go_wp2_with fail
  go_loop [5] (fun i => i = .int .i64 0) (fun _ => 0)
  case atStart => rfl
  case round =>
    obtain rfl := hrel
    go_wp2_with fail
    go_ret
    exact ⟨rfl, rfl⟩
/-- No blocks, no repeats, no skips, no parameters. -/
def Plain (x : CX) : Prop := x.bl.2.1 = 0 ∧ x.du.2.1 = 0 ∧ x.sk.2.1 = 0 ∧ x.pr.2.1 = 0
set_option maxRecDepth 1000000 in
set_option maxHeartbeats 2000000 in
theorem same07_same (x y : CX) (w : World) (hx : BS w x.da.1 x.da.2.1 x.da.2.2 x.bs) (hy : BS w y.da.1 y.da.2.1 y.da.2.2 y.bs) (px : Plain x) (py : Plain y) (h : x.ch = y.ch) :
    Calls Try.prog 20 #[.agg x.cells.toArray, .agg y.cells.toArray] w fun e w' => e = .returned (.bool true) ∧ Below w.heap.size w w' := by
  have HL := keep (lay2 w (.cells x.cells.toArray 39) (.cells y.cells.toArray 39))
  have k1 := fun (X Y : Obj) => conv_in ((w.alloc X).alloc Y) x.da.1 x.da.2.1 x.da.2.2 x.bs (hx.step (lay2 w X Y)) _ rfl
  have k2 := fun (X Y : Obj) => conv_in ((w.alloc X).alloc Y) y.da.1 y.da.2.1 y.da.2.2 y.bs (hy.step (lay2 w X Y)) _ rfl
  obtain ⟨xk, xf, xa, xb, xo, xs, xp, ⟨x1, x2, x3⟩, ⟨x4, x5, x6⟩, ⟨x7, x8, x9⟩, ⟨x10, x11, x12⟩, ⟨x13, x14, x15⟩, xps, xbs⟩ := x
  obtain ⟨yk, yf, ya, yb, yo, ys, yp, ⟨y1, y2, y3⟩, ⟨y4, y5, y6⟩, ⟨y7, y8, y9⟩, ⟨y10, y11, y12⟩, ⟨y13, y14, y15⟩, yps, ybs⟩ := y
  obtain ⟨p1, p2, p3, p4⟩ := px
  obtain ⟨p5, p6, p7, p8⟩ := py
  dsimp only at p1 p2 p3 p4 p5 p6 p7 p8
  subst p1 p2 p3 p4 p5 p6 p7 p8
  simp only [CX.ch, Ch.mk.injEq] at h
  obtain ⟨rfl, rfl, rfl, rfl, rfl, rfl, rfl, rfl⟩ := h
  dsimp only [CX.cells] at k1 k2 HL ⊢
  clear hx hy
  go_enter Try.func20, Try.ntmps20
  go_wp2_with (go_at_call 24; refine (same06_nil _ _ _ _ _).mono ?_; rintro e w2 ⟨rfl, rfl⟩)
  go_loop [5] (fun i => i = .int .i64 0) (fun _ => 0)
  case atStart => rfl
  case round =>
    obtain rfl := hrel
    go_wp2_with fail
    go_loop [6] (fun i => i = .int .i64 0) (fun _ => 0)
    case atStart => rfl
    case round =>
      obtain rfl := hrel
      go_wp2_with fail
      go_loop [7] (fun i => i = .int .i64 0) (fun _ => 0)
      case atStart => rfl
      case round =>
        obtain rfl := hrel
        go_wp2_with fail
        go_ret
        exact ⟨rfl, by first | exact HL.out | exact below_drewN HL.out _⟩
end Go.Proofs.Ytbfmklbffmodjaa
