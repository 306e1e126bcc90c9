/- The walk of DcepWraps. -/
import Derived.Test.YtapaiknghnbfmaaDoorDA
namespace Go.Proofs.YtapaiknghnbfmaaDoor
open Go.RowKit
set_option linter.unusedVariables false

theorem wrapP_lit (t : Bool) (bs : List UInt8) : (bs = [] ∧ wrapP t bs = (if t then 56 else 57)) ∨ (bs ≠ [] ∧ wrapP t bs = (if t then 51 else 53)) := by
  unfold wrapP
  by_cases h : bs = []
  · exact .inl ⟨h, by rw [if_pos h]⟩
  · exact .inr ⟨h, by rw [if_neg h]⟩
theorem wrapD_pos (bs : List UInt8) : 0 < (wrapD bs).length := by
  unfold wrapD
  split
  · decide
  · exact List.length_pos_iff.2 (by assumption)
set_option maxHeartbeats 8000000 in
theorem dcepWraps_walk (t : Bool) (A : Option Addr) (n c : Nat) (bs : List UInt8) (p : Int) (w : World) (hb : BS w A n c bs) (hp : (Lit.int .u32 p).wf = true) (hT : Tabs w) :
    Calls Tryd.prog 6 #[.bool t, .slice A n c, .int .u32 p] w fun e w' => e = .returned (.bool true) ∧ Below w.heap.size w w' := by
  have K0 := keep (awake_any w hT)
  have HB := keep hb
  have hl := hb.len
  by_cases hbig : 1000 < n
  · have hI : (1000 : Int) < (n : Int) := by omega
    clear hb hl
    go_enter Tryd.func6, Tryd.ntmps6
    go_wp2_with (go_at_call 11; refine K0.out.mono ?_; rintro e w1 ⟨rfl, hb1⟩; replace hb1 := keep hb1)
    go_ret
    exact ⟨rfl, hb1.out⟩
  · have hI : ¬ ((1000 : Int) < (n : Int)) := by omega
    have K1 := fun W (hW : Below w.heap.size w W) => wrap_any t A n c bs W (HB.out.step hW) (by omega)
    have K2 := fun A' n' c' W (h : BS W A' n' c' (wrapD bs)) => unwrap_any (wrapP t bs) A' n' c' (wrapD bs) W h (by
      rw [h.len]
      unfold wrapD
      split
      · decide
      · omega)
    obtain ⟨u1, u2, u3⟩ := un_wrap t bs
    rw [u1, u2, u3] at K2
    have K3 := fun W (hW : Below w.heap.size w W) => unwrap_any p A n c bs W (HB.out.step hW) (by omega)
    have K4 := fun W (hW : Below w.heap.size w W) => refUnwrap_any p A n c bs W (HB.out.step hW)
    obtain ⟨U, hU⟩ : ∃ U, unT p bs = U := ⟨_, rfl⟩
    obtain ⟨KK, hK⟩ : ∃ K, unK p bs = K := ⟨_, rfl⟩
    obtain ⟨D, hD⟩ : ∃ D, unD p bs = D := ⟨_, rfl⟩
    rw [hU, hK, hD] at K3 K4
    clear hU hK hD u1 u2 u3
    have eU : (U == U) = true := by simp
    have eK : (KK == KK) = true := by simp
    have HW := keep (wrapD_pos bs)
    have K3 := keep K3
    have K4 := keep K4
    rcases wrapP_lit t bs with ⟨h0, hP⟩ | ⟨h0, hP⟩
    all_goals
      have hn0 : ((n : Int) == 0) = decide (bs = []) := by
        rw [Bool.eq_iff_iff]
        simp only [beq_iff_eq, decide_eq_true_eq]
        rw [← List.length_eq_zero_iff, ← hl]
        omega
      simp only [h0, decide_true, decide_false] at hn0
      cases t
      all_goals
        simp only [if_true, if_false, Bool.false_eq_true] at hP
        rw [hP] at K1 K2
        have K1 := keep K1
        have K2 := keep K2
        clear hb hl hP h0 hT
        go_enter Tryd.func6, Tryd.ntmps6
        go_wp2_with (first
          | (go_at_call 11; refine K0.out.mono ?_; rintro e w1 ⟨rfl, hb1⟩; have B1 := keep hb1; clear hb1)
          | (go_at_call 19; refine (K1.out _ B1.out).mono ?_; rintro e w2 ⟨A2, n2, c2, rfl, hs2, hb2⟩; have B2 := keep (up B1.out hb2); have H2 := keep hs2; have hn2 : (0 : Int) < (n2 : Int) := (by have := hs2.len; have := HW.out; omega); clear hs2 hb2)
          | (go_at_call 20; first
             | ((with_reducible refine (K2.out _ _ _ _ H2.out).mono ?_); rintro e w3 ⟨A3, n3, c3, rfl, hs3, hb3⟩; have B3 := keep (up B2.out hb3); have H3 := keep hs3; clear hs3 hb3)
             | ((with_reducible refine (K3.out _ B3.out).mono ?_); rintro e w4 ⟨A4, n4, c4, rfl, hs4, hb4⟩; have B4 := keep (up B3.out hb4); have H34 := keep (H3.out.step hb4); have H4 := keep hs4; clear hs4 hb4))
          | (go_at_call 21; refine (K4.out _ B4.out).mono ?_; rintro e w5 ⟨A5, n5, c5, rfl, hs5, hb5⟩; have B5 := keep (up B4.out hb5); have H35 := keep (H34.out.step hb5); have H45 := keep (H4.out.step hb5); have H5 := keep hs5; clear hs5 hb5)
          | (go_at_call 15; first
             | (with_reducible refine (same_yes _ _ _ _ _ _ _ _ H35.out (HB.out.step B5.out)).mono ?_; rintro e w' ⟨rfl, rfl⟩)
             | (with_reducible refine (same_yes _ _ _ _ _ _ _ _ H45.out H5.out).mono ?_; rintro e w' ⟨rfl, rfl⟩)))
        go_ret
        exact ⟨rfl, B5.out⟩
end Go.Proofs.YtapaiknghnbfmaaDoor
