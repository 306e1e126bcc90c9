/- The reference: Decode; what is refused by its head. -/
import Derived.Test.YtapaiknghnbfmaaDoorDX1
namespace Go.Proofs.YtapaiknghnbfmaaDoor
open Go.RowKit
set_option linter.unusedVariables false

set_option maxRecDepth 100000 in
set_option maxHeartbeats 8000000 in
theorem decodeR_late0 (A : Option Addr) (n c : Nat) (bs : List UInt8) (w : World) (hb : BS w A n c bs) (hn : n ≤ 100000) (h12 : 12 ≤ bs.length) (h3 : bs.headD 0 = 3) (hbad : 256 < hN bs ∨ 256 < hM bs ∨ n - 12 ≠ hN bs + hM bs) :
    Calls Tryd.prog 17 #[.slice A n c] w (DecP bs w) := by
  have l1 := below_lay w (.cells oZ.cells.toArray 32)
  have R1 := keep (SQ.laid w oZ)
  have hl := hb.len
  have hcap := hb.cap
  have h0 : bs ≠ [] := by intro h; rw [h] at h12; simp at h12
  have HE := keep (show ¬ (bs ≠ [] ∧ bs.headD 0 ≠ 3) from fun h => h.2 h3)
  obtain ⟨b, o, rfl, hlt, hc0⟩ := hb.br.at_ (j := 0) (List.length_pos_iff.2 h0)
  have hn0 : (0 : Int) < (n : Int) := by omega
  have hn12 : ((n : Int) < 12) = False := by simp; omega
  have hnI : (12 : Int) ≤ (n : Int) := by omega
  have hc1 : (w.alloc (.cells oZ.cells.toArray 32)).cell? ⟨b, o, none⟩ = some (.int .u8 3) := by
    have := (l1.cell (p := ⟨b, o + 0, none⟩) hlt).trans hc0
    cases bs with
    | nil => exact absurd rfl h0
    | cons x r =>
      have hx : x = 3 := h3
      subst hx
      simpa [bc] using this
  dsimp only [oZ, OV.cells] at hc1
  have HD := keep (fun k (hk : k ≤ 10) W (hW : Below w.heap.size w W) => show BS W (some ⟨b, o + k, none⟩) (n - k) (c - k) (bs.drop k) by
    have h1 := (hb.step hW).drop k (by omega)
    rw [if_neg (by omega)] at h1
    simp only [Option.map_some, Addr.add_lit] at h1
    exact h1)
  have G1 := keep (fun W (hW : Below w.heap.size w W) => refget_some _ _ _ _ 2 (by decide) (by decide) (by omega) W (HD.out 2 (by decide) W hW))
  have G2 := keep (fun W (hW : Below w.heap.size w W) => refget_some _ _ _ _ 4 (by decide) (by decide) (by omega) W (HD.out 4 (by decide) W hW))
  have G3 := keep (fun W (hW : Below w.heap.size w W) => refget_some _ _ _ _ 2 (by decide) (by decide) (by omega) W (HD.out 8 (by decide) W hW))
  have G4 := keep (fun W (hW : Below w.heap.size w W) => refget_some _ _ _ _ 2 (by decide) (by decide) (by omega) W (HD.out 10 (by decide) W hW))
  have hN9 := hN_lt bs h12
  have hM9 := hM_lt bs h12
  have hE : decE bs = if 256 < hN bs ∨ 256 < hM bs then 10 else if n - 12 < hN bs + hM bs then 2 else 3 := by
    by_cases hg : 256 < hN bs ∨ 256 < hM bs
    · rw [decE_large HE.out (by omega) hg, if_pos hg]
    · rw [decE_rest HE.out (by omega) hg, if_neg hg, ← hl]
      by_cases hs : n - 12 < hN bs + hM bs
      · rw [if_pos hs, if_pos hs]
      · rw [if_neg hs, if_neg hs, if_pos (by omega)]
  unfold hN hM at *
  unfold GetPost at G1 G2 G3 G4
  obtain ⟨np, hnp⟩ : ∃ x, numB ((bs.drop 2).take 2) = x := ⟨_, rfl⟩
  obtain ⟨nl, hnl⟩ : ∃ x, numB ((bs.drop 4).take 4) = x := ⟨_, rfl⟩
  obtain ⟨vn, hvn⟩ : ∃ x, numB ((bs.drop 8).take 2) = x := ⟨_, rfl⟩
  obtain ⟨vm, hvm⟩ : ∃ x, numB ((bs.drop 10).take 2) = x := ⟨_, rfl⟩
  rw [hnp] at G1
  rw [hnl] at G2
  rw [hvn] at G3 hN9 hbad hE
  rw [hvm] at G4 hM9 hbad hE
  have HEE := keep hE
  have L1 := keep l1
  have HCP := keep hcap
  clear hc0 hb h0 hvn hvm h3 h12 hl hnp hnl hE hlt l1
  by_cases h1 : 256 < vn
  · have i1 : (256 : Int) < (vn : Int) := by omega
    have hE := HEE.out
    rw [if_pos (Or.inl h1)] at hE
    have hE := keep hE
    clear HEE hbad
    go_enter Tryd.func17, Tryd.ntmps17
    go_wp2_with fail
    refine (G1.out _ L1.out).mono ?_
    rintro e w1 ⟨X1, d1, m1, rfl, _, hw1⟩
    have B1 := keep (show Below w.heap.size w w1 by rw [hw1]; exact below_drewNv L1.out m1)
    have Q1 := keep (show SQ w1 w.heap.size oZ by rw [hw1]; exact R1.out.step (below_drewNv (Below.refl _ _) m1))
    clear hw1 hc1
    go_wp2_with fail
    refine (G2.out _ B1.out).mono ?_
    rintro e w2 ⟨X2, d2, m2, rfl, _, hw2⟩
    have B2 := keep (show Below w.heap.size w w2 by rw [hw2]; exact below_drewNv B1.out m2)
    have Q2 := keep (show SQ w2 w.heap.size oZ by rw [hw2]; exact Q1.out.step (below_drewNv (Below.refl _ _) m2))
    clear hw2
    go_wp2_with fail
    refine (G3.out _ B2.out).mono ?_
    rintro e w3 ⟨X3, d3, m3, rfl, _, hw3⟩
    have B3 := keep (show Below w.heap.size w w3 by rw [hw3]; exact below_drewNv B2.out m3)
    have Q3 := keep (show SQ w3 w.heap.size oZ by rw [hw3]; exact Q2.out.step (below_drewNv (Below.refl _ _) m3))
    clear hw3
    go_wp2_with fail
    refine (G4.out _ B3.out).mono ?_
    rintro e w4 ⟨X4, d4, m4, rfl, _, hw4⟩
    have B4 := keep (show Below w.heap.size w w4 by rw [hw4]; exact below_drewNv B3.out m4)
    have Q4 := keep (show SQ w4 w.heap.size oZ by rw [hw4]; exact Q3.out.step (below_drewNv (Below.refl _ _) m4))
    clear hw4
    obtain ⟨z0, z1, z2, z3, z4⟩ := Q4.out.ob
    dsimp only [oZ] at z0 z1 z2 z3 z4
    have y0 := Q4.out.fz 0
    have y1 := Q4.out.fz 1
    have y2 := Q4.out.fz 2
    have y3 := Q4.out.fz 3
    have y4 := Q4.out.fz 4
    go_wp2_with fail
    exact bodyPost_ret (ret_rq1 rfl _ _ w.heap.size oZ rfl (Q4.out.laid5 oZ)) rfl (decP_bad hE.out (by decide) rfl (below5 B4.out (Nat.le_refl _) _ _ _ _ _))
  have i1 : ¬ ((256 : Int) < (vn : Int)) := by omega
  by_cases h2 : 256 < vm
  · have i2 : (256 : Int) < (vm : Int) := by omega
    have hE := HEE.out
    rw [if_pos (Or.inr h2)] at hE
    have hE := keep hE
    clear HEE hbad
    go_enter Tryd.func17, Tryd.ntmps17
    go_wp2_with fail
    refine (G1.out _ L1.out).mono ?_
    rintro e w1 ⟨X1, d1, m1, rfl, _, hw1⟩
    have B1 := keep (show Below w.heap.size w w1 by rw [hw1]; exact below_drewNv L1.out m1)
    have Q1 := keep (show SQ w1 w.heap.size oZ by rw [hw1]; exact R1.out.step (below_drewNv (Below.refl _ _) m1))
    clear hw1 hc1
    go_wp2_with fail
    refine (G2.out _ B1.out).mono ?_
    rintro e w2 ⟨X2, d2, m2, rfl, _, hw2⟩
    have B2 := keep (show Below w.heap.size w w2 by rw [hw2]; exact below_drewNv B1.out m2)
    have Q2 := keep (show SQ w2 w.heap.size oZ by rw [hw2]; exact Q1.out.step (below_drewNv (Below.refl _ _) m2))
    clear hw2
    go_wp2_with fail
    refine (G3.out _ B2.out).mono ?_
    rintro e w3 ⟨X3, d3, m3, rfl, _, hw3⟩
    have B3 := keep (show Below w.heap.size w w3 by rw [hw3]; exact below_drewNv B2.out m3)
    have Q3 := keep (show SQ w3 w.heap.size oZ by rw [hw3]; exact Q2.out.step (below_drewNv (Below.refl _ _) m3))
    clear hw3
    go_wp2_with fail
    refine (G4.out _ B3.out).mono ?_
    rintro e w4 ⟨X4, d4, m4, rfl, _, hw4⟩
    have B4 := keep (show Below w.heap.size w w4 by rw [hw4]; exact below_drewNv B3.out m4)
    have Q4 := keep (show SQ w4 w.heap.size oZ by rw [hw4]; exact Q3.out.step (below_drewNv (Below.refl _ _) m4))
    clear hw4
    obtain ⟨z0, z1, z2, z3, z4⟩ := Q4.out.ob
    dsimp only [oZ] at z0 z1 z2 z3 z4
    have y0 := Q4.out.fz 0
    have y1 := Q4.out.fz 1
    have y2 := Q4.out.fz 2
    have y3 := Q4.out.fz 3
    have y4 := Q4.out.fz 4
    go_wp2_with fail
    exact bodyPost_ret (ret_rq1 rfl _ _ w.heap.size oZ rfl (Q4.out.laid5 oZ)) rfl (decP_bad hE.out (by decide) rfl (below5 B4.out (Nat.le_refl _) _ _ _ _ _))
  have i2 : ¬ ((256 : Int) < (vm : Int)) := by omega
  have j1 : (vn : Int) < 256 + 1 := by omega
  have j2 : (vm : Int) < 256 + 1 := by omega
  have hE := HEE.out
  rw [if_neg (by omega)] at hE
  clear HEE
  by_cases h4 : n - 12 < vn + vm
  · rw [if_pos h4] at hE
    have hE := keep hE
    have i4 : (n : Int) < 12 + (vn : Int) + (vm : Int) := by omega
    clear hbad
    go_enter Tryd.func17, Tryd.ntmps17
    go_wp2_with fail
    refine (G1.out _ L1.out).mono ?_
    rintro e w1 ⟨X1, d1, m1, rfl, _, hw1⟩
    have B1 := keep (show Below w.heap.size w w1 by rw [hw1]; exact below_drewNv L1.out m1)
    have Q1 := keep (show SQ w1 w.heap.size oZ by rw [hw1]; exact R1.out.step (below_drewNv (Below.refl _ _) m1))
    clear hw1 hc1
    go_wp2_with fail
    refine (G2.out _ B1.out).mono ?_
    rintro e w2 ⟨X2, d2, m2, rfl, _, hw2⟩
    have B2 := keep (show Below w.heap.size w w2 by rw [hw2]; exact below_drewNv B1.out m2)
    have Q2 := keep (show SQ w2 w.heap.size oZ by rw [hw2]; exact Q1.out.step (below_drewNv (Below.refl _ _) m2))
    clear hw2
    go_wp2_with fail
    refine (G3.out _ B2.out).mono ?_
    rintro e w3 ⟨X3, d3, m3, rfl, _, hw3⟩
    have B3 := keep (show Below w.heap.size w w3 by rw [hw3]; exact below_drewNv B2.out m3)
    have Q3 := keep (show SQ w3 w.heap.size oZ by rw [hw3]; exact Q2.out.step (below_drewNv (Below.refl _ _) m3))
    clear hw3
    go_wp2_with fail
    refine (G4.out _ B3.out).mono ?_
    rintro e w4 ⟨X4, d4, m4, rfl, _, hw4⟩
    have B4 := keep (show Below w.heap.size w w4 by rw [hw4]; exact below_drewNv B3.out m4)
    have Q4 := keep (show SQ w4 w.heap.size oZ by rw [hw4]; exact Q3.out.step (below_drewNv (Below.refl _ _) m4))
    clear hw4
    obtain ⟨z0, z1, z2, z3, z4⟩ := Q4.out.ob
    dsimp only [oZ] at z0 z1 z2 z3 z4
    have y0 := Q4.out.fz 0
    have y1 := Q4.out.fz 1
    have y2 := Q4.out.fz 2
    have y3 := Q4.out.fz 3
    have y4 := Q4.out.fz 4
    go_wp2_with fail
    exact bodyPost_ret (ret_rq1 rfl _ _ w.heap.size oZ rfl (Q4.out.laid5 oZ)) rfl (decP_bad hE.out (by decide) rfl (below5 B4.out (Nat.le_refl _) _ _ _ _ _))
  · rw [if_neg h4] at hE
    have hE := keep hE
    have i4 : ¬ ((n : Int) < 12 + (vn : Int) + (vm : Int)) := by omega
    have i5 : 12 + (vn : Int) + (vm : Int) < (n : Int) := by omega
    clear hbad
    go_enter Tryd.func17, Tryd.ntmps17
    go_wp2_with fail
    refine (G1.out _ L1.out).mono ?_
    rintro e w1 ⟨X1, d1, m1, rfl, _, hw1⟩
    have B1 := keep (show Below w.heap.size w w1 by rw [hw1]; exact below_drewNv L1.out m1)
    have Q1 := keep (show SQ w1 w.heap.size oZ by rw [hw1]; exact R1.out.step (below_drewNv (Below.refl _ _) m1))
    clear hw1 hc1
    go_wp2_with fail
    refine (G2.out _ B1.out).mono ?_
    rintro e w2 ⟨X2, d2, m2, rfl, _, hw2⟩
    have B2 := keep (show Below w.heap.size w w2 by rw [hw2]; exact below_drewNv B1.out m2)
    have Q2 := keep (show SQ w2 w.heap.size oZ by rw [hw2]; exact Q1.out.step (below_drewNv (Below.refl _ _) m2))
    clear hw2
    go_wp2_with fail
    refine (G3.out _ B2.out).mono ?_
    rintro e w3 ⟨X3, d3, m3, rfl, _, hw3⟩
    have B3 := keep (show Below w.heap.size w w3 by rw [hw3]; exact below_drewNv B2.out m3)
    have Q3 := keep (show SQ w3 w.heap.size oZ by rw [hw3]; exact Q2.out.step (below_drewNv (Below.refl _ _) m3))
    clear hw3
    go_wp2_with fail
    refine (G4.out _ B3.out).mono ?_
    rintro e w4 ⟨X4, d4, m4, rfl, _, hw4⟩
    have B4 := keep (show Below w.heap.size w w4 by rw [hw4]; exact below_drewNv B3.out m4)
    have Q4 := keep (show SQ w4 w.heap.size oZ by rw [hw4]; exact Q3.out.step (below_drewNv (Below.refl _ _) m4))
    clear hw4
    obtain ⟨z0, z1, z2, z3, z4⟩ := Q4.out.ob
    dsimp only [oZ] at z0 z1 z2 z3 z4
    have y0 := Q4.out.fz 0
    have y1 := Q4.out.fz 1
    have y2 := Q4.out.fz 2
    have y3 := Q4.out.fz 3
    have y4 := Q4.out.fz 4
    go_wp2_with fail
    exact bodyPost_ret (ret_rq1 rfl _ _ w.heap.size oZ rfl (Q4.out.laid5 oZ)) rfl (decP_bad hE.out (by decide) rfl (below5 B4.out (Nat.le_refl _) _ _ _ _ _))
end Go.Proofs.YtapaiknghnbfmaaDoor
