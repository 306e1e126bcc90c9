/- KAT of the stage: texts Q12, joined. -/
import Derived.Test.YtffjdknmfmlfnaaKAO
set_option linter.unusedSimpArgs false
set_option linter.unusedVariables false
namespace Go.Proofs.Ytffjdknmfmlfnaa
section
open Go.RowKit Go.Maps

set_option maxRecDepth 100000 in
set_option maxHeartbeats 4000000 in
theorem copied_any (x : CZ) (w : World) (hx : ZV w x) (hs : Sm x) : Calls Try.prog 37 #[.agg x.cells.toArray] w (CopP w x) := by
  have HX := keep hx
  have HS := keep hs
  have HB0 : Hid (ZB ((w.alloc (.cells x.cells.toArray 45)).alloc (.cells zZero.cells.toArray 45)) w.heap.size x) := keep (below_new (heap_new_at rfl))
  have HB1 : Hid (ZB ((w.alloc (.cells x.cells.toArray 45)).alloc (.cells zZero.cells.toArray 45)) (w.heap.size + 1) zZero) := keep (heap_new_at (by simp))
  have HBW : Hid (Below w.heap.size w ((w.alloc (.cells x.cells.toArray 45)).alloc (.cells zZero.cells.toArray 45))) := keep (up (below_lay w _) (below_lay _ _))
  have hsz : Hid (((w.alloc (.cells x.cells.toArray 45)).alloc (.cells zZero.cells.toArray 45)).heap.size = w.heap.size + 2) := keep (by simp)
  clear hx hs
  obtain ⟨xk, xf, xa, xb, xo, xs, xp, ⟨x1, x2, x3⟩, ⟨x4, x5, x6⟩, ⟨x7, x8, x9⟩, ⟨x10, x11, x12⟩, ⟨x13, x14, x15⟩, xbl, xdu, xsk, xpr, xbs⟩ := x
  dsimp only [CZ.cells, zZero] at *
  go_enter Try.func37, Try.ntmps37
  go_wp2
  generalize hW0 : World.alloc _ _ = W0 at *
  clear hW0
  go_cut [] from 3 (fun wx => ∃ A1 n1 d1 A2 n2 d2 A3 n3 d3, Hid (Co1 w ⟨xk, xf, xa, xb, xo, xs, xp, ⟨x1, x2, x3⟩, ⟨x4, x5, x6⟩, ⟨x7, x8, x9⟩, ⟨x10, x11, x12⟩, ⟨x13, x14, x15⟩, xbl, xdu, xsk, xpr, xbs⟩ ⟨xk, xf, xa, xb, xo, xs, xp, ⟨A1, n1, d1⟩, ⟨A2, n2, d2⟩, ⟨A3, n3, d3⟩, ⟨x10, x11, x12⟩, ⟨x13, x14, x15⟩, xbl, xdu, xsk, xpr, xbs⟩ wx))
  case first =>
    have HD := keep (And.intro (show ZB W0.drew w.heap.size ⟨xk, xf, xa, xb, xo, xs, xp, ⟨x1, x2, x3⟩, ⟨x4, x5, x6⟩, ⟨x7, x8, x9⟩, ⟨x10, x11, x12⟩, ⟨x13, x14, x15⟩, xbl, xdu, xsk, xpr, xbs⟩ from HB0.out) (show ZB W0.drew (w.heap.size + 1) zZero from HB1.out))
    obtain ⟨_, c7, c8, c9, _, _⟩ := HD.out.1.all
    dsimp only at c7 c8 c9
    go_region_with (first
      | (go_at_call 58
         refine (cBlock_any x1 x2 x3 xbl _ (HX.out.step ?hb).bl HS.out.bl).mono ?_
         case hb => exact HBW.out.drew
         rintro e w1 ⟨A1, d1, rfl, hb1, ho1⟩
         have B1 := keep (HBW.out.drew.trans (hb1.mono HBW.out.drew.size))
         have D1 := keep (And.intro (HD.out.1.step hb1) (HD.out.2.step hb1))
         have O1 := keep (own_mono ho1 (Nat.le_of_eq hsz.out.symm))
         clear c7 c8 c9
         obtain ⟨_, c7, c8, c9, _, _⟩ := D1.out.1.all
         dsimp only at c7 c8 c9
         clear hb1 ho1)
      | (go_at_call 59
         refine (cU32_any x4 x5 x6 xdu _ (HX.out.step ?hb).du HS.out.du).mono ?_
         case hb => exact B1.out
         rintro e w2 ⟨A2, d2, rfl, hb2, ho2⟩
         have B2 := keep (B1.out.trans (hb2.mono B1.out.size))
         have D2 := keep (And.intro (D1.out.1.step hb2) (D1.out.2.step hb2))
         have O2 := keep (And.intro (own_step O1.out hb2) (own_mono ho2 (Nat.succ_le_of_lt (Array.getElem?_eq_some_iff.1 D1.out.2).1)))
         clear c7 c8 c9
         obtain ⟨_, c7, c8, c9, _, _⟩ := D2.out.1.all
         dsimp only at c7 c8 c9
         clear hb2 ho2)
      | (go_at_call 60
         refine (cSkip_any x7 x8 x9 xsk _ (HX.out.step ?hb).sk HS.out.sk).mono ?_
         case hb => exact B2.out
         rintro e w3 ⟨A3, d3, rfl, hb3, ho3⟩
         have B3 := keep (B2.out.trans (hb3.mono B2.out.size))
         have D3 := keep (And.intro (D2.out.1.step hb3) (D2.out.2.step hb3))
         have O3 := keep (And.intro (own_step O2.out.1 hb3) (And.intro (own_step O2.out.2 hb3) (own_mono ho3 (Nat.succ_le_of_lt (Array.getElem?_eq_some_iff.1 D2.out.2).1))))
         clear c7 c8 c9
         obtain ⟨_, c7, c8, c9, _, _⟩ := D3.out.1.all
         obtain ⟨f7, f8, f9, _, _⟩ := D3.out.1.fzs
         dsimp only at c7 c8 c9
         clear hb3 ho3))
    all_goals (try go_wp2_with fail)
    all_goals go_meet
    all_goals exact ⟨A1, _, d1, A2, _, d2, A3, _, d3, keep (Co1.mk3 B3.out D3.out.1 D3.out.2 O3.out.1 O3.out.2.1 O3.out.2.2)⟩
  case rest =>
    obtain ⟨A1, n1, d1, A2, n2, d2, A3, n3, d3, H1⟩ := hcut
    clear HB0 HB1 HBW hsz
    go_wp2
    go_cut [] from 3 (fun wx => ∃ A4 n4 d4 A5 n5 d5, Hid (Co3 w ⟨xk, xf, xa, xb, xo, xs, xp, ⟨x1, x2, x3⟩, ⟨x4, x5, x6⟩, ⟨x7, x8, x9⟩, ⟨x10, x11, x12⟩, ⟨x13, x14, x15⟩, xbl, xdu, xsk, xpr, xbs⟩ ⟨xk, xf, xa, xb, xo, xs, xp, ⟨A1, n1, d1⟩, ⟨A2, n2, d2⟩, ⟨A3, n3, d3⟩, ⟨A4, n4, d4⟩, ⟨A5, n5, d5⟩, xbl, xdu, xsk, xpr, xbs⟩ 0 wx))
    case first =>
      have HD := keep (And.intro (show ZB wc.drew w.heap.size _ from H1.out.b0) (show ZB wc.drew (w.heap.size + 1) zZero from H1.out.b1))
      have H1' := keep (And.intro (show World.ownsRow wc.drew _ _ _ _ _ _ from H1.out.bl) (And.intro (show World.ownsRow wc.drew _ _ _ _ _ _ from H1.out.du) (show World.ownsRow wc.drew _ _ _ _ _ _ from H1.out.sk)))
      obtain ⟨_, _, _, _, c10, c11⟩ := HD.out.1.all
      dsimp only at c10 c11
      go_region_with (first
        | (go_at_call 61
           refine (cParam_any x10 x11 x12 xpr _ (HX.out.step ?hb).pr HS.out.pr).mono ?_
           case hb => exact H1.out.below.drew
           rintro e w4 ⟨A4, d4, rfl, hb4, ho4⟩
           have B4 := keep (H1.out.below.drew.trans (hb4.mono H1.out.below.drew.size))
           have D4 := keep (And.intro (HD.out.1.step hb4) (HD.out.2.step hb4))
           have O4 := keep (And.intro (And.intro (own_step H1'.out.1 hb4) (And.intro (own_step H1'.out.2.1 hb4) (own_step H1'.out.2.2 hb4))) (own_mono ho4 (Nat.succ_le_of_lt (Array.getElem?_eq_some_iff.1 HD.out.2).1)))
           clear c10 c11
           obtain ⟨_, _, _, _, c10, c11⟩ := D4.out.1.all
           dsimp only at c10 c11
           clear hb4 ho4)
        | (go_at_call 62
           refine (cByte_any x13 x14 x15 xbs _ (bs_lr (HX.out.step ?hb).da) ?hn).mono ?_
           case hb => exact B4.out
           case hn => exact Nat.le_trans HS.out.da (by decide)
           rintro e w5 ⟨A5, d5, rfl, hb5, ho5⟩
           have B5 := keep (B4.out.trans (hb5.mono B4.out.size))
           have D5 := keep (And.intro (D4.out.1.step hb5) (D4.out.2.step hb5))
           have O5 := keep (And.intro (And.intro (own_step O4.out.1.1 hb5) (And.intro (own_step O4.out.1.2.1 hb5) (own_step O4.out.1.2.2 hb5))) (And.intro (own_step O4.out.2 hb5) (own_mono ho5 (Nat.succ_le_of_lt (Array.getElem?_eq_some_iff.1 D4.out.2).1))))
           clear c10 c11
           obtain ⟨_, _, _, _, c10, c11⟩ := D5.out.1.all
           obtain ⟨_, _, _, f10, f11⟩ := D5.out.1.fzs
           dsimp only at c10 c11
           clear hb5 ho5))
      all_goals (try go_wp2_with fail)
      all_goals go_meet
      all_goals exact ⟨A4, _, d4, A5, _, d5, keep (Co3.mk2 B5.out D5.out.1 D5.out.2 O5.out.1.1 O5.out.1.2.1 O5.out.1.2.2 O5.out.2.1 O5.out.2.2)⟩
    case rest =>
      obtain ⟨A4, n4, d4, A5, n5, d5, H3⟩ := hcut
      clear H1
      have hn4 : n4 = xpr.length := by
        have h1 := H3.out.pr.1
        rw [flatF_len PZ.len] at h1
        dsimp only at h1
        omega
      subst hn4
      have hsm := HS.out.pr
      have hxl := HX.out.pr.1
      dsimp only at hsm hxl
      rw [hxl] at hsm
      clear hxl
      obtain ⟨_, _, _, _, c10, _⟩ := H3.out.b0.all
      dsimp only at c10
      go_wp2
      go_loopw [3, 27] (fun _ i wr => ∃ (j : Nat) (y : CZ), j ≤ xpr.length ∧ i = .int .i64 j ∧ Hid (Co3 w ⟨xk, xf, xa, xb, xo, xs, xp, ⟨x1, x2, x3⟩, ⟨x4, x5, x6⟩, ⟨x7, x8, x9⟩, ⟨x10, x11, x12⟩, ⟨x13, x14, x15⟩, xbl, xdu, xsk, xpr, xbs⟩ y j wr) ∧ Hid (y.pr = (A4, xpr.length, d4))) (fun _ i _ => xpr.length - (intOf i).toNat)
      case atStart => exact ⟨0, _, Nat.zero_le _, rfl, H3, keep rfl⟩
      case round =>
        obtain ⟨j, y, hj, rfl, HY, HPR⟩ := hrel
        clear c10
        obtain ⟨_, _, _, _, c10, _⟩ := HY.out.b0.all
        rw [HPR.out] at c10
        dsimp only at c10
        by_cases hlt : j < xpr.length
        · have hyl : j < y.prs.length := by rw [HY.out.ln]; exact hlt
          obtain ⟨⟨pk, pa, pn, pc, pb⟩, hp⟩ : ∃ p, y.prs[j]? = some p := ⟨_, List.getElem?_eq_getElem hyl⟩
          have hpx := HY.out.od j (Nat.le_refl _)
          rw [hp] at hpx
          obtain ⟨hbs, hpl⟩ := HX.out.ps _ (List.mem_of_getElem? hpx.symm)
          dsimp only at hbs hpl
          obtain rfl : pn = pb.length := hbs.len
          have hne : flatF PZ.cells y.prs ≠ [] := by
            intro h0
            have := congrArg List.length h0
            rw [flatF_len PZ.len, List.length_nil] at this
            omega
          have hpr := HY.out.pr
          rw [HPR.out] at hpr
          obtain ⟨g, hg, hgb, hgc, hgf, _⟩ := own_row_at hpr hne
          dsimp only at hg
          have hg0 := hgc (j * 2) _ (by have := flatF_get (f := PZ.cells) PZ.len y.prs j _ hp 0 (by decide); rw [Nat.add_zero] at this; exact this.trans rfl)
          have hg1 := hgc (j * 2 + 1) _ (flatF_get (f := PZ.cells) PZ.len y.prs j _ hp 1 (by decide))
          have hgz := hgf (j * 2 + 1)
          subst hg
          have HP := keep hp
          have HBS := keep (hbs.step (HY.out.below.drew))
          have HLT := keep hlt
          have HPL := keep hpl
          have HD := keep (show ZB wr.drew w.heap.size y from HY.out.b0)
          have HGC := keep (show wr.drew.cell? ⟨g, j * 2 + 1, none⟩ = some (.slice pa pb.length pc) from hg1)
          have HGZ := keep hgz
          have HGL := keep (show g < wr.drew.heap.size from World.block_lt_of_cell? wr _ hg1)
          clear hp hpx hbs hpl hne hpr hgc hgf hyl
          go_wp2
          go_region_with (first
           | (go_at_call 62
              refine (cByte_any pa pb.length pc pb _ (bs_lr HBS.out) HPL.out).mono ?_
              rintro e w1 ⟨A6, d6, rfl, hb6, ho6⟩
              have D6 := HD.out.step hb6
              have B6 := keep (And.intro hb6 ho6)
              clear c10 hg0 hg1 hgz
              obtain ⟨_, _, _, _, c10, _⟩ := D6.all
              rw [HPR.out] at c10
              have hg1 := (hb6.cell (p := ⟨g, j * 2 + 1, none⟩) HGL.out).trans HGC.out
              have hgz := (hb6.frozen (p := ⟨g, j * 2 + 1, none⟩) HGL.out).trans (show wr.drew.frozen? ⟨g, j * 2 + 1, none⟩ = false from HGZ.out)
              dsimp only at c10
              clear hb6 ho6 D6))
          all_goals
            go_wp2
            go_roundw
            case rel => exact ⟨j + 1, _, by omega, by go_num, keep (Co3.next HY.out.drew HP.out B6.out.1 (by rw [← flat_by]; exact B6.out.2) HPL.out (by rw [HPR.out])), keep HPR.out⟩
            case measure => simp [intOf]; omega
        · obtain rfl : xpr.length = j := by omega
          clear c10
          obtain ⟨z, hz⟩ := HY.out.b1
          have HR := keep (Co3.ret HY.out HX.out HS.out)
          obtain ⟨⟨c0, c1, c2, c3, c4, c5, c6⟩, c7, c8, c9, c10, c11⟩ := HY.out.b0.all
          obtain ⟨⟨z0, z1, z2, z3, z4, z5, z6⟩, z7, z8, z9, z10, z11⟩ := hz.all
          obtain ⟨⟨f0, f1, f2, f3, f4, f5⟩, f6, f7, f8, f9, f10, f11⟩ := hz.fz12
          clear hz HY HPR
          go_wp2
          exact bodyPost_ret (ret_zchunk rfl _ _ (w.heap.size + 1) y rfl HR.out.1) rfl HR.out.2
end
end Go.Proofs.Ytffjdknmfmlfnaa
