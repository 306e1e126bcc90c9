/- KAG of the stage: texts Q12, Q15, Q16, joined. -/
import Derived.Test.YtnlkdlnmffibhaaGreatKAE
import Derived.Test.YtnlkdlnmffibhaaGreatKAF
import Derived.Deep.RegionLaw
set_option linter.unusedSimpArgs false
set_option linter.unusedVariables false
set_option maxRecDepth 8000
namespace Go.Proofs.YtnlkdlnmffibhaaGreat
open Go.Act renaming put → aP
section
open Go.RowKit Go.Maps
set_option maxRecDepth 100000 in
set_option maxHeartbeats 4000000 in
theorem copied_any (x : CZ) (w : World) (hx : ZV w x) (hs : Sm x) : Calls Tryz.prog 70 #[.agg x.cells.toArray] w (CopP w x) := by
  have HX := keep hx
  have HS := keep hs
  have HB0 : Hid (ZB ((w.alloc (.cells x.cells.toArray 41)).alloc (.cells zZero.cells.toArray 41)) w.heap.size x) := keep (below_new (heap_new_at rfl))
  have HB1 : Hid (ZB ((w.alloc (.cells x.cells.toArray 41)).alloc (.cells zZero.cells.toArray 41)) (w.heap.size + 1) zZero) := keep (heap_new_at (by simp))
  have HBW : Hid (Below w.heap.size w ((w.alloc (.cells x.cells.toArray 41)).alloc (.cells zZero.cells.toArray 41))) := keep (up (below_lay w _) (below_lay _ _))
  have hsz : Hid (((w.alloc (.cells x.cells.toArray 41)).alloc (.cells zZero.cells.toArray 41)).heap.size = w.heap.size + 2) := keep (by simp)
  clear hx hs
  obtain ⟨xk, xf, xa, xb, xo, xs, xp, ⟨x1, x2, x3⟩, ⟨x4, x5, x6⟩, ⟨x7, x8, x9⟩, ⟨x10, x11, x12⟩, ⟨x13, x14, x15⟩, xbl, xdu, xsk, xpr, xbs⟩ := x
  dsimp only [CZ.cells, zZero] at *
  go_enter Tryz.func70, Tryz.ntmps70
  go_wp2
  generalize hW0 : World.alloc _ _ = W0 at *
  clear hW0
  go_cut [] from 3 (fun wx => ∃ A1 n1 d1 A2 n2 d2 A3 n3 d3, Hid (Co1 w ⟨xk, xf, xa, xb, xo, xs, xp, ⟨x1, x2, x3⟩, ⟨x4, x5, x6⟩, ⟨x7, x8, x9⟩, ⟨x10, x11, x12⟩, ⟨x13, x14, x15⟩, xbl, xdu, xsk, xpr, xbs⟩ ⟨xk, xf, xa, xb, xo, xs, xp, ⟨A1, n1, d1⟩, ⟨A2, n2, d2⟩, ⟨A3, n3, d3⟩, ⟨x10, x11, x12⟩, ⟨x13, x14, x15⟩, xbl, xdu, xsk, xpr, xbs⟩ wx))
  case first =>
    have HD := keep (And.intro (show ZB W0.drew w.heap.size ⟨xk, xf, xa, xb, xo, xs, xp, ⟨x1, x2, x3⟩, ⟨x4, x5, x6⟩, ⟨x7, x8, x9⟩, ⟨x10, x11, x12⟩, ⟨x13, x14, x15⟩, xbl, xdu, xsk, xpr, xbs⟩ from HB0.out) (show ZB W0.drew (w.heap.size + 1) zZero from HB1.out))
    obtain ⟨_, c7, c8, c9, _, _⟩ := HD.out.1.all
    dsimp only at c7 c8 c9
    go_region_with (first
      | (go_at_call 103
         refine (cBlock_any x1 x2 x3 xbl _ (HX.out.step ?hb).bl HS.out.bl).mono ?_
         case hb => exact HBW.out.drew
         rintro e w1 ⟨A1, d1, rfl, hb1, ho1⟩
         have B1 := keep (HBW.out.drew.trans (hb1.mono HBW.out.drew.size))
         have D1 := keep (And.intro (HD.out.1.step hb1) (HD.out.2.step hb1))
         have O1 := keep (own_mono ho1 (Nat.le_of_eq hsz.out.symm))
         clear c7 c8 c9
         obtain ⟨_, c7, c8, c9, _, _⟩ := D1.out.1.all
         dsimp only at c7 c8 c9
         clear hb1 ho1)
      | (go_at_call 104
         refine (cU32_any x4 x5 x6 xdu _ (HX.out.step ?hb).du HS.out.du).mono ?_
         case hb => exact B1.out
         rintro e w2 ⟨A2, d2, rfl, hb2, ho2⟩
         have B2 := keep (B1.out.trans (hb2.mono B1.out.size))
         have D2 := keep (And.intro (D1.out.1.step hb2) (D1.out.2.step hb2))
         have O2 := keep (And.intro (own_step O1.out hb2) (own_mono ho2 (Nat.succ_le_of_lt (Array.getElem?_eq_some_iff.1 D1.out.2).1)))
         clear c7 c8 c9
         obtain ⟨_, c7, c8, c9, _, _⟩ := D2.out.1.all
         dsimp only at c7 c8 c9
         clear hb2 ho2)
      | (go_at_call 105
         refine (cSkip_any x7 x8 x9 xsk _ (HX.out.step ?hb).sk HS.out.sk).mono ?_
         case hb => exact B2.out
         rintro e w3 ⟨A3, d3, rfl, hb3, ho3⟩
         have B3 := keep (B2.out.trans (hb3.mono B2.out.size))
         have D3 := keep (And.intro (D2.out.1.step hb3) (D2.out.2.step hb3))
         have O3 := keep (And.intro (own_step O2.out.1 hb3) (And.intro (own_step O2.out.2 hb3) (own_mono ho3 (Nat.succ_le_of_lt (Array.getElem?_eq_some_iff.1 D2.out.2).1))))
         clear c7 c8 c9
         obtain ⟨_, c7, c8, c9, _, _⟩ := D3.out.1.all
         obtain ⟨f7, f8, f9, _, _⟩ := D3.out.1.fzs
         dsimp only at c7 c8 c9
         clear hb3 ho3))
    all_goals (try go_wp2_with fail)
    all_goals go_meet
    all_goals exact ⟨A1, _, d1, A2, _, d2, A3, _, d3, keep (Co1.mk3 B3.out D3.out.1 D3.out.2 O3.out.1 O3.out.2.1 O3.out.2.2)⟩
  case rest =>
    obtain ⟨A1, n1, d1, A2, n2, d2, A3, n3, d3, H1⟩ := hcut
    clear HB0 HB1 HBW hsz
    go_wp2
    go_cut [] from 3 (fun wx => ∃ A4 n4 d4 A5 n5 d5, Hid (Co3 w ⟨xk, xf, xa, xb, xo, xs, xp, ⟨x1, x2, x3⟩, ⟨x4, x5, x6⟩, ⟨x7, x8, x9⟩, ⟨x10, x11, x12⟩, ⟨x13, x14, x15⟩, xbl, xdu, xsk, xpr, xbs⟩ ⟨xk, xf, xa, xb, xo, xs, xp, ⟨A1, n1, d1⟩, ⟨A2, n2, d2⟩, ⟨A3, n3, d3⟩, ⟨A4, n4, d4⟩, ⟨A5, n5, d5⟩, xbl, xdu, xsk, xpr, xbs⟩ 0 wx))
    case first =>
      have HD := keep (And.intro (show ZB wc.drew w.heap.size _ from H1.out.b0) (show ZB wc.drew (w.heap.size + 1) zZero from H1.out.b1))
      have H1' := keep (And.intro (show World.ownsRow wc.drew _ _ _ _ _ _ from H1.out.bl) (And.intro (show World.ownsRow wc.drew _ _ _ _ _ _ from H1.out.du) (show World.ownsRow wc.drew _ _ _ _ _ _ from H1.out.sk)))
      obtain ⟨_, _, _, _, c10, c11⟩ := HD.out.1.all
      dsimp only at c10 c11
      go_region_with (first
        | (go_at_call 106
           refine (cParam_any x10 x11 x12 xpr _ (HX.out.step ?hb).pr HS.out.pr).mono ?_
           case hb => exact H1.out.below.drew
           rintro e w4 ⟨A4, d4, rfl, hb4, ho4⟩
           have B4 := keep (H1.out.below.drew.trans (hb4.mono H1.out.below.drew.size))
           have D4 := keep (And.intro (HD.out.1.step hb4) (HD.out.2.step hb4))
           have O4 := keep (And.intro (And.intro (own_step H1'.out.1 hb4) (And.intro (own_step H1'.out.2.1 hb4) (own_step H1'.out.2.2 hb4))) (own_mono ho4 (Nat.succ_le_of_lt (Array.getElem?_eq_some_iff.1 HD.out.2).1)))
           clear c10 c11
           obtain ⟨_, _, _, _, c10, c11⟩ := D4.out.1.all
           dsimp only at c10 c11
           clear hb4 ho4)
        | (go_at_call 65
           refine (cByte_any x13 x14 x15 xbs _ (bs_lr (HX.out.step ?hb).da) ?hn).mono ?_
           case hb => exact B4.out
           case hn => exact Nat.le_trans HS.out.da (by decide)
           rintro e w5 ⟨A5, d5, rfl, hb5, ho5⟩
           have B5 := keep (B4.out.trans (hb5.mono B4.out.size))
           have D5 := keep (And.intro (D4.out.1.step hb5) (D4.out.2.step hb5))
           have O5 := keep (And.intro (And.intro (own_step O4.out.1.1 hb5) (And.intro (own_step O4.out.1.2.1 hb5) (own_step O4.out.1.2.2 hb5))) (And.intro (own_step O4.out.2 hb5) (own_mono ho5 (Nat.succ_le_of_lt (Array.getElem?_eq_some_iff.1 D4.out.2).1))))
           clear c10 c11
           obtain ⟨_, _, _, _, c10, c11⟩ := D5.out.1.all
           obtain ⟨_, _, _, f10, f11⟩ := D5.out.1.fzs
           dsimp only at c10 c11
           clear hb5 ho5))
      all_goals (try go_wp2_with fail)
      all_goals go_meet
      all_goals exact ⟨A4, _, d4, A5, _, d5, keep (Co3.mk2 B5.out D5.out.1 D5.out.2 O5.out.1.1 O5.out.1.2.1 O5.out.1.2.2 O5.out.2.1 O5.out.2.2)⟩
    case rest =>
      obtain ⟨A4, n4, d4, A5, n5, d5, H3⟩ := hcut
      clear H1
      have hn4 : n4 = xpr.length := by
        have h1 := H3.out.pr.1
        rw [flatF_len PZ.len] at h1
        dsimp only at h1
        omega
      subst hn4
      have hsm := HS.out.pr
      have hxl := HX.out.pr.1
      dsimp only at hsm hxl
      rw [hxl] at hsm
      clear hxl
      obtain ⟨_, _, _, _, c10, _⟩ := H3.out.b0.all
      dsimp only at c10
      go_wp2
      go_loopw [3, 27] (fun _ i wr => ∃ (j : Nat) (y : CZ), j ≤ xpr.length ∧ i = .int .i64 j ∧ Hid (Co3 w ⟨xk, xf, xa, xb, xo, xs, xp, ⟨x1, x2, x3⟩, ⟨x4, x5, x6⟩, ⟨x7, x8, x9⟩, ⟨x10, x11, x12⟩, ⟨x13, x14, x15⟩, xbl, xdu, xsk, xpr, xbs⟩ y j wr) ∧ Hid (y.pr = (A4, xpr.length, d4))) (fun _ i _ => xpr.length - (intOf i).toNat)
      case atStart => exact ⟨0, _, Nat.zero_le _, rfl, H3, keep rfl⟩
      case round =>
        obtain ⟨j, y, hj, rfl, HY, HPR⟩ := hrel
        clear c10
        obtain ⟨_, _, _, _, c10, _⟩ := HY.out.b0.all
        rw [HPR.out] at c10
        dsimp only at c10
        by_cases hlt : j < xpr.length
        · have hyl : j < y.prs.length := by rw [HY.out.ln]; exact hlt
          obtain ⟨⟨pk, pa, pn, pc, pb⟩, hp⟩ : ∃ p, y.prs[j]? = some p := ⟨_, List.getElem?_eq_getElem hyl⟩
          have hpx := HY.out.od j (Nat.le_refl _)
          rw [hp] at hpx
          obtain ⟨hbs, hpl⟩ := HX.out.ps _ (List.mem_of_getElem? hpx.symm)
          dsimp only at hbs hpl
          obtain rfl : pn = pb.length := hbs.len
          have hne : flatF PZ.cells y.prs ≠ [] := by
            intro h0
            have := congrArg List.length h0
            rw [flatF_len PZ.len, List.length_nil] at this
            omega
          have hpr := HY.out.pr
          rw [HPR.out] at hpr
          obtain ⟨g, hg, hgb, hgc, hgf, _⟩ := own_row_at hpr hne
          dsimp only at hg
          have hg0 := hgc (j * 2) _ (by have := flatF_get (f := PZ.cells) PZ.len y.prs j _ hp 0 (by decide); rw [Nat.add_zero] at this; exact this.trans rfl)
          have hg1 := hgc (j * 2 + 1) _ (flatF_get (f := PZ.cells) PZ.len y.prs j _ hp 1 (by decide))
          have hgz := hgf (j * 2 + 1)
          subst hg
          have HP := keep hp
          have HBS := keep (hbs.step (HY.out.below.drew))
          have HLT := keep hlt
          have HPL := keep hpl
          have HD := keep (show ZB wr.drew w.heap.size y from HY.out.b0)
          have HGC := keep (show wr.drew.cell? ⟨g, j * 2 + 1, none⟩ = some (.slice pa pb.length pc) from hg1)
          have HGZ := keep hgz
          have HGL := keep (show g < wr.drew.heap.size from World.block_lt_of_cell? wr _ hg1)
          clear hp hpx hbs hpl hne hpr hgc hgf hyl
          go_wp2
          go_region_with (first
           | (go_at_call 65
              refine (cByte_any pa pb.length pc pb _ (bs_lr HBS.out) HPL.out).mono ?_
              rintro e w1 ⟨A6, d6, rfl, hb6, ho6⟩
              have D6 := HD.out.step hb6
              have B6 := keep (And.intro hb6 ho6)
              clear c10 hg0 hg1 hgz
              obtain ⟨_, _, _, _, c10, _⟩ := D6.all
              rw [HPR.out] at c10
              have hg1 := (hb6.cell (p := ⟨g, j * 2 + 1, none⟩) HGL.out).trans HGC.out
              have hgz := (hb6.frozen (p := ⟨g, j * 2 + 1, none⟩) HGL.out).trans (show wr.drew.frozen? ⟨g, j * 2 + 1, none⟩ = false from HGZ.out)
              dsimp only at c10
              clear hb6 ho6 D6))
          all_goals
            go_wp2
            go_roundw
            case rel => exact ⟨j + 1, _, by omega, by go_num, keep (Co3.next HY.out.drew HP.out B6.out.1 (by rw [← flat_by]; exact B6.out.2) HPL.out (by rw [HPR.out])), keep HPR.out⟩
            case measure => simp [intOf]; omega
        · obtain rfl : xpr.length = j := by omega
          clear c10
          obtain ⟨z, hz⟩ := HY.out.b1
          have HR := keep (Co3.ret HY.out HX.out HS.out)
          obtain ⟨⟨c0, c1, c2, c3, c4, c5, c6⟩, c7, c8, c9, c10, c11⟩ := HY.out.b0.all
          obtain ⟨⟨z0, z1, z2, z3, z4, z5, z6⟩, z7, z8, z9, z10, z11⟩ := hz.all
          obtain ⟨⟨f0, f1, f2, f3, f4, f5⟩, f6, f7, f8, f9, f10, f11⟩ := hz.fz12
          clear hz HY HPR
          go_wp2
          exact bodyPost_ret (ret_zchunk rfl _ _ (w.heap.size + 1) y rfl HR.out.1) rfl HR.out.2
end
section
open Go.RowKit Go.Maps
theorem Push_arg {w : World} {G : Gq} {q : Qm} (h : QA w G q) {s : SL} {l : List CZ} (hl : ZS w s l) (hn : s.2.1 ≤ 1000000) (un tr : Int) (hu : l = [] ∨ l.any unfitB = true) :
    Calls Tryz.prog 35 #[.pointer (some ⟨G.b, 0, none⟩), .slice s.1 s.2.1 s.2.2, .int .i64 un, .int .i64 tr] w fun e w' => e = .returned (.int .i64 1) ∧ Below w.heap.size w w' := by
  have HK := keep (cContains_any s l w hl hn)
  have hl1 := hl.1.1
  by_cases h0 : l = []
  · subst h0
    have hs : s.2.1 = 0 := hl1
    clear h hl hn hu HK hl1
    obtain ⟨s1, s2, s3⟩ := s
    dsimp only at hs ⊢
    subst hs
    go_enter Tryz.func35, Tryz.ntmps35
    go_wp2
    go_ret
    exact ⟨rfl, Below.refl _ _⟩
  · have hany := hu.resolve_left h0
    rw [hany] at HK
    have hs : s.2.1 ≠ 0 := fun e => h0 (List.eq_nil_of_length_eq_zero (by rw [← hl1]; exact e))
    have hs' : ((s.2.1 : Int) == 0) = false := by simp; exact hs
    clear h hl hn hu hl1 h0 hany hs
    obtain ⟨s1, s2, s3⟩ := s
    dsimp only at hs' HK ⊢
    go_enter Tryz.func35, Tryz.ntmps35
    go_wp2_with (go_at_call 68; refine HK.out.mono ?_; rintro e w1 ⟨rfl, hb1⟩; replace hb1 := keep hb1)
    go_ret
    exact ⟨rfl, hb1.out⟩
theorem ZS.kept {ok : Nat → Prop} {A B : World} {s : SL} {l : List CZ} (h : ZS A s l) (k : Kpt ok A B) (hs : InF ok s.1) (ha : ∀ x ∈ l, ∀ p ∈ x.ads, InF ok p) : ZS B s l := ⟨h.1.kept k hs, fun x hx => (h.2 x hx).kept k (ha x hx)⟩
theorem QA.b_grown {w : World} {G : Gq} {q : Qm} (h : QA w G q) {w1 : World} (hg : w.grownBy w1 (Value.slice G.s.1 G.s.2.1 G.s.2.2).ownBlock) : w1.cell? ⟨G.b, 0, none⟩ = some (.slice G.s.1 G.s.2.1 G.s.2.2) ∧ w1.frozen? ⟨G.b, 0, none⟩ = false := by
  have hb := (hg.block _ (h.olt _ h.ob) fun ee => by
    obtain ⟨cur, fr', hcur⟩ := own_cells h.row ee.symm
    exact cells_cells h.blk hcur (by decide) rfl).trans h.blk
  exact ⟨upd_cell hb 0 _ rfl, upd_fz hb 0⟩
theorem ZV.a_ {w : World} {x : CZ} (h : ZV w x) {nx : Int} (hn : 0 ≤ nx ∧ nx < 4294967296) : ZV w { x with a := nx } := ⟨h.kd, h.fl, hn, h.b, h.ou, h.si, h.pp, h.bl, h.du, h.sk, h.pr, h.ps, h.da⟩
theorem Sm.a_ {x : CZ} (h : Sm x) (nx : Int) : Sm { x with a := nx } := ⟨h.bl, h.du, h.sk, h.pr, h.da⟩
def PuI (w : World) (G : Gq) (q : Qm) (l : List CZ) (un tr : Int) (m j : Nat) (W : World) : Prop :=
  ∃ G' new, QA W G' (pushQ q new m un tr) ∧ Ltr w G W G' ∧ PushN q l m j new ∧ G'.O m ∧ MgAt W m ⟨un, tr, false⟩
theorem push_mid {W : World} {G : Gq} {q : Qm} {m : Nat} (h : QA W G q) (hm : G.O m) {un tr : Int} (hmg : MgAt W m ⟨un, tr, false⟩) (hqm : q.mg m = ⟨un, tr, false⟩) {w3 : World} (hb : Below W.heap.size W w3) {y : CZ} (hz : ZV w3 y) (hs : Sm y) (hi : ∀ p ∈ y.ads, InF (fun k => W.heap.size ≤ k ∧ k < w3.heap.size) p) (hle : q.es.length + 1 ≤ 1024)
    {W4 : World} (hW4 : W4 = (w3.alloc (.cells (En.cells ⟨w3.heap.size, y, m, 0, 0, 0, 0⟩).toArray 96)).alloc (.cells #[.pointer (some ⟨w3.heap.size, 0, none⟩)] 91)) {w5 : World} {A : Option Addr} {c : Nat}
    (ho : w5.ownsRow 0 91 1 (.slice A (G.s.2.1 + 1) c) (G.s.2.1 + 1) (q.es.map En.ptr ++ [.pointer (some ⟨w3.heap.size, 0, none⟩)])) (hg : W4.grownBy w5 (Value.slice G.s.1 G.s.2.1 G.s.2.2).ownBlock)
    (hl : (Value.slice A (G.s.2.1 + 1) c).ownBlock = (Value.slice G.s.1 G.s.2.1 G.s.2.2).ownBlock ∨ (Value.slice A (G.s.2.1 + 1) c).ownBlock = some W4.heap.size) :
    QA (w5.setCell ⟨G.b, 0, none⟩ (.slice A (G.s.2.1 + 1) c)) (appG G (A, G.s.2.1 + 1, c) ⟨w3.heap.size, y, m, 0, 0, 0, 0⟩) { q with es := q.es ++ [⟨w3.heap.size, y, m, 0, 0, 0, 0⟩] } ∧ Ltr W G (w5.setCell ⟨G.b, 0, none⟩ (.slice A (G.s.2.1 + 1) c)) (appG G (A, G.s.2.1 + 1, c) ⟨w3.heap.size, y, m, 0, 0, 0, 0⟩) ∧ MgAt (w5.setCell ⟨G.b, 0, none⟩ (.slice A (G.s.2.1 + 1) c)) m ⟨un, tr, false⟩ := by
  have hb4 : Below W.heap.size W W4 := by
    rw [hW4]
    exact up hb (up (below_lay w3 _) (below_lay _ _))
  have hb34 : Below w3.heap.size w3 W4 := by
    rw [hW4]
    exact up (below_lay w3 _) (below_lay _ _)
  have hs4 : w3.heap.size < W4.heap.size := by rw [hW4]; simp; omega
  have h4 := h.step hb4
  have hmg4 : MgAt W4 m ⟨un, tr, false⟩ := (hb4.block _ (Array.getElem?_eq_some_iff.1 hmg).1).trans hmg
  have ha : ∀ i, adB y i → W.heap.size ≤ i ∧ i < w3.heap.size := fun i ⟨B, hB, a, ea, hi'⟩ => by rw [← hi']; exact hi B hB a ea
  obtain ⟨r1, r2⟩ := h4.app (N := W.heap.size) (fun i hi => by
      rcases hi with hi | hi
      · exact h.olt i hi
      · exact h.flt i hi) (e := ⟨w3.heap.size, y, m, 0, 0, 0, 0⟩) (by rw [hW4]; exact below_new (heap_new_at rfl)) (hz.step hb34) hs (fun i hi => ⟨(ha i hi).1, Nat.lt_trans (ha i hi).2 hs4, Nat.ne_of_lt (ha i hi).2⟩) hb.size hm (by rw [hqm]; exact hmg4) hle ho hg hl
  refine ⟨r1, ⟨rfl, (Part.of_below G.O hb4).trans r2 fun i hi => .inl hi, fun i hi => ?_, fun i hi => ?_⟩, ?_⟩
  · rcases hi with hi | rfl | hi
    · exact .inl hi
    · exact .inr hb.size
    · rcases hl with hl | hl
      · rw [show (Value.slice (A, G.s.2.1 + 1, c).1 (A, G.s.2.1 + 1, c).2.1 (A, G.s.2.1 + 1, c).2.2).ownBlock = _ from hl] at hi
        exact .inl (h.ov i hi)
      · rw [show (Value.slice (A, G.s.2.1 + 1, c).1 (A, G.s.2.1 + 1, c).2.1 (A, G.s.2.1 + 1, c).2.2).ownBlock = _ from hl] at hi
        injection hi with hi
        exact .inr (by rw [← hi]; exact hb4.size)
  · rcases hi with hi | hi
    · exact .inl hi
    · exact .inr (ha i hi).1
  · have := (r1.en ⟨w3.heap.size, y, m, 0, 0, 0, 0⟩ (List.mem_append_right _ (List.mem_singleton.2 rfl))).2.2.1
    rw [show ({ q with es := q.es ++ [⟨w3.heap.size, y, m, 0, 0, 0, 0⟩] } : Qm).mg m = q.mg m from rfl, hqm] at this
    exact this
theorem push_next {w : World} {G : Gq} {q : Qm} {l : List CZ} {un tr : Int} {m j : Nat} {new : List En} {W : World} {G' G2 : Gq} {W0 : World} {x : CZ} {e : En} (hlr : Ltr w G W0 G') (hpn : PushN q l m j new) (hO : G'.O m)
    (h : QA W G2 { pushQ q new m un tr with es := (q.es ++ new) ++ [e] }) (hl : Ltr W0 G' W G2) (hmg : MgAt W m ⟨un, tr, false⟩) (hO2 : ∀ i, G'.O i → G2.O i) (hx : l[j]? = some x) (hct : e.c.ct = { x.ct with a := (q.nx + (new.length : Int)) % 4294967296 }) (hd : e.c.da.2.1 = x.da.2.1) (he : e.m = m ∧ e.st = 0 ∧ e.sn = 0 ∧ e.la = 0 ∧ e.ms = 0) :
    PuI w G q l un tr m (j + 1) (W.setCell ⟨G2.b, 1, none⟩ (.int .u32 (((q.nx + (new.length : Int)) % 4294967296 + 1) % 4294967296))) := by
  obtain ⟨r1, r2⟩ := h.setN (nx := ((q.nx + (new.length : Int)) % 4294967296 + 1) % 4294967296) (by omega)
  refine ⟨G2, new ++ [e], ?_, hlr.trans (hl.trans ⟨rfl, r2.mono fun i hi => by rw [hi]; exact h.ob, fun i hi => .inl hi, fun i hi => .inl hi⟩), ⟨by rw [List.length_append, hpn.len]; rfl, fun i c e' hc he' => ?_⟩, hO2 _ hO, ?_⟩
  · have e1 : ((q.nx + (new.length : Int)) % 4294967296 + 1) % 4294967296 = (q.nx + ((new ++ [e]).length : Int)) % 4294967296 := by
      rw [List.length_append, List.length_singleton]
      omega
    rw [e1] at r1 ⊢
    unfold pushQ
    rw [← List.append_assoc]
    exact r1
  · rw [List.getElem?_append] at he'
    split at he'
    · exact hpn.all i c e' hc he'
    · rename_i hni
      have hl1 : i < (new ++ [e]).length := by
        have := (List.getElem?_eq_some_iff.1 he').1
        rw [List.length_append, List.length_singleton]
        simp at this
        omega
      have hij : i = j := by
        rw [List.length_append, List.length_singleton] at hl1
        have := hpn.len
        omega
      subst hij
      rw [hpn.len, Nat.sub_self] at he'
      injection he' with he'
      subst he'
      rw [hx] at hc
      injection hc with hc
      subst hc
      refine ⟨?_, hd, he⟩
      rw [hct, hpn.len]
  · exact set_other hmg fun e => cells_cells hmg h.blk (by decide) e
set_option maxRecDepth 100000 in
set_option maxHeartbeats 4000000 in
theorem Push_ok {w : World} {G : Gq} {q : Qm} (h : QA w G q) {s : SL} {l : List CZ} (hl : ZS w s l) (hn : s.2.1 ≤ 1000000) (hsm : ∀ x ∈ l, Sm x) (hap : InF (fun i => ¬ G.O i) s.1 ∧ ∀ x ∈ l, ∀ A ∈ x.ads, InF (fun i => ¬ G.O i) A) (un tr : Int) (hu : ¬ (l = [] ∨ l.any unfitB = true)) (hf : ¬ 1024 < q.es.length + l.length) :
    Calls Tryz.prog 35 #[.pointer (some ⟨G.b, 0, none⟩), .slice s.1 s.2.1 s.2.2, .int .i64 un, .int .i64 tr] w fun e w' => e = .returned (.int .i64 0) ∧ ∃ m, w.heap.size ≤ m ∧ PuI w G q l un tr m l.length w' := by
  have HK := keep (cContains_any s l w hl hn)
  have hl1 := hl.1.1
  have h0 : l ≠ [] := fun e => hu (.inl e)
  have hany : l.any unfitB = false := by simpa using fun e => hu (.inr e)
  rw [hany] at HK
  have hs : s.2.1 ≠ 0 := fun e => h0 (List.eq_nil_of_length_eq_zero (by rw [← hl1]; exact e))
  have hs' : ((s.2.1 : Int) == 0) = false := by simp; exact hs
  have HB := keep (fun W (hb : Below w.heap.size w W) => (h.step hb).b0.1)
  have hle := h.le
  have hfull : ¬ (1024 : Int) - (G.s.2.1 : Int) < (s.2.1 : Int) := by rw [h.n]; omega
  have hr : (G.s.2.1 : Int) ≤ 1024 := by rw [h.n]; omega
  have HH := keep h
  have HL := keep hl
  have HSM := keep hsm
  have HAP := keep hap
  have HF := keep hf
  have HN := keep hl1
  have hl2 : s.2.1 ≤ 1024 := by omega
  clear h hl hn hu h0 hany hs hf hle hsm hap
  obtain ⟨s1, s2, s3⟩ := s
  dsimp only at hl1
  subst hl1
  have Gb : ∃ b, b = G.b := ⟨_, rfl⟩
  dsimp only at *
  go_enter Tryz.func35, Tryz.ntmps35
  go_wp2_with (go_at_call 68; refine HK.out.mono ?_; rintro e w1 ⟨rfl, hb1⟩; have c0 := HB.out w1 hb1; replace hb1 := keep hb1)
  have hm := keep (show w.heap.size ≤ w1.heap.size from hb1.out.size)
  have I0 : PuI w G q l un tr w1.heap.size 0 (w1.alloc (.cells #[.int .i64 un, .int .i64 tr, .bool false] 93)) := by
    have hq1 := HH.out.step (hb1.out.trans ((below_lay w1 (.cells #[.int .i64 un, .int .i64 tr, .bool false] 93)).mono hb1.out.size))
    have hq2 := hq1.msg (m := w1.heap.size) (g := ⟨un, tr, false⟩) (heap_alloc_new w1 _) ⟨fun hO => by have := HH.out.olt _ hO; have := hm.out; omega, fun hF => by have := HH.out.flt _ hF; have := hm.out; omega⟩
    have hnx := HH.out.nx
    refine ⟨{ G with O := fun i => G.O i ∨ i = w1.heap.size }, [], ?_, ⟨rfl, Part.of_below _ (hb1.out.trans ((below_lay w1 _).mono hb1.out.size)), fun i hi => ?_, fun i hi => .inl hi⟩, ⟨rfl, fun i c e _ h => by simp at h⟩, .inr rfl, heap_alloc_new w1 _⟩
    · unfold pushQ
      rw [List.append_nil, List.length_nil, show (q.nx + ((0 : Nat) : Int)) % 4294967296 = q.nx by omega]
      exact hq2
    · rcases hi with hi | rfl
      · exact .inl hi
      · exact .inr hm.out
  replace I0 := keep I0
  go_loopw [11, 40] (fun _ i wr => ∃ j : Nat, j ≤ l.length ∧ i = .int .i64 j ∧ Hid (PuI w G q l un tr w1.heap.size j wr)) (fun _ i _ => l.length - (intOf i).toNat)
  case atStart => exact ⟨0, Nat.zero_le _, rfl, I0⟩
  case round =>
    obtain ⟨j, hj, rfl, HI⟩ := hrel
    clear c0
    by_cases hlt : j < l.length
    · obtain ⟨G', new, hq, hlr, hpn, hGm, hMg⟩ := HI.out
      have hz := HL.out.kept (Kpt.of_part (ok := fun i => ¬ G.O i) hlr.part fun _ h => h) HAP.out.1 HAP.out.2
      obtain ⟨b, o, x, hA, hbl, hz12, hlj, hzv⟩ := hz.at_ hlt
      dsimp only at hA
      subst hA
      have HX := keep hlj
      have HSX := keep ((HSM.out x (List.mem_of_getElem? hlj)).a_ ((q.nx + (new.length : Int)) % 4294967296))
      have HB0 := keep (below_lay wr (.cells { x with a := (q.nx + (new.length : Int)) % 4294967296 : CZ }.cells.toArray 41))
      have HV := keep ((hzv.step HB0.out).a_ (nx := (q.nx + (new.length : Int)) % 4294967296) (by omega))
      obtain ⟨b', ⟨g1, g2, g3⟩, O', F'⟩ := G'
      obtain rfl : b' = G.b := hlr.b
      have hg2 := hq.n
      have HG2 : Hid (g2 = q.es.length + new.length) := keep (by rw [show g2 = _ from hg2]; simp [pushQ])
      have c0 := hq.b0.1
      have c1 := hq.b0.2.1
      have f0 := hq.b0.2.2.1
      have f1 := hq.b0.2.2.2
      have HQ := keep (And.intro hq (And.intro hlr (And.intro hpn (And.intro hGm hMg))))
      have HNL := keep hpn.len
      have hqb := hq.olt _ hq.ob
      have hge : g2 ≤ 1024 := by have := hq.le; rw [← hg2] at this; exact this
      dsimp only [pushQ] at c0 c1 f0 f1 hqb
      generalize hnxv : (q.nx + (new.length : Int)) % 4294967296 = nx at c1 HB0 HV HSX
      have HNX := keep hnxv
      obtain ⟨i0, hi0, hiz, his, hib⟩ := info_parts cPtr_info
      clear hq hlr hpn hGm hMg hz hlj hzv hnxv hg2
      obtain ⟨xk, xf, xa, xb, xo, xs, xp, ⟨x1, x2, x3⟩, ⟨x4, x5, x6⟩, ⟨x7, x8, x9⟩, ⟨x10, x11, x12⟩, ⟨x13, x14, x15⟩, xbl, xdu, xsk, xpr, xbs⟩ := x
      dsimp only [Z12] at hz12
      dsimp only [CZ.cells] at HB0 HV HSX
      obtain ⟨z0, z1, z2, z3, z4, z5, z6, z7, z8, z9, z10, z11⟩ := hz12
      go_wp2
      go_region_law (first
        | (refine step_appendA (S := 1) (by decide) rfl (.tmp 53) (.tmp 59) 89 rfl 0 91 i0 (.pointer none) Tryz.underlying89 hi0 hiz his rfl _ g2 _ (by simp [Act.eval, aP]) HQ4.out.row _ 1 1 [.pointer (some ⟨w3.heap.size, 0, none⟩)] (by simp [Act.eval, aP]) rfl HN4.out (by simp [Value.oneCell']) (by unfold maxLen; omega) (by rw [hib]; omega) (Nat.zero_le _) ?_
           intro A5 c5 w5 ho5 hg5 hl5
           have HA5 := keep (And.intro ho5 (And.intro hg5 hl5))
           obtain ⟨c0, f0⟩ := HQ4.out.b_grown hg5
           dsimp only at c0 f0
           clear ho5 hg5 hl5)
        | (go_simp
           go_at_call 70
           refine (copied_any ⟨xk, xf, nx, xb, xo, xs, xp, ⟨x1, x2, x3⟩, ⟨x4, x5, x6⟩, ⟨x7, x8, x9⟩, ⟨x10, x11, x12⟩, ⟨x13, x14, x15⟩, xbl, xdu, xsk, xpr, xbs⟩ _ (HV.out.step (Below.refl _ _).drew) HSX.out).mono ?_
           rintro e w3 ⟨⟨yk, yf, ya, yb, yo, ys, yp, ⟨y1, y2, y3⟩, ⟨y4, y5, y6⟩, ⟨y7, y8, y9⟩, ⟨y10, y11, y12⟩, ⟨y13, y14, y15⟩, ybl, ydu, ysk, ypr, ybs⟩, rfl, hy⟩
           have HY := keep hy
           have hb3 : Below wr.heap.size wr w3 := HB0.out.drew.trans (hy.2.2.2.2.2.2.mono HB0.out.drew.size)
           have HB3 := keep hb3
           have hq3 := HQ.out.1.step hb3
           have hqb3 := hq3.olt _ hq3.ob
           clear c0 c1 f0 f1
           obtain ⟨c0, c1, f0, f1⟩ := hq3.b0
           dsimp only [pushQ] at c0 c1 f0 f1 hqb3
           rw [HNX.out] at c1
           have HQ4 := keep (hq3.step (up (below_lay w3 (.cells #[.int .u8 yk, .int .u8 yf, .int .u32 ya, .int .u32 yb, .int .u16 yo, .int .u16 ys, .int .u32 yp, .slice y1 y2 y3, .slice y4 y5 y6, .slice y7 y8 y9, .slice y10 y11 y12, .slice y13 y14 y15, .pointer (some ⟨w1.heap.size, 0, none⟩), .int .i64 0, .int .i64 0, .int .i64 0, .int .i64 0] 96)) (below_lay _ (.cells #[.pointer (some ⟨w3.heap.size, 0, none⟩)] 91))))
           have HN4 := keep (cell_one_new (w3.alloc (.cells #[.int .u8 yk, .int .u8 yf, .int .u32 ya, .int .u32 yb, .int .u16 yo, .int .u16 ys, .int .u32 yp, .slice y1 y2 y3, .slice y4 y5 y6, .slice y7 y8 y9, .slice y10 y11 y12, .slice y13 y14 y15, .pointer (some ⟨w1.heap.size, 0, none⟩), .int .i64 0, .int .i64 0, .int .i64 0, .int .i64 0] 96)) (.pointer (some ⟨w3.heap.size, 0, none⟩)) 91)
           rw [World.size_alloc] at HN4
           clear hy hb3 hq3
           dsimp only [CZ.cells]))
      all_goals
        have hy := HY.out
        obtain ⟨r1, r2, r3⟩ := push_mid HQ.out.1 HQ.out.2.2.2.1 HQ.out.2.2.2.2 (by unfold pushQ; dsimp only; rw [if_pos rfl]) HB3.out hy.2.2.1 hy.2.2.2.1 (fun p hp a ea => ⟨Nat.le_trans HB0.out.size (hy.2.2.2.2.1 p hp a ea).1, (hy.2.2.2.2.1 p hp a ea).2⟩) (by have := HF.out; have := HNL.out; have := hlt; simp only [pushQ, List.length_append]; omega) rfl HA5.out.1 HA5.out.2.1 HA5.out.2.2
        have HR := keep (push_next (e := ⟨w3.heap.size, _, w1.heap.size, 0, 0, 0, 0⟩) HQ.out.2.1 HQ.out.2.2.1 HQ.out.2.2.2.1 r1 r2 r3 (fun i hi => .inl hi) HX.out (by rw [HNX.out]; exact hy.1) hy.2.1 ⟨rfl, rfl, rfl, rfl, rfl⟩)
        clear c0 f0 c1 f1
        obtain ⟨_, c1, _, f1⟩ := r1.b0
        dsimp only [appG, pushQ] at c1 f1 HR
        rw [HNX.out] at c1 HR
        clear hy r1 r2 r3
        go_wp2
        go_roundw
        case rel => exact ⟨j + 1, by omega, by go_num, HR⟩
        case measure => simp [intOf]; omega
    · obtain rfl : l.length = j := by omega
      go_wp2
      go_ret
      exact ⟨rfl, _, hm.out, HI.out⟩
end
section
open Go.RowKit Go.Maps
def sendE (now : Int) (e : En) : En := { e with st := 1, la := now, ms := 0, sn := wrap64 (e.sn + 1) }
def takeGo (now : Int) (n : Nat) : Nat → Nat → List En → Int → List CZ → List En × List CZ
  | 0, _, es, _, t => (es, t)
  | k + 1, i, es, r, t =>
    match es[ixD n i]? with
    | none => (es, t)
    | some e => if e.st = phD n i then (if r < (e.c.da.2.1 : Int) then (es, t) else takeGo now n k (i + 1) (es.set (ixD n i) (sendE now e)) (r - (e.c.da.2.1 : Int)) (t ++ [e.c])) else takeGo now n k (i + 1) es r t
def takeQ (q : Qm) (now room : Int) : List En × List CZ := takeGo now q.es.length (q.es.length + q.es.length) 0 q.es room []
theorem takeGo_no {now : Int} {n k i : Nat} {es : List En} {r : Int} {t : List CZ} {e : En} (he : es[ixD n i]? = some e) (h : e.st ≠ phD n i) : takeGo now n (k + 1) i es r t = takeGo now n k (i + 1) es r t := by
  rw [takeGo, he]
  simp only
  rw [if_neg h]
theorem takeGo_full {now : Int} {n k i : Nat} {es : List En} {r : Int} {t : List CZ} {e : En} (he : es[ixD n i]? = some e) (h : e.st = phD n i) (hr : r < (e.c.da.2.1 : Int)) : takeGo now n (k + 1) i es r t = (es, t) := by
  rw [takeGo, he]
  simp only
  rw [if_pos h, if_pos hr]
theorem takeGo_yes {now : Int} {n k i : Nat} {es : List En} {r : Int} {t : List CZ} {e : En} (he : es[ixD n i]? = some e) (h : e.st = phD n i) (hr : ¬ r < (e.c.da.2.1 : Int)) : takeGo now n (k + 1) i es r t = takeGo now n k (i + 1) (es.set (ixD n i) (sendE now e)) (r - (e.c.da.2.1 : Int)) (t ++ [e.c]) := by
  rw [takeGo, he]
  simp only
  rw [if_pos h, if_neg hr]
structure TkM (w : World) (G : Gq) (q : Qm) (now : Int) (es : List En) (r : Int) (s : SL) (ys : List CZ) (A : World) : Prop where
  qa : QA A G ⟨es, q.nx, q.mg⟩
  pp : es.map En.p = q.es.map En.p
  pt : Part G.O w A
  nb : A.heap[w.heap.size]? = some (.cells #[.int .i64 now] 3 (0, 0))
  rb : A.heap[w.heap.size + 1]? = some (.cells #[.int .i64 r] 3 (0, 0))
  tb : A.heap[w.heap.size + 2]? = some (.cells #[.slice s.1 s.2.1 s.2.2] 34 (0, 0))
  db : A.heap[w.heap.size + 3]? = some (.cells #[.slice G.s.1 G.s.2.1 G.s.2.2] 89 (0, 0))
  row : A.ownsRow (w.heap.size + 4) 41 12 (.slice s.1 s.2.1 s.2.2) s.2.1 (flatF CZ.cells ys)
  zs : ∀ y ∈ ys, ZV A y ∧ (∀ k, adB y k → w.heap.size + 4 ≤ k ∧ k < A.heap.size ∧ (Value.slice s.1 s.2.1 s.2.2).ownBlock ≠ some k) ∧ A.ownsRow (w.heap.size + 4) 5 1 (.slice y.da.1 y.da.2.1 y.da.2.2) y.da.2.1 (bc y.bs)
section
variable {w : World} {G : Gq} {q : Qm} {now r : Int} {es : List En} {s : SL} {ys : List CZ} {A B : World}
theorem adB.inf {y : CZ} {ok : Nat → Prop} (h : ∀ k, adB y k → ok k) : ∀ p ∈ y.ads, InF ok p := fun p hp a ea => h _ ⟨p, hp, a, ea, rfl⟩
theorem TkM.st (h : TkM w G q now es r s ys A) {N : Nat} (k : StN N A B) (hN : w.heap.size ≤ N) : TkM w G q now es r s ys B :=
  ⟨h.qa.st k, h.pp, h.pt.st k hN, k.cells h.nb, k.cells h.rb, k.cells h.tb, k.cells h.db, k.own h.row, fun y hy => by
    obtain ⟨a1, a2, a3⟩ := h.zs y hy
    exact ⟨a1.st k, fun i hi => ⟨(a2 i hi).1, Nat.lt_of_lt_of_le (a2 i hi).2.1 k.size, (a2 i hi).2.2⟩, k.own a3⟩⟩
theorem TkM.own (h : TkM w G q now es r s ys A) : DuOwn (w.heap.size + 3) G.s (q.es.map En.p) A :=
  ⟨upd_cell h.db 0 _ rfl, by rw [h.qa.n, ← h.pp, List.length_map], by rw [← h.pp, ← ptr_map]; exact h.qa.sr.2, fun p hp => by
    rw [← h.pp] at hp
    obtain ⟨e, he, rfl⟩ := List.mem_map.1 hp
    exact ⟨_, (h.qa.en e he).1.c12.2.1⟩⟩
theorem TkM.len (h : TkM w G q now es r s ys A) : es.length = q.es.length := by
  have := congrArg List.length h.pp
  rwa [List.length_map, List.length_map] at this
theorem TkM.get (h : TkM w G q now es r s ys A) {i : Nat} (hi : i < (q.es.map En.p).length + (q.es.map En.p).length) : ∃ e, es[ixD (q.es.map En.p).length i]? = some e ∧ (q.es.map En.p).getD (ixD (q.es.map En.p).length i) 0 = e.p := by
  have hl : ixD (q.es.map En.p).length i < es.length := by
    rw [h.len]
    have : (q.es.map En.p).length = q.es.length := List.length_map _
    unfold ixD
    split <;> omega
  refine ⟨es[ixD (q.es.map En.p).length i], List.getElem?_eq_getElem hl, ?_⟩
  have key : ∀ j (hj : j < es.length), (q.es.map En.p).getD j 0 = es[j].p := fun j hj => by
    rw [List.getD_eq_getElem?_getD, ← h.pp, List.getElem?_map, List.getElem?_eq_getElem hj]
    rfl
  exact key _ hl
theorem TkM.x (h : TkM w G q now es r s ys A) {i : Nat} {e : En} (he : es[ixD (q.es.map En.p).length i]? = some e) : DuX (q.es.map En.p) i A ↔ e.st = phD (q.es.map En.p).length i := by
  have h1 : (q.es.map En.p)[ixD (q.es.map En.p).length i]? = some e.p := by
    have : (es.map En.p)[ixD (q.es.map En.p).length i]? = some e.p := by rw [List.getElem?_map, he]; rfl
    rwa [h.pp] at this
  have h2 := (h.qa.en e (List.mem_of_getElem? he)).1.c12.2.1
  constructor
  · rintro ⟨p, a, b⟩
    rw [h1] at a
    injection a with a
    subst a
    rw [h2] at b
    injection b with b
    injection b with _ b
  · exact fun hm => ⟨e.p, h1, by rw [h2, hm]⟩
theorem TkM.set (h : TkM w G q now es r s ys A) (hO : ∀ i, G.O i → i < w.heap.size) {es' : List En} {b j : Nat} {v : Value} (hb : G.O b) (hq : QA (A.setCell ⟨b, j, none⟩ v) G ⟨es', q.nx, q.mg⟩) (hp : es'.map En.p = q.es.map En.p) : TkM w G q now es' r s ys (A.setCell ⟨b, j, none⟩ v) := by
  have hpt := part_set A b j v
  have k := Kpt.of_part (ok := fun x => ¬ x = b) hpt fun _ h => h
  have hlt := hO b hb
  refine ⟨hq, hp, h.pt.trans hpt fun x hx => .inl (by rw [hx]; exact hb), set_other h.nb (by omega), set_other h.rb (by omega), set_other h.tb (by omega), set_other h.db (by omega), k.own h.row fun g hg e => by have := (h.row.lt g hg).1; omega, fun y hy => ?_⟩
  obtain ⟨a1, a2, a3⟩ := h.zs y hy
  exact ⟨a1.kept k (adB.inf fun i hi e => by have := (a2 i hi).1; omega), fun i hi => ⟨(a2 i hi).1, Nat.lt_of_lt_of_le (a2 i hi).2.1 hpt.size, (a2 i hi).2.2⟩, k.own a3 fun g hg e => by have := (a3.lt g hg).1; omega⟩
theorem TkM.room (h : TkM w G q now es r s ys A) (hO : ∀ i, G.O i → i < w.heap.size) (hF : ∀ i, G.F i → i < w.heap.size) (r' : Int) : TkM w G q now es r' s ys (A.setCell ⟨w.heap.size + 1, 0, none⟩ (.int .i64 r')) := by
  have hpt := part_set A (w.heap.size + 1) 0 (.int .i64 r')
  have k := Kpt.of_part (ok := fun x => ¬ x = w.heap.size + 1) hpt fun _ h => h
  refine ⟨h.qa.apart hpt (fun i hi e => by have := hO i hi; omega) (fun i hi e => by have := hF i hi; omega), h.pp, h.pt.trans hpt fun x hx => .inr (by omega), set_other h.nb (by omega), heap_setCell_same A (w.heap.size + 1) 0 _ _ _ h.rb, set_other h.tb (by omega), set_other h.db (by omega), k.own h.row fun g hg e => by have := (h.row.lt g hg).1; omega, fun y hy => ?_⟩
  obtain ⟨a1, a2, a3⟩ := h.zs y hy
  exact ⟨a1.kept k (adB.inf fun i hi e => by have := (a2 i hi).1; omega), fun i hi => ⟨(a2 i hi).1, Nat.lt_of_lt_of_le (a2 i hi).2.1 hpt.size, (a2 i hi).2.2⟩, k.own a3 fun g hg e => by have := (a3.lt g hg).1; omega⟩
theorem TkM.send (h : TkM w G q now es r s ys A) (hO : ∀ i, G.O i → i < w.heap.size) {i : Nat} {e : En} (he : es[i]? = some e) (hnow : True) :
    TkM w G q now (es.set i (sendE now e)) r s ys ((((A.setCell ⟨e.p, 13, none⟩ (.int .i64 1)).setCell ⟨e.p, 15, none⟩ (.int .i64 now)).setCell ⟨e.p, 16, none⟩ (.int .i64 0)).setCell ⟨e.p, 14, none⟩ (.int .i64 (wrap64 (e.sn + 1)))) := by
  have hl := (List.getElem?_eq_some_iff.1 he).1
  have hOe := (h.qa.en e (List.mem_of_getElem? he)).2.1
  have at_ : ∀ (es : List En) (x : En), i < es.length → (es.set i x)[i]? = some x := fun es x hi => by rw [List.getElem?_set, if_pos rfl, if_pos hi]
  have m1 := h.set hO hOe (h.qa.setE he (e' := { e with st := 1 }) 13 (.int .i64 1) rfl rfl rfl rfl).1 ((map_p_set (e' := { e with st := 1 }) he rfl).trans h.pp)
  have g1 := at_ es { e with st := 1 } hl
  have m2 := m1.set hO hOe (m1.qa.setE g1 (e' := { e with st := 1, la := now }) 15 (.int .i64 now) rfl rfl rfl rfl).1 ((map_p_set (e' := { e with st := 1, la := now }) g1 rfl).trans m1.pp)
  rw [List.set_set] at m2
  have g2 := at_ es { e with st := 1, la := now } hl
  have m3 := m2.set hO hOe (m2.qa.setE g2 (e' := { e with st := 1, la := now, ms := 0 }) 16 (.int .i64 0) rfl rfl rfl rfl).1 ((map_p_set (e' := { e with st := 1, la := now, ms := 0 }) g2 rfl).trans m2.pp)
  rw [List.set_set] at m3
  have g3 := at_ es { e with st := 1, la := now, ms := 0 } hl
  have m4 := m3.set hO hOe (m3.qa.setE g3 (e' := sendE now e) 14 (.int .i64 (wrap64 (e.sn + 1))) rfl rfl rfl rfl).1 ((map_p_set (e' := sendE now e) g3 rfl).trans m3.pp)
  rw [List.set_set] at m4
  exact m4
theorem TkM.app (h : TkM w G q now es r s ys A) (hO : ∀ i, G.O i → i < w.heap.size) (hF : ∀ i, G.F i → i < w.heap.size) {w3 : World} (hb : Below A.heap.size A w3) {y : CZ} (hz : ZV w3 y) (hi : ∀ p ∈ y.ads, InF (fun k => A.heap.size ≤ k ∧ k < w3.heap.size) p) (hda : w3.ownsRow A.heap.size 5 1 (.slice y.da.1 y.da.2.1 y.da.2.2) y.da.2.1 (bc y.bs))
    {W4 : World} (hW4 : W4 = w3.alloc (.cells y.cells.toArray 41)) {w5 : World} {A5 : Option Addr} {c5 : Nat} (ho : w5.ownsRow (w.heap.size + 4) 41 12 (.slice A5 (s.2.1 + 1) c5) (s.2.1 + 1) (flatF CZ.cells ys ++ y.cells)) (hg : W4.grownBy w5 (Value.slice s.1 s.2.1 s.2.2).ownBlock)
    (hl : (Value.slice A5 (s.2.1 + 1) c5).ownBlock = (Value.slice s.1 s.2.1 s.2.2).ownBlock ∨ (Value.slice A5 (s.2.1 + 1) c5).ownBlock = some W4.heap.size) :
    TkM w G q now es r (A5, s.2.1 + 1, c5) (ys ++ [y]) (w5.setCell ⟨w.heap.size + 2, 0, none⟩ (.slice A5 (s.2.1 + 1) c5)) ∧ (∀ N, w.heap.size + 4 ≤ N → KpT itT N A (w5.setCell ⟨w.heap.size + 2, 0, none⟩ (.slice A5 (s.2.1 + 1) c5))) ∧ KeepsOthers A (w5.setCell ⟨w.heap.size + 2, 0, none⟩ (.slice A5 (s.2.1 + 1) c5)) := by
  have hbA : Below A.heap.size A W4 := by
    rw [hW4]
    exact up hb (below_lay w3 _)
  have hs4 : w3.heap.size < W4.heap.size := by rw [hW4]; simp
  have hb34 : Below w3.heap.size w3 W4 := by rw [hW4]; exact below_lay w3 _
  have hA := h.st (StN.of_below (N := w.heap.size) hbA) (Nat.le_refl _)
  have hp1 : Part (fun i => (Value.slice s.1 s.2.1 s.2.2).ownBlock = some i) W4 w5 := Part.of_grown hg fun k hk => hk
  have hge : ∀ g, (Value.slice s.1 s.2.1 s.2.2).ownBlock = some g → w.heap.size + 4 ≤ g ∧ g < A.heap.size := fun g hg' => h.row.lt g hg'
  have hp2 := part_set w5 (w.heap.size + 2) 0 (.slice A5 (s.2.1 + 1) c5)
  have hpt : Part (fun i => i = w.heap.size + 2 ∨ (Value.slice s.1 s.2.1 s.2.2).ownBlock = some i) W4 (w5.setCell ⟨w.heap.size + 2, 0, none⟩ (.slice A5 (s.2.1 + 1) c5)) := (hp1.mono fun i hi => .inr hi).trans hp2 fun i hi => .inl (.inl hi)
  have k := Kpt.of_part (ok := fun i => ¬ (i = w.heap.size + 2 ∨ (Value.slice s.1 s.2.1 s.2.2).ownBlock = some i)) hpt fun _ h => h
  have lo : ∀ i, i < w.heap.size + 4 → i ≠ w.heap.size + 2 → ¬ (i = w.heap.size + 2 ∨ (Value.slice s.1 s.2.1 s.2.2).ownBlock = some i) := fun i h1 h2 hc => by
    rcases hc with hc | hc
    · exact h2 hc
    · have := (hge i hc).1; omega
  have ht : w5.heap[w.heap.size + 2]? = some (.cells #[.slice s.1 s.2.1 s.2.2] 34 (0, 0)) := (hp1.block _ (Array.getElem?_eq_some_iff.1 hA.tb).1 fun hc => by have := (hge _ hc).1; omega).trans hA.tb
  have ha : ∀ i, adB y i → A.heap.size ≤ i ∧ i < w3.heap.size := fun i ⟨B, hB, a, ea, hi'⟩ => by rw [← hi']; exact hi B hB a ea
  have hsA : w.heap.size + 4 ≤ A.heap.size := by have := (Array.getElem?_eq_some_iff.1 h.db).1; omega
  have hnewOwn : ∀ i, (Value.slice A5 (s.2.1 + 1) c5).ownBlock = some i → i = W4.heap.size ∨ (Value.slice s.1 s.2.1 s.2.2).ownBlock = some i := fun i hi => by
    rcases hl with hl | hl
    · exact .inr (by rw [← hl]; exact hi)
    · rw [hl] at hi
      injection hi with hi
      exact .inl hi.symm
  refine ⟨⟨hA.qa.apart hpt (fun i hi hc => lo i (by have := hO i hi; omega) (by have := hO i hi; omega) hc) (fun i hi hc => lo i (by have := hF i hi; omega) (by have := hF i hi; omega) hc), h.pp, hA.pt.trans hpt fun x hx => .inr ?_, k.cells _ _ _ _ (lo _ (by omega) (by omega)) hA.nb, k.cells _ _ _ _ (lo _ (by omega) (by omega)) hA.rb, heap_setCell_same w5 _ 0 _ _ _ ht, k.cells _ _ _ _ (lo _ (by omega) (by omega)) hA.db, ?_, fun z hzm => ?_⟩, fun N hN => ?_, ?_⟩
  · rcases hx with rfl | hx
    · omega
    · have := (hge x hx).1; omega
  · rw [flatF_append, show flatF CZ.cells [y] = y.cells by simp [flatF]]
    exact hp2.own ho fun g hg' e => by
      rcases hnewOwn g hg' with h1 | h1
      · have := (Array.getElem?_eq_some_iff.1 hA.tb).1; omega
      · have := (hge g h1).1; omega
  · rcases List.mem_append.1 hzm with hzm | hzm
    · obtain ⟨a1, a2, a3⟩ := hA.zs z hzm
      have a2' := (h.zs z hzm).2.1
      have ok : ∀ i, adB z i → ¬ (i = w.heap.size + 2 ∨ (Value.slice s.1 s.2.1 s.2.2).ownBlock = some i) := fun i hi hc => by
        rcases hc with hc | hc
        · have := (a2 i hi).1; omega
        · exact (a2 i hi).2.2 hc
      refine ⟨a1.kept k (adB.inf ok), fun i hi => ⟨(a2 i hi).1, Nat.lt_of_lt_of_le (a2 i hi).2.1 hpt.size, fun hc => ?_⟩, k.own a3 fun g hg' hc => ?_⟩
      · rcases hnewOwn i hc with h1 | h1
        · have := (a2' i hi).2.1
          have := hbA.size
          omega
        · exact (a2 i hi).2.2 h1
      · rcases hc with hc | hc
        · have := (a3.lt g hg').1; omega
        · obtain ⟨cu, f1, hcu⟩ := own_cells a3 hg'
          obtain ⟨cv, f2, hcv⟩ := own_cells hA.row hc
          exact cells_cells hcu hcv (by decide) rfl
    · rw [List.mem_singleton.1 hzm]
      have ok : ∀ i, adB y i → ¬ (i = w.heap.size + 2 ∨ (Value.slice s.1 s.2.1 s.2.2).ownBlock = some i) := fun i hi' hc => by
        have := (ha i hi').1
        rcases hc with hc | hc
        · omega
        · have := (hge i hc).2; omega
      refine ⟨(hz.step hb34).kept k (adB.inf ok), fun i hi' => ⟨by have := (ha i hi').1; omega, Nat.lt_of_lt_of_le (Nat.lt_trans (ha i hi').2 hs4) hpt.size, fun hc => ?_⟩, k.own (own_mono (own_step hda hb34) hsA) fun g hg' hc => ?_⟩
      · rcases hnewOwn i hc with h1 | h1
        · have := (ha i hi').2; omega
        · have := (ha i hi').1
          have := (hge i h1).2
          omega
      · have h1 := (own_step hda hb34).lt g hg'
        rcases hc with hc | hc
        · omega
        · have := (hge g hc).2; omega
  · refine ((KpT.of_below hbA).trans (KpT.of_grown hg fun r hr => ?_)).trans (KpT.of_grown (grown_set w5 ⟨w.heap.size + 2, 0, none⟩ _) fun r hr => ?_)
    · obtain ⟨cv, f2, hcv⟩ := own_cells hA.row hr
      exact ⟨_, _, _, hcv, .inr (by unfold itT; decide)⟩
    · injection hr with hr
      subst hr
      exact ⟨_, _, _, ht, .inl (by show w.heap.size + 2 < N; omega)⟩
  · refine ((KeepsOthers.of_grownBy (row := none) ⟨hbA.os, hbA.tape, hbA.output, hbA.size, fun i hi _ => hbA.block i hi⟩ (fun _ _ e => by cases e)).trans (KeepsOthers.of_grownBy hg fun j o ej hj => ?_)).trans (KeepsOthers.setCell _ _ _)
    obtain ⟨cv, f2, hcv⟩ := own_cells hA.row ej
    rw [hcv] at hj
    cases hj
    rfl
end
end
end Go.Proofs.YtnlkdlnmffibhaaGreat
