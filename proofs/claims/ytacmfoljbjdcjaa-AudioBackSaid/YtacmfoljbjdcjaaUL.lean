/- Law 20: there and back (AudioBack). -/
import Derived.Test.YtacmfoljbjdcjaaUK
import Derived.StillTailTactics
namespace Go.Proofs.Ytacmfoljbjdcjaa
open Go.RowKit Go.Maps
set_option linter.unusedVariables false
set_option linter.unusedSimpArgs false

set_option maxHeartbeats 8000000 in
set_option maxRecDepth 1000000 in
theorem audioBack_walk (y : Pv) (B : Option Addr) (m d : Nat) (bs : List UInt8) (w : World) (hy : PA w y) (hB : BS w B m d bs) :
    Calls Try.prog 4 #[.agg y.cells.toArray, .slice B m d] w fun e w' => e = .returned (.bool true) ∧ Below w.heap.size w w' := by
  obtain ⟨ym, yk, yq, yt, yo, ⟨y1, y2, y3⟩, yb⟩ := y
  have HY := keep hy
  have hyl := hy.1.len
  dsimp only at hyl
  unfold Pv.cells
  dsimp only
  have b1 := below_lay w (.cells #[.bool ym, .int .u8 yk, .int .u16 yq, .int .u32 yt, .int .u32 yo, .slice y1 y2 y3] 26)
  have HX := keep (show ∀ W, Below (w.alloc (.cells #[.bool ym, .int .u8 yk, .int .u16 yq, .int .u32 yt, .int .u32 yo, .slice y1 y2 y3] 26)).heap.size (w.alloc (.cells #[.bool ym, .int .u8 yk, .int .u16 yq, .int .u32 yt, .int .u32 yo, .slice y1 y2 y3] 26)) W → (W.cell? ⟨w.heap.size, 0, none⟩ = some (.bool ym) ∧ W.cell? ⟨w.heap.size, 1, none⟩ = some (.int .u8 yk) ∧ W.cell? ⟨w.heap.size, 2, none⟩ = some (.int .u16 yq) ∧ W.cell? ⟨w.heap.size, 3, none⟩ = some (.int .u32 yt) ∧ W.cell? ⟨w.heap.size, 4, none⟩ = some (.int .u32 yo) ∧ W.cell? ⟨w.heap.size, 5, none⟩ = some (.slice y1 y2 y3)) ∧ Below w.heap.size w W from fun W hb => by
    have g := (hb.block w.heap.size (by simp)).trans (heap_alloc_new w (.cells #[.bool ym, .int .u8 yk, .int .u16 yq, .int .u32 yt, .int .u32 yo, .slice y1 y2 y3] 26))
    exact ⟨⟨upd_cell g 0 _ rfl, upd_cell g 1 _ rfl, upd_cell g 2 _ rfl, upd_cell g 3 _ rfl, upd_cell g 4 _ rfl, upd_cell g 5 _ rfl⟩, b1.trans (hb.mono b1.size)⟩)
  have KA := keep (awake_any (w.alloc (.cells #[.bool ym, .int .u8 yk, .int .u16 yq, .int .u32 yt, .int .u32 yo, .slice y1 y2 y3] 26)))
  clear hy b1
  by_cases h1 : 1500 < y2
  · have h1I : (1500 : Int) < (y2 : Int) := by omega
    clear h1 hB hyl
    go_enter Try.func4, Try.ntmps4
    go_wp2_with fail
    refine KA.out.mono ?_
    rintro e w1 ⟨rfl, hb1⟩
    obtain ⟨⟨p0, p1, p2, p3, p4, p5⟩, hbw⟩ := HX.out w1 hb1
    go_wp2
    go_ret
    exact ⟨rfl, hbw⟩
  have h1I : ¬ (1500 : Int) < (y2 : Int) := by omega
  by_cases h2 : 1500 < m
  · have h2I : (1500 : Int) < (m : Int) := by omega
    clear h1 h2 hB hyl
    go_enter Try.func4, Try.ntmps4
    go_wp2_with fail
    refine KA.out.mono ?_
    rintro e w1 ⟨rfl, hb1⟩
    obtain ⟨⟨p0, p1, p2, p3, p4, p5⟩, hbw⟩ := HX.out w1 hb1
    go_wp2
    go_ret
    exact ⟨rfl, hbw⟩
  have h2I : ¬ (1500 : Int) < (m : Int) := by omega
  have HBB := keep hB
  have hm : m ≤ 1500 := by omega
  have HM := keep hm
  have hy2 : y2 ≤ 1500 := by omega
  have HY2 := keep (And.intro hy2 hyl)
  clear h1 h2 hB hm hy2 hyl
  have KE := keep fun W (hb : Below w.heap.size w W) => encode_any ⟨ym, yk, yq, yt, yo, (y1, y2, y3), yb⟩ W ⟨HY.out.1.step hb, HY.out.2⟩
  unfold EncP Pv.pk Pv.cells at KE
  dsimp only at KE
  have HOK := keep (show Pk.Ok ⟨ym, yk, yq, yt, yo, yb⟩ from HY.out.2)
  -- what decoding b, and encoding that, gives
  have KD := keep fun W (hb : Below w.heap.size w W) => decode_any B m d bs W (HBB.out.step hb) (by have := HM.out; omega)
  obtain ⟨fe, hfe⟩ : ∃ fe, fE yk yb.length = fe := ⟨_, rfl⟩
  obtain ⟨de, hde⟩ : ∃ de, decE bs = de := ⟨_, rfl⟩
  have HFE := keep hfe
  have HDE := keep hde
  rw [hfe] at KE
  obtain ⟨xs, hxs⟩ : ∃ xs, encD ⟨ym, yk, yq, yt, yo, yb⟩ = xs := ⟨_, rfl⟩
  rw [hxs] at KE
  have HXS := keep hxs
  have hxl : xs.length ≤ 1200 := by
    rw [← hxs]
    unfold encD
    dsimp only
    rw [hfe]
    split
    · rename_i h0
      have := (fE_zero (hfe.trans h0)).2
      rw [List.length_append, encH_len]
      omega
    · exact Nat.zero_le _
  have HXL := keep hxl
  unfold DecP at KD
  rw [hde] at KD
  obtain ⟨dk, hdk⟩ : ∃ dk, decD bs = dk := ⟨_, rfl⟩
  rw [hdk] at KD
  have HDK := keep hdk
  clear hfe hde hxs hxl hdk
  obtain ⟨dm, dkd, dq, dt, dso, db⟩ := dk
  dsimp only at KD
  by_cases hf0 : fe = 0
  · subst hf0
    have HDX := keep (show decE xs = 0 ∧ decD xs = ⟨ym, yk, yq, yt, yo, yb⟩ ∧ isB xs = true ∧ xs.length = 12 + y2 from by
      have e1 : encH ⟨ym, yk, yq, yt, yo, yb⟩ ++ yb = xs := by rw [← HXS.out]; unfold encD; dsimp only; rw [if_pos HFE.out]
      obtain ⟨a1, a2, a3, a4⟩ := dec_enc HOK.out HFE.out
      dsimp only at a1 a2 a3 a4
      rw [e1] at a1 a2 a3 a4
      exact ⟨a1, by unfold decD; rw [if_pos a1]; exact a2, a3, by rw [a4, HY2.out.2]⟩)
    by_cases hd0 : de = 0
    · subst hd0
      go_enter Try.func4, Try.ntmps4
      go_wp2_with fail
      refine KA.out.mono ?_
      rintro e w1 ⟨rfl, hb1⟩
      have HB1 := keep hb1
      obtain ⟨⟨p0, p1, p2, p3, p4, p5⟩, hbw⟩ := HX.out w1 hb1
      have HW1 := keep hbw
      clear hb1 hbw
      go_wp2_with fail
      refine (KE.out _ HW1.out).mono ?_
      rintro e w2 ⟨A2, n2, c2, rfl, hs2, hb2⟩
      have HS2 := keep hs2
      have HB2 := keep (HB1.out.trans (hb2.mono HB1.out.size))
      have HW2 := keep (HX.out w2 HB2.out).2
      clear hs2 hb2 p0 p1 p2 p3 p4 p5
      have KX := keep (decode_any A2 n2 c2 xs w2 HS2.out (by have := HS2.out.len; have := HXL.out; omega))
      unfold DecP at KX
      rw [HDX.out.1, HDX.out.2.1] at KX
      dsimp only at KX
      go_wp2_with fail
      refine KX.out.mono ?_
      rintro e w3 ⟨A3, n3, c3, rfl, hs3, hb3⟩
      have HS3 := keep hs3
      have HB3 := keep (HB2.out.trans (hb3.mono HB2.out.size))
      have HB23 := keep hb3
      clear hs3 hb3 KX
      have LQ := keep (below_lay w3 (.cells #[.bool ym, .int .u8 yk, .int .u16 yq, .int .u32 yt, .int .u32 yo, .slice A3 n3 c3] 26))
      have HB4 := keep (HB3.out.trans (LQ.out.mono HB3.out.size))
      have HS0 := keep (show ∀ W : World, Below (w3.alloc (.cells #[.bool ym, .int .u8 yk, .int .u16 yq, .int .u32 yt, .int .u32 yo, .slice A3 n3 c3] 26)).heap.size (w3.alloc (.cells #[.bool ym, .int .u8 yk, .int .u16 yq, .int .u32 yt, .int .u32 yo, .slice A3 n3 c3] 26)) W → ((W.cell? ⟨w.heap.size, 0, none⟩ = some (.bool ym) ∧ W.cell? ⟨w.heap.size, 1, none⟩ = some (.int .u8 yk) ∧ W.cell? ⟨w.heap.size, 2, none⟩ = some (.int .u16 yq) ∧ W.cell? ⟨w.heap.size, 3, none⟩ = some (.int .u32 yt) ∧ W.cell? ⟨w.heap.size, 4, none⟩ = some (.int .u32 yo) ∧ W.cell? ⟨w.heap.size, 5, none⟩ = some (.slice y1 y2 y3))) ∧ (W.cell? ⟨w3.heap.size, 0, none⟩ = some (.bool ym) ∧ W.cell? ⟨w3.heap.size, 1, none⟩ = some (.int .u8 yk) ∧ W.cell? ⟨w3.heap.size, 2, none⟩ = some (.int .u16 yq) ∧ W.cell? ⟨w3.heap.size, 3, none⟩ = some (.int .u32 yt) ∧ W.cell? ⟨w3.heap.size, 4, none⟩ = some (.int .u32 yo) ∧ W.cell? ⟨w3.heap.size, 5, none⟩ = some (.slice A3 n3 c3)) from fun W hb => ⟨(HX.out W (HB4.out.trans (hb.mono HB4.out.size))).1, by have gg := (hb.block w3.heap.size (by simp)).trans (heap_alloc_new w3 (.cells #[.bool ym, .int .u8 yk, .int .u16 yq, .int .u32 yt, .int .u32 yo, .slice A3 n3 c3] 26)); exact ⟨upd_cell gg 0 _ rfl, upd_cell gg 1 _ rfl, upd_cell gg 2 _ rfl, upd_cell gg 3 _ rfl, upd_cell gg 4 _ rfl, upd_cell gg 5 _ rfl⟩⟩)
      go_wp2_with fail
      obtain ⟨W4, hW4⟩ : ∃ W4, w3.alloc (.cells #[.bool ym, .int .u8 yk, .int .u16 yq, .int .u32 yt, .int .u32 yo, .slice A3 n3 c3] 26) = W4 := ⟨_, rfl⟩
      rw [hW4] at HB4 HS0
      have HL4 := keep (show Below w3.heap.size w3 W4 by rw [← hW4]; exact LQ.out)
      rw [hW4]
      clear hW4 LQ
      have B26 := keep (show ∀ W : World, Below W4.heap.size W4 W → Below w2.heap.size w2 W from fun W hb => HB23.out.trans ((HL4.out.trans (hb.mono HL4.out.size)).mono HB23.out.size))
      have HBd := keep (Below.refl W4.heap.size W4).drew
      refine wp_region_held_drew (S := (fun w' => (w'.cell? ⟨w.heap.size, 0, none⟩ = some (.bool ym) ∧ w'.cell? ⟨w.heap.size, 1, none⟩ = some (.int .u8 yk) ∧ w'.cell? ⟨w.heap.size, 2, none⟩ = some (.int .u16 yq) ∧ w'.cell? ⟨w.heap.size, 3, none⟩ = some (.int .u32 yt) ∧ w'.cell? ⟨w.heap.size, 4, none⟩ = some (.int .u32 yo) ∧ w'.cell? ⟨w.heap.size, 5, none⟩ = some (.slice y1 y2 y3)) ∧ (w'.cell? ⟨w3.heap.size, 0, none⟩ = some (.bool ym) ∧ w'.cell? ⟨w3.heap.size, 1, none⟩ = some (.int .u8 yk) ∧ w'.cell? ⟨w3.heap.size, 2, none⟩ = some (.int .u16 yq) ∧ w'.cell? ⟨w3.heap.size, 3, none⟩ = some (.int .u32 yt) ∧ w'.cell? ⟨w3.heap.size, 4, none⟩ = some (.int .u32 yo) ∧ w'.cell? ⟨w3.heap.size, 5, none⟩ = some (.slice A3 n3 c3)))) (by kernel_rfl) (HS0.out _ (Below.refl _ W4).drew) (fun hHeld => ?_)
      have HLN := keep (show n2 = 12 + y2 from by rw [HS2.out.len, HDX.out.2.2.2])
      have hln : (n2 : Int) = 12 + (y2 : Int) := by have := HLN.out; omega
      have hlw : IntKind.i64.wrap (12 + (y2 : Int)) = 12 + (y2 : Int) := IntWalk.i64_in _ (by have := HY2.out; omega)
      refine wpAnyH_take (i := 0) (oi := ⟨some 35, _, _, _, _, _⟩) (v := ?va1x0) rfl (by kernel_rfl) (by kernel_rfl) (by kernel_rfl) (fun _ _ _ h => h) (Or.inl ⟨by rfl, ?hya1x0⟩) (by assumption) ?resta1x0
      case hya1x0 => (intro wz hSw; (try dsimp only at hSw); go_simp <;> (try with_reducible rfl))
      try simp only [Act.put, List.setIfInBounds_toArray, List.set_cons_zero, List.set_cons_succ]
      refine wpAnyH_take (i := 1) (oi := ⟨some 36, _, _, _, _, _⟩) (v := ?va2x1) rfl (by kernel_rfl) (by kernel_rfl) (by kernel_rfl) (fun _ _ _ h => h) (Or.inl ⟨by rfl, ?hya2x1⟩) (by assumption) ?resta2x1
      case hya2x1 => (intro wz hSw; (try dsimp only at hSw); go_simp <;> (try with_reducible rfl))
      try simp only [Act.put, List.setIfInBounds_toArray, List.set_cons_zero, List.set_cons_succ]
      refine wpAnyH_take (i := 2) (oi := ⟨some 37, _, _, _, _, _⟩) (v := ?va3x2) rfl (by kernel_rfl) (by kernel_rfl) (by kernel_rfl) (fun _ _ _ h => h) (Or.inl ⟨by rfl, ?hya3x2⟩) (by assumption) ?resta3x2
      case hya3x2 => (intro wz hSw; (try dsimp only at hSw); go_simp <;> (try with_reducible rfl))
      try simp only [Act.put, List.setIfInBounds_toArray, List.set_cons_zero, List.set_cons_succ]
      refine wpAnyH_take (i := 3) (oi := ⟨some 38, _, _, _, _, _⟩) (v := ?va4x3) rfl (by kernel_rfl) (by kernel_rfl) (by kernel_rfl) (fun _ _ _ h => h) (Or.inl ⟨by rfl, ?hya4x3⟩) (by assumption) ?resta4x3
      case hya4x3 => (intro wz hSw; (try dsimp only at hSw); go_simp <;> (try with_reducible rfl))
      try simp only [Act.put, List.setIfInBounds_toArray, List.set_cons_zero, List.set_cons_succ]
      refine wpAnyH_take (i := 4) (oi := ⟨some 39, _, _, _, _, _⟩) (v := ?va5x4) rfl (by kernel_rfl) (by kernel_rfl) (by kernel_rfl) (fun _ _ _ h => h) (Or.inl ⟨by rfl, ?hya5x4⟩) (by assumption) ?resta5x4
      case hya5x4 => (intro wz hSw; (try dsimp only at hSw); go_simp <;> (try with_reducible rfl))
      try simp only [Act.put, List.setIfInBounds_toArray, List.set_cons_zero, List.set_cons_succ]
      refine wpAnyH_take (i := 5) (oi := ⟨some 40, _, _, _, _, _⟩) (v := ?va6x5) rfl (by kernel_rfl) (by kernel_rfl) (by kernel_rfl) (fun _ _ _ h => h) (Or.inl ⟨by rfl, ?hya6x5⟩) (by assumption) ?resta6x5
      case hya6x5 => (intro wz hSw; (try dsimp only at hSw); go_simp <;> (try with_reducible rfl))
      try simp only [Act.put, List.setIfInBounds_toArray, List.set_cons_zero, List.set_cons_succ]
      refine wpAnyH_take (i := 6) (oi := ⟨some 41, _, _, _, _, _⟩) (v := ?va7x6) rfl (by kernel_rfl) (by kernel_rfl) (by kernel_rfl) (fun _ _ _ h => h) (Or.inl ⟨by rfl, ?hya7x6⟩) (by assumption) ?resta7x6
      case hya7x6 => (intro wz hSw; (try dsimp only at hSw); go_simp <;> (try with_reducible rfl))
      try simp only [Act.put, List.setIfInBounds_toArray, List.set_cons_zero, List.set_cons_succ]
      refine wpAnyH_take (i := 7) (oi := ⟨some 42, _, _, _, _, _⟩) (v := ?va8x7) rfl (by kernel_rfl) (by kernel_rfl) (by kernel_rfl) (fun _ _ _ h => h) (Or.inl ⟨by rfl, ?hya8x7⟩) (by assumption) ?resta8x7
      case hya8x7 => (intro wz hSw; (try dsimp only at hSw); go_simp <;> (try with_reducible rfl))
      try simp only [Act.put, List.setIfInBounds_toArray, List.set_cons_zero, List.set_cons_succ]
      refine wpAnyH_ready (rs := [8]) (by kernel_rfl) (by simp) (AllReadyH.cons (o := ⟨some 43, _, _, _, _, _⟩) rfl (fun K hK => ?_) AllReadyH.nil)
      go_simp
      go_at_call 11
      refine (theirs_any ⟨ym, yk, yq, yt, yo, (y1, y2, y3), yb⟩ _).mono ?_
      rintro e w5 ⟨rfl, hb5⟩
      have HB5 := keep (show Below W4.heap.size W4 w5 from (Below.refl _ W4).drew.trans (hb5.mono (Nat.le_refl _)))
      clear hb5
      (try go_wp2_with fail)
      refine hK.out _ _ (HS0.out _ HB5.out) (fun hHeld => ?_)
      clear hK K
      try simp only [Act.put, List.setIfInBounds_toArray, List.set_cons_zero, List.set_cons_succ]
      have KAL := keep (alike_same ⟨ym, yk, yq, yt, yo, yb⟩ A3 n3 c3 y1 y2 y3 w5 (HS3.out.step (HL4.out.trans (HB5.out.mono HL4.out.size))) (HY.out.1.step ((HX.out w5 (HB4.out.trans (HB5.out.mono HB4.out.size))).2)))
      dsimp only at KAL
      refine wpAnyH_ready (rs := [9]) (by kernel_rfl) (by simp) (AllReadyH.cons (o := ⟨some 44, _, _, _, _, _⟩) rfl (fun K hK => ?_) AllReadyH.nil)
      go_simp
      go_at_call 15
      refine KAL.out.mono ?_
      rintro e w6 ⟨rfl, hb6⟩
      have HB6 := keep (HB5.out.trans (hb6.mono HB5.out.size))
      clear hb6 KAL
      (try go_wp2_with fail)
      refine hK.out _ _ (HS0.out _ HB6.out) (fun hHeld => ?_)
      clear hK K
      try simp only [Act.put, List.setIfInBounds_toArray, List.set_cons_zero, List.set_cons_succ]
      refine wpAnyH_take (i := 10) (oi := ⟨some 45, _, _, _, _, _⟩) (v := ?va9x10) rfl (by kernel_rfl) (by kernel_rfl) (by kernel_rfl) (fun _ _ _ h => h) (Or.inl ⟨by rfl, ?hya9x10⟩) (by assumption) ?resta9x10
      case hya9x10 => (intro wz hSw; (try dsimp only at hSw); go_simp <;> (try with_reducible rfl))
      try simp only [Act.put, List.setIfInBounds_toArray, List.set_cons_zero, List.set_cons_succ]
      refine wpAnyH_take (i := 11) (oi := ⟨some 46, _, _, _, _, _⟩) (v := ?va10x11) rfl (by kernel_rfl) (by kernel_rfl) (by kernel_rfl) (fun _ _ _ h => h) (Or.inl ⟨by rfl, ?hya10x11⟩) (by assumption) ?resta10x11
      case hya10x11 => (intro wz hSw; (try dsimp only at hSw); go_simp <;> (try with_reducible rfl))
      try simp only [Act.put, List.setIfInBounds_toArray, List.set_cons_zero, List.set_cons_succ]
      refine wpAnyH_take (i := 12) (oi := ⟨some 47, _, _, _, _, _⟩) (v := ?va11x12) rfl (by kernel_rfl) (by kernel_rfl) (by kernel_rfl) (fun _ _ _ h => h) (Or.inl ⟨by rfl, ?hya11x12⟩) (by assumption) ?resta11x12
      case hya11x12 => (intro wz hSw; (try dsimp only at hSw); go_simp <;> (try with_reducible rfl))
      try simp only [Act.put, List.setIfInBounds_toArray, List.set_cons_zero, List.set_cons_succ]
      refine wpAnyH_take (i := 13) (oi := ⟨some 48, _, _, _, _, _⟩) (v := ?va12x13) rfl (by kernel_rfl) (by kernel_rfl) (by kernel_rfl) (fun _ _ _ h => h) (Or.inl ⟨by rfl, ?hya12x13⟩) (by assumption) ?resta12x13
      case hya12x13 => (intro wz hSw; (try dsimp only at hSw); go_simp <;> (try with_reducible rfl))
      try simp only [Act.put, List.setIfInBounds_toArray, List.set_cons_zero, List.set_cons_succ]
      have KIS := keep (Is_any A2 n2 c2 xs w6 (HS2.out.step (B26.out w6 HB6.out)))
      rw [HDX.out.2.2.1] at KIS
      refine wpAnyH_ready (rs := [14]) (by kernel_rfl) (by simp) (AllReadyH.cons (o := ⟨some 49, _, _, _, _, _⟩) rfl (fun K hK => ?_) AllReadyH.nil)
      go_simp
      go_at_call 16
      refine KIS.out.mono ?_
      rintro e w7 ⟨rfl, rfl⟩
      clear KIS
      (try go_wp2_with fail)
      refine hK.out _ _ (HS0.out _ HB6.out) (fun hHeld => ?_)
      clear hK K
      try simp only [Act.put, List.setIfInBounds_toArray, List.set_cons_zero, List.set_cons_succ]
      refine wpAnyH_take (i := 15) (oi := ⟨some 50, _, _, _, _, _⟩) (v := ?va13x15) rfl (by kernel_rfl) (by kernel_rfl) (by kernel_rfl) (fun _ _ _ h => h) (Or.inl ⟨by rfl, ?hya13x15⟩) (by assumption) ?resta13x15
      case hya13x15 => (intro wz hSw; (try dsimp only at hSw); go_simp <;> (try with_reducible rfl))
      try simp only [Act.put, List.setIfInBounds_toArray, List.set_cons_zero, List.set_cons_succ]
      refine wpAnyH_take (i := 16) (oi := ⟨some 51, _, _, _, _, _⟩) (v := ?va14x16) rfl (by kernel_rfl) (by kernel_rfl) (by kernel_rfl) (fun _ _ _ h => h) (Or.inl ⟨by rfl, ?hya14x16⟩) (by assumption) ?resta14x16
      case hya14x16 => (intro wz hSw; (try dsimp only at hSw); go_simp <;> (try with_reducible rfl))
      try simp only [Act.put, List.setIfInBounds_toArray, List.set_cons_zero, List.set_cons_succ]
      refine wpAnyH_take (i := 17) (oi := ⟨some 52, _, _, _, _, _⟩) (v := ?va15x17) rfl (by kernel_rfl) (by kernel_rfl) (by kernel_rfl) (fun _ _ _ h => h) (Or.inl ⟨by rfl, ?hya15x17⟩) (by assumption) ?resta15x17
      case hya15x17 => (intro wz hSw; (try dsimp only at hSw); go_simp <;> (try with_reducible rfl))
      try simp only [Act.put, List.setIfInBounds_toArray, List.set_cons_zero, List.set_cons_succ]
      refine wpAnyH_take (i := 18) (oi := ⟨some 53, _, _, _, _, _⟩) (v := ?va16x18) rfl (by kernel_rfl) (by kernel_rfl) (by kernel_rfl) (fun _ _ _ h => h) (Or.inl ⟨by rfl, ?hya16x18⟩) (by assumption) ?resta16x18
      case hya16x18 => (intro wz hSw; (try dsimp only at hSw); go_simp <;> (try with_reducible rfl))
      try simp only [Act.put, List.setIfInBounds_toArray, List.set_cons_zero, List.set_cons_succ]
      refine wpAnyH_take (i := 19) (oi := ⟨some 54, _, _, _, _, _⟩) (v := ?va17x19) rfl (by kernel_rfl) (by kernel_rfl) (by kernel_rfl) (fun _ _ _ h => h) (Or.inl ⟨by rfl, ?hya17x19⟩) (by assumption) ?resta17x19
      case hya17x19 => (intro wz hSw; (try dsimp only at hSw); go_simp <;> (try with_reducible rfl))
      try simp only [Act.put, List.setIfInBounds_toArray, List.set_cons_zero, List.set_cons_succ]
      refine wpAnyH_take (i := 20) (oi := ⟨some 55, _, _, _, _, _⟩) (v := ?va18x20) rfl (by kernel_rfl) (by kernel_rfl) (by kernel_rfl) (fun _ _ _ h => h) (Or.inl ⟨by rfl, ?hya18x20⟩) (by assumption) ?resta18x20
      case hya18x20 => (intro wz hSw; (try dsimp only at hSw); go_simp <;> (try with_reducible rfl))
      try simp only [Act.put, List.setIfInBounds_toArray, List.set_cons_zero, List.set_cons_succ]
      refine wpAnyH_take (i := 21) (oi := ⟨some 56, _, _, _, _, _⟩) (v := ?va19x21) rfl (by kernel_rfl) (by kernel_rfl) (by kernel_rfl) (fun _ _ _ h => h) (Or.inl ⟨by rfl, ?hya19x21⟩) (by assumption) ?resta19x21
      case hya19x21 => (intro wz hSw; (try dsimp only at hSw); go_simp <;> (try with_reducible rfl))
      try simp only [Act.put, List.setIfInBounds_toArray, List.set_cons_zero, List.set_cons_succ]
      refine wpAnyH_take (i := 22) (oi := ⟨some 57, _, _, _, _, _⟩) (v := ?va20x22) rfl (by kernel_rfl) (by kernel_rfl) (by kernel_rfl) (fun _ _ _ h => h) (Or.inl ⟨by rfl, ?hya20x22⟩) (by assumption) ?resta20x22
      case hya20x22 => (intro wz hSw; (try dsimp only at hSw); go_simp <;> (try with_reducible rfl))
      try simp only [Act.put, List.setIfInBounds_toArray, List.set_cons_zero, List.set_cons_succ]
      refine wpAnyH_take (i := 23) (oi := ⟨some 58, _, _, _, _, _⟩) (v := ?va21x23) rfl (by kernel_rfl) (by kernel_rfl) (by kernel_rfl) (fun _ _ _ h => h) (Or.inl ⟨by rfl, ?hya21x23⟩) (by assumption) ?resta21x23
      case hya21x23 => (intro wz hSw; (try dsimp only at hSw); go_simp <;> (try with_reducible rfl))
      try simp only [Act.put, List.setIfInBounds_toArray, List.set_cons_zero, List.set_cons_succ]
      refine wpAnyH_take (i := 24) (oi := ⟨some 59, _, _, _, _, _⟩) (v := ?va22x24) rfl (by kernel_rfl) (by kernel_rfl) (by kernel_rfl) (fun _ _ _ h => h) (Or.inl ⟨by rfl, ?hya22x24⟩) (by assumption) ?resta22x24
      case hya22x24 => (intro wz hSw; (try dsimp only at hSw); go_simp <;> (try with_reducible rfl))
      try simp only [Act.put, List.setIfInBounds_toArray, List.set_cons_zero, List.set_cons_succ]
      refine wpAnyH_take (i := 25) (oi := ⟨some 60, _, _, _, _, _⟩) (v := ?va23x25) rfl (by kernel_rfl) (by kernel_rfl) (by kernel_rfl) (fun _ _ _ h => h) (Or.inl ⟨by rfl, ?hya23x25⟩) (by assumption) ?resta23x25
      case hya23x25 => (intro wz hSw; (try dsimp only at hSw); go_simp <;> (try with_reducible rfl))
      try simp only [Act.put, List.setIfInBounds_toArray, List.set_cons_zero, List.set_cons_succ]
      refine wpAnyH_take (i := 26) (oi := ⟨some 61, _, _, _, _, _⟩) (v := ?va24x26) rfl (by kernel_rfl) (by kernel_rfl) (by kernel_rfl) (fun _ _ _ h => h) (Or.inl ⟨by rfl, ?hya24x26⟩) (by assumption) ?resta24x26
      case hya24x26 => (intro wz hSw; (try dsimp only at hSw); go_simp <;> (try with_reducible rfl))
      try simp only [Act.put, List.setIfInBounds_toArray, List.set_cons_zero, List.set_cons_succ]
      refine wpAnyH_done (by kernel_rfl) ?_ _
      have HWl := keep (HX.out w6 (HB4.out.trans (HB6.out.mono HB4.out.size))).2
      clear HS0
      go_wp2_with fail
      refine (KD.out _ HWl.out).mono ?_
      rintro e w8 ⟨A8, n8, c8, rfl, hs8, hb8⟩
      have HS8 := keep hs8
      have HW8 := keep (HWl.out.trans (hb8.mono HWl.out.size))
      have HB28 := keep ((B26.out _ HB6.out).trans (hb8.mono (B26.out _ HB6.out).size))
      clear hs8 hb8
      have HDO := keep (show Pk.Ok ⟨dm, dkd, dq, dt, dso, db⟩ ∧ fE dkd db.length = 0 ∧ encD ⟨dm, dkd, dq, dt, dso, db⟩ = bs from by
        obtain ⟨a1, a2, a3⟩ := enc_dec HDE.out
        have e1 : decK bs = ⟨dm, dkd, dq, dt, dso, db⟩ := by rw [← HDK.out]; unfold decD; rw [if_pos HDE.out]
        rw [e1] at a1 a2 a3
        exact ⟨a1, a2, by unfold encD; dsimp only; rw [if_pos a2]; exact a3⟩)
      have LD := keep (below_lay w8 (.cells #[.bool dm, .int .u8 dkd, .int .u16 dq, .int .u32 dt, .int .u32 dso, .slice A8 n8 c8] 26))
      have HPA := keep (show PA (w8.alloc (.cells #[.bool dm, .int .u8 dkd, .int .u16 dq, .int .u32 dt, .int .u32 dso, .slice A8 n8 c8] 26)) ⟨dm, dkd, dq, dt, dso, (A8, n8, c8), db⟩ from ⟨HS8.out.step LD.out, HDO.out.1⟩)
      have KE2 := keep (encode_any ⟨dm, dkd, dq, dt, dso, (A8, n8, c8), db⟩ _ HPA.out)
      unfold EncP Pv.pk Pv.cells at KE2
      dsimp only at KE2
      rw [HDO.out.2.1, HDO.out.2.2] at KE2
      go_wp2_with fail
      refine KE2.out.mono ?_
      rintro e w9 ⟨A9, n9, c9, rfl, hs9, hb9⟩
      have HS9 := keep hs9
      have HB89 := keep (LD.out.trans (hb9.mono LD.out.size))
      have HW9 := keep (HW8.out.trans (HB89.out.mono HW8.out.size))
      clear hs9 hb9 KE2
      have KSM := keep (same_ret A9 B n9 m c9 d bs bs w9 HS9.out (HBB.out.step HW9.out))
      rw [beq_self_eq_true] at KSM
      go_wp2_with (go_at_call 14; refine KSM.out.mono ?_; rintro e wx ⟨rfl, rfl⟩)
      go_ret
      exact ⟨by simp, HW9.out⟩
    · have hdn : (de == 0) = false := by simpa using hd0
      go_enter Try.func4, Try.ntmps4
      go_wp2_with fail
      refine KA.out.mono ?_
      rintro e w1 ⟨rfl, hb1⟩
      have HB1 := keep hb1
      obtain ⟨⟨p0, p1, p2, p3, p4, p5⟩, hbw⟩ := HX.out w1 hb1
      have HW1 := keep hbw
      clear hb1 hbw
      go_wp2_with fail
      refine (KE.out _ HW1.out).mono ?_
      rintro e w2 ⟨A2, n2, c2, rfl, hs2, hb2⟩
      have HS2 := keep hs2
      have HB2 := keep (HB1.out.trans (hb2.mono HB1.out.size))
      have HW2 := keep (HX.out w2 HB2.out).2
      clear hs2 hb2 p0 p1 p2 p3 p4 p5
      have KX := keep (decode_any A2 n2 c2 xs w2 HS2.out (by have := HS2.out.len; have := HXL.out; omega))
      unfold DecP at KX
      rw [HDX.out.1, HDX.out.2.1] at KX
      dsimp only at KX
      go_wp2_with fail
      refine KX.out.mono ?_
      rintro e w3 ⟨A3, n3, c3, rfl, hs3, hb3⟩
      have HS3 := keep hs3
      have HB3 := keep (HB2.out.trans (hb3.mono HB2.out.size))
      have HB23 := keep hb3
      clear hs3 hb3 KX
      have LQ := keep (below_lay w3 (.cells #[.bool ym, .int .u8 yk, .int .u16 yq, .int .u32 yt, .int .u32 yo, .slice A3 n3 c3] 26))
      have HB4 := keep (HB3.out.trans (LQ.out.mono HB3.out.size))
      have HS0 := keep (show ∀ W : World, Below (w3.alloc (.cells #[.bool ym, .int .u8 yk, .int .u16 yq, .int .u32 yt, .int .u32 yo, .slice A3 n3 c3] 26)).heap.size (w3.alloc (.cells #[.bool ym, .int .u8 yk, .int .u16 yq, .int .u32 yt, .int .u32 yo, .slice A3 n3 c3] 26)) W → ((W.cell? ⟨w.heap.size, 0, none⟩ = some (.bool ym) ∧ W.cell? ⟨w.heap.size, 1, none⟩ = some (.int .u8 yk) ∧ W.cell? ⟨w.heap.size, 2, none⟩ = some (.int .u16 yq) ∧ W.cell? ⟨w.heap.size, 3, none⟩ = some (.int .u32 yt) ∧ W.cell? ⟨w.heap.size, 4, none⟩ = some (.int .u32 yo) ∧ W.cell? ⟨w.heap.size, 5, none⟩ = some (.slice y1 y2 y3))) ∧ (W.cell? ⟨w3.heap.size, 0, none⟩ = some (.bool ym) ∧ W.cell? ⟨w3.heap.size, 1, none⟩ = some (.int .u8 yk) ∧ W.cell? ⟨w3.heap.size, 2, none⟩ = some (.int .u16 yq) ∧ W.cell? ⟨w3.heap.size, 3, none⟩ = some (.int .u32 yt) ∧ W.cell? ⟨w3.heap.size, 4, none⟩ = some (.int .u32 yo) ∧ W.cell? ⟨w3.heap.size, 5, none⟩ = some (.slice A3 n3 c3)) from fun W hb => ⟨(HX.out W (HB4.out.trans (hb.mono HB4.out.size))).1, by have gg := (hb.block w3.heap.size (by simp)).trans (heap_alloc_new w3 (.cells #[.bool ym, .int .u8 yk, .int .u16 yq, .int .u32 yt, .int .u32 yo, .slice A3 n3 c3] 26)); exact ⟨upd_cell gg 0 _ rfl, upd_cell gg 1 _ rfl, upd_cell gg 2 _ rfl, upd_cell gg 3 _ rfl, upd_cell gg 4 _ rfl, upd_cell gg 5 _ rfl⟩⟩)
      go_wp2_with fail
      obtain ⟨W4, hW4⟩ : ∃ W4, w3.alloc (.cells #[.bool ym, .int .u8 yk, .int .u16 yq, .int .u32 yt, .int .u32 yo, .slice A3 n3 c3] 26) = W4 := ⟨_, rfl⟩
      rw [hW4] at HB4 HS0
      have HL4 := keep (show Below w3.heap.size w3 W4 by rw [← hW4]; exact LQ.out)
      rw [hW4]
      clear hW4 LQ
      have B26 := keep (show ∀ W : World, Below W4.heap.size W4 W → Below w2.heap.size w2 W from fun W hb => HB23.out.trans ((HL4.out.trans (hb.mono HL4.out.size)).mono HB23.out.size))
      have HBd := keep (Below.refl W4.heap.size W4).drew
      refine wp_region_held_drew (S := (fun w' => (w'.cell? ⟨w.heap.size, 0, none⟩ = some (.bool ym) ∧ w'.cell? ⟨w.heap.size, 1, none⟩ = some (.int .u8 yk) ∧ w'.cell? ⟨w.heap.size, 2, none⟩ = some (.int .u16 yq) ∧ w'.cell? ⟨w.heap.size, 3, none⟩ = some (.int .u32 yt) ∧ w'.cell? ⟨w.heap.size, 4, none⟩ = some (.int .u32 yo) ∧ w'.cell? ⟨w.heap.size, 5, none⟩ = some (.slice y1 y2 y3)) ∧ (w'.cell? ⟨w3.heap.size, 0, none⟩ = some (.bool ym) ∧ w'.cell? ⟨w3.heap.size, 1, none⟩ = some (.int .u8 yk) ∧ w'.cell? ⟨w3.heap.size, 2, none⟩ = some (.int .u16 yq) ∧ w'.cell? ⟨w3.heap.size, 3, none⟩ = some (.int .u32 yt) ∧ w'.cell? ⟨w3.heap.size, 4, none⟩ = some (.int .u32 yo) ∧ w'.cell? ⟨w3.heap.size, 5, none⟩ = some (.slice A3 n3 c3)))) (by kernel_rfl) (HS0.out _ (Below.refl _ W4).drew) (fun hHeld => ?_)
      have HLN := keep (show n2 = 12 + y2 from by rw [HS2.out.len, HDX.out.2.2.2])
      have hln : (n2 : Int) = 12 + (y2 : Int) := by have := HLN.out; omega
      have hlw : IntKind.i64.wrap (12 + (y2 : Int)) = 12 + (y2 : Int) := IntWalk.i64_in _ (by have := HY2.out; omega)
      refine wpAnyH_take (i := 0) (oi := ⟨some 35, _, _, _, _, _⟩) (v := ?vb1x0) rfl (by kernel_rfl) (by kernel_rfl) (by kernel_rfl) (fun _ _ _ h => h) (Or.inl ⟨by rfl, ?hyb1x0⟩) (by assumption) ?restb1x0
      case hyb1x0 => (intro wz hSw; (try dsimp only at hSw); go_simp <;> (try with_reducible rfl))
      try simp only [Act.put, List.setIfInBounds_toArray, List.set_cons_zero, List.set_cons_succ]
      refine wpAnyH_take (i := 1) (oi := ⟨some 36, _, _, _, _, _⟩) (v := ?vb2x1) rfl (by kernel_rfl) (by kernel_rfl) (by kernel_rfl) (fun _ _ _ h => h) (Or.inl ⟨by rfl, ?hyb2x1⟩) (by assumption) ?restb2x1
      case hyb2x1 => (intro wz hSw; (try dsimp only at hSw); go_simp <;> (try with_reducible rfl))
      try simp only [Act.put, List.setIfInBounds_toArray, List.set_cons_zero, List.set_cons_succ]
      refine wpAnyH_take (i := 2) (oi := ⟨some 37, _, _, _, _, _⟩) (v := ?vb3x2) rfl (by kernel_rfl) (by kernel_rfl) (by kernel_rfl) (fun _ _ _ h => h) (Or.inl ⟨by rfl, ?hyb3x2⟩) (by assumption) ?restb3x2
      case hyb3x2 => (intro wz hSw; (try dsimp only at hSw); go_simp <;> (try with_reducible rfl))
      try simp only [Act.put, List.setIfInBounds_toArray, List.set_cons_zero, List.set_cons_succ]
      refine wpAnyH_take (i := 3) (oi := ⟨some 38, _, _, _, _, _⟩) (v := ?vb4x3) rfl (by kernel_rfl) (by kernel_rfl) (by kernel_rfl) (fun _ _ _ h => h) (Or.inl ⟨by rfl, ?hyb4x3⟩) (by assumption) ?restb4x3
      case hyb4x3 => (intro wz hSw; (try dsimp only at hSw); go_simp <;> (try with_reducible rfl))
      try simp only [Act.put, List.setIfInBounds_toArray, List.set_cons_zero, List.set_cons_succ]
      refine wpAnyH_take (i := 4) (oi := ⟨some 39, _, _, _, _, _⟩) (v := ?vb5x4) rfl (by kernel_rfl) (by kernel_rfl) (by kernel_rfl) (fun _ _ _ h => h) (Or.inl ⟨by rfl, ?hyb5x4⟩) (by assumption) ?restb5x4
      case hyb5x4 => (intro wz hSw; (try dsimp only at hSw); go_simp <;> (try with_reducible rfl))
      try simp only [Act.put, List.setIfInBounds_toArray, List.set_cons_zero, List.set_cons_succ]
      refine wpAnyH_take (i := 5) (oi := ⟨some 40, _, _, _, _, _⟩) (v := ?vb6x5) rfl (by kernel_rfl) (by kernel_rfl) (by kernel_rfl) (fun _ _ _ h => h) (Or.inl ⟨by rfl, ?hyb6x5⟩) (by assumption) ?restb6x5
      case hyb6x5 => (intro wz hSw; (try dsimp only at hSw); go_simp <;> (try with_reducible rfl))
      try simp only [Act.put, List.setIfInBounds_toArray, List.set_cons_zero, List.set_cons_succ]
      refine wpAnyH_take (i := 6) (oi := ⟨some 41, _, _, _, _, _⟩) (v := ?vb7x6) rfl (by kernel_rfl) (by kernel_rfl) (by kernel_rfl) (fun _ _ _ h => h) (Or.inl ⟨by rfl, ?hyb7x6⟩) (by assumption) ?restb7x6
      case hyb7x6 => (intro wz hSw; (try dsimp only at hSw); go_simp <;> (try with_reducible rfl))
      try simp only [Act.put, List.setIfInBounds_toArray, List.set_cons_zero, List.set_cons_succ]
      refine wpAnyH_take (i := 7) (oi := ⟨some 42, _, _, _, _, _⟩) (v := ?vb8x7) rfl (by kernel_rfl) (by kernel_rfl) (by kernel_rfl) (fun _ _ _ h => h) (Or.inl ⟨by rfl, ?hyb8x7⟩) (by assumption) ?restb8x7
      case hyb8x7 => (intro wz hSw; (try dsimp only at hSw); go_simp <;> (try with_reducible rfl))
      try simp only [Act.put, List.setIfInBounds_toArray, List.set_cons_zero, List.set_cons_succ]
      refine wpAnyH_ready (rs := [8]) (by kernel_rfl) (by simp) (AllReadyH.cons (o := ⟨some 43, _, _, _, _, _⟩) rfl (fun K hK => ?_) AllReadyH.nil)
      go_simp
      go_at_call 11
      refine (theirs_any ⟨ym, yk, yq, yt, yo, (y1, y2, y3), yb⟩ _).mono ?_
      rintro e w5 ⟨rfl, hb5⟩
      have HB5 := keep (show Below W4.heap.size W4 w5 from (Below.refl _ W4).drew.trans (hb5.mono (Nat.le_refl _)))
      clear hb5
      (try go_wp2_with fail)
      refine hK.out _ _ (HS0.out _ HB5.out) (fun hHeld => ?_)
      clear hK K
      try simp only [Act.put, List.setIfInBounds_toArray, List.set_cons_zero, List.set_cons_succ]
      have KAL := keep (alike_same ⟨ym, yk, yq, yt, yo, yb⟩ A3 n3 c3 y1 y2 y3 w5 (HS3.out.step (HL4.out.trans (HB5.out.mono HL4.out.size))) (HY.out.1.step ((HX.out w5 (HB4.out.trans (HB5.out.mono HB4.out.size))).2)))
      dsimp only at KAL
      refine wpAnyH_ready (rs := [9]) (by kernel_rfl) (by simp) (AllReadyH.cons (o := ⟨some 44, _, _, _, _, _⟩) rfl (fun K hK => ?_) AllReadyH.nil)
      go_simp
      go_at_call 15
      refine KAL.out.mono ?_
      rintro e w6 ⟨rfl, hb6⟩
      have HB6 := keep (HB5.out.trans (hb6.mono HB5.out.size))
      clear hb6 KAL
      (try go_wp2_with fail)
      refine hK.out _ _ (HS0.out _ HB6.out) (fun hHeld => ?_)
      clear hK K
      try simp only [Act.put, List.setIfInBounds_toArray, List.set_cons_zero, List.set_cons_succ]
      refine wpAnyH_take (i := 10) (oi := ⟨some 45, _, _, _, _, _⟩) (v := ?vb9x10) rfl (by kernel_rfl) (by kernel_rfl) (by kernel_rfl) (fun _ _ _ h => h) (Or.inl ⟨by rfl, ?hyb9x10⟩) (by assumption) ?restb9x10
      case hyb9x10 => (intro wz hSw; (try dsimp only at hSw); go_simp <;> (try with_reducible rfl))
      try simp only [Act.put, List.setIfInBounds_toArray, List.set_cons_zero, List.set_cons_succ]
      refine wpAnyH_take (i := 11) (oi := ⟨some 46, _, _, _, _, _⟩) (v := ?vb10x11) rfl (by kernel_rfl) (by kernel_rfl) (by kernel_rfl) (fun _ _ _ h => h) (Or.inl ⟨by rfl, ?hyb10x11⟩) (by assumption) ?restb10x11
      case hyb10x11 => (intro wz hSw; (try dsimp only at hSw); go_simp <;> (try with_reducible rfl))
      try simp only [Act.put, List.setIfInBounds_toArray, List.set_cons_zero, List.set_cons_succ]
      refine wpAnyH_take (i := 12) (oi := ⟨some 47, _, _, _, _, _⟩) (v := ?vb11x12) rfl (by kernel_rfl) (by kernel_rfl) (by kernel_rfl) (fun _ _ _ h => h) (Or.inl ⟨by rfl, ?hyb11x12⟩) (by assumption) ?restb11x12
      case hyb11x12 => (intro wz hSw; (try dsimp only at hSw); go_simp <;> (try with_reducible rfl))
      try simp only [Act.put, List.setIfInBounds_toArray, List.set_cons_zero, List.set_cons_succ]
      refine wpAnyH_take (i := 13) (oi := ⟨some 48, _, _, _, _, _⟩) (v := ?vb12x13) rfl (by kernel_rfl) (by kernel_rfl) (by kernel_rfl) (fun _ _ _ h => h) (Or.inl ⟨by rfl, ?hyb12x13⟩) (by assumption) ?restb12x13
      case hyb12x13 => (intro wz hSw; (try dsimp only at hSw); go_simp <;> (try with_reducible rfl))
      try simp only [Act.put, List.setIfInBounds_toArray, List.set_cons_zero, List.set_cons_succ]
      have KIS := keep (Is_any A2 n2 c2 xs w6 (HS2.out.step (B26.out w6 HB6.out)))
      rw [HDX.out.2.2.1] at KIS
      refine wpAnyH_ready (rs := [14]) (by kernel_rfl) (by simp) (AllReadyH.cons (o := ⟨some 49, _, _, _, _, _⟩) rfl (fun K hK => ?_) AllReadyH.nil)
      go_simp
      go_at_call 16
      refine KIS.out.mono ?_
      rintro e w7 ⟨rfl, rfl⟩
      clear KIS
      (try go_wp2_with fail)
      refine hK.out _ _ (HS0.out _ HB6.out) (fun hHeld => ?_)
      clear hK K
      try simp only [Act.put, List.setIfInBounds_toArray, List.set_cons_zero, List.set_cons_succ]
      refine wpAnyH_take (i := 15) (oi := ⟨some 50, _, _, _, _, _⟩) (v := ?vb13x15) rfl (by kernel_rfl) (by kernel_rfl) (by kernel_rfl) (fun _ _ _ h => h) (Or.inl ⟨by rfl, ?hyb13x15⟩) (by assumption) ?restb13x15
      case hyb13x15 => (intro wz hSw; (try dsimp only at hSw); go_simp <;> (try with_reducible rfl))
      try simp only [Act.put, List.setIfInBounds_toArray, List.set_cons_zero, List.set_cons_succ]
      refine wpAnyH_take (i := 16) (oi := ⟨some 51, _, _, _, _, _⟩) (v := ?vb14x16) rfl (by kernel_rfl) (by kernel_rfl) (by kernel_rfl) (fun _ _ _ h => h) (Or.inl ⟨by rfl, ?hyb14x16⟩) (by assumption) ?restb14x16
      case hyb14x16 => (intro wz hSw; (try dsimp only at hSw); go_simp <;> (try with_reducible rfl))
      try simp only [Act.put, List.setIfInBounds_toArray, List.set_cons_zero, List.set_cons_succ]
      refine wpAnyH_take (i := 17) (oi := ⟨some 52, _, _, _, _, _⟩) (v := ?vb15x17) rfl (by kernel_rfl) (by kernel_rfl) (by kernel_rfl) (fun _ _ _ h => h) (Or.inl ⟨by rfl, ?hyb15x17⟩) (by assumption) ?restb15x17
      case hyb15x17 => (intro wz hSw; (try dsimp only at hSw); go_simp <;> (try with_reducible rfl))
      try simp only [Act.put, List.setIfInBounds_toArray, List.set_cons_zero, List.set_cons_succ]
      refine wpAnyH_take (i := 18) (oi := ⟨some 53, _, _, _, _, _⟩) (v := ?vb16x18) rfl (by kernel_rfl) (by kernel_rfl) (by kernel_rfl) (fun _ _ _ h => h) (Or.inl ⟨by rfl, ?hyb16x18⟩) (by assumption) ?restb16x18
      case hyb16x18 => (intro wz hSw; (try dsimp only at hSw); go_simp <;> (try with_reducible rfl))
      try simp only [Act.put, List.setIfInBounds_toArray, List.set_cons_zero, List.set_cons_succ]
      refine wpAnyH_take (i := 19) (oi := ⟨some 54, _, _, _, _, _⟩) (v := ?vb17x19) rfl (by kernel_rfl) (by kernel_rfl) (by kernel_rfl) (fun _ _ _ h => h) (Or.inl ⟨by rfl, ?hyb17x19⟩) (by assumption) ?restb17x19
      case hyb17x19 => (intro wz hSw; (try dsimp only at hSw); go_simp <;> (try with_reducible rfl))
      try simp only [Act.put, List.setIfInBounds_toArray, List.set_cons_zero, List.set_cons_succ]
      refine wpAnyH_take (i := 20) (oi := ⟨some 55, _, _, _, _, _⟩) (v := ?vb18x20) rfl (by kernel_rfl) (by kernel_rfl) (by kernel_rfl) (fun _ _ _ h => h) (Or.inl ⟨by rfl, ?hyb18x20⟩) (by assumption) ?restb18x20
      case hyb18x20 => (intro wz hSw; (try dsimp only at hSw); go_simp <;> (try with_reducible rfl))
      try simp only [Act.put, List.setIfInBounds_toArray, List.set_cons_zero, List.set_cons_succ]
      refine wpAnyH_take (i := 21) (oi := ⟨some 56, _, _, _, _, _⟩) (v := ?vb19x21) rfl (by kernel_rfl) (by kernel_rfl) (by kernel_rfl) (fun _ _ _ h => h) (Or.inl ⟨by rfl, ?hyb19x21⟩) (by assumption) ?restb19x21
      case hyb19x21 => (intro wz hSw; (try dsimp only at hSw); go_simp <;> (try with_reducible rfl))
      try simp only [Act.put, List.setIfInBounds_toArray, List.set_cons_zero, List.set_cons_succ]
      refine wpAnyH_take (i := 22) (oi := ⟨some 57, _, _, _, _, _⟩) (v := ?vb20x22) rfl (by kernel_rfl) (by kernel_rfl) (by kernel_rfl) (fun _ _ _ h => h) (Or.inl ⟨by rfl, ?hyb20x22⟩) (by assumption) ?restb20x22
      case hyb20x22 => (intro wz hSw; (try dsimp only at hSw); go_simp <;> (try with_reducible rfl))
      try simp only [Act.put, List.setIfInBounds_toArray, List.set_cons_zero, List.set_cons_succ]
      refine wpAnyH_take (i := 23) (oi := ⟨some 58, _, _, _, _, _⟩) (v := ?vb21x23) rfl (by kernel_rfl) (by kernel_rfl) (by kernel_rfl) (fun _ _ _ h => h) (Or.inl ⟨by rfl, ?hyb21x23⟩) (by assumption) ?restb21x23
      case hyb21x23 => (intro wz hSw; (try dsimp only at hSw); go_simp <;> (try with_reducible rfl))
      try simp only [Act.put, List.setIfInBounds_toArray, List.set_cons_zero, List.set_cons_succ]
      refine wpAnyH_take (i := 24) (oi := ⟨some 59, _, _, _, _, _⟩) (v := ?vb22x24) rfl (by kernel_rfl) (by kernel_rfl) (by kernel_rfl) (fun _ _ _ h => h) (Or.inl ⟨by rfl, ?hyb22x24⟩) (by assumption) ?restb22x24
      case hyb22x24 => (intro wz hSw; (try dsimp only at hSw); go_simp <;> (try with_reducible rfl))
      try simp only [Act.put, List.setIfInBounds_toArray, List.set_cons_zero, List.set_cons_succ]
      refine wpAnyH_take (i := 25) (oi := ⟨some 60, _, _, _, _, _⟩) (v := ?vb23x25) rfl (by kernel_rfl) (by kernel_rfl) (by kernel_rfl) (fun _ _ _ h => h) (Or.inl ⟨by rfl, ?hyb23x25⟩) (by assumption) ?restb23x25
      case hyb23x25 => (intro wz hSw; (try dsimp only at hSw); go_simp <;> (try with_reducible rfl))
      try simp only [Act.put, List.setIfInBounds_toArray, List.set_cons_zero, List.set_cons_succ]
      refine wpAnyH_take (i := 26) (oi := ⟨some 61, _, _, _, _, _⟩) (v := ?vb24x26) rfl (by kernel_rfl) (by kernel_rfl) (by kernel_rfl) (fun _ _ _ h => h) (Or.inl ⟨by rfl, ?hyb24x26⟩) (by assumption) ?restb24x26
      case hyb24x26 => (intro wz hSw; (try dsimp only at hSw); go_simp <;> (try with_reducible rfl))
      try simp only [Act.put, List.setIfInBounds_toArray, List.set_cons_zero, List.set_cons_succ]
      refine wpAnyH_done (by kernel_rfl) ?_ _
      have HWl := keep (HX.out w6 (HB4.out.trans (HB6.out.mono HB4.out.size))).2
      clear HS0
      go_wp2_with fail
      refine (KD.out _ HWl.out).mono ?_
      rintro e w8 ⟨A8, n8, c8, rfl, hs8, hb8⟩
      have HS8 := keep hs8
      have HW8 := keep (HWl.out.trans (hb8.mono HWl.out.size))
      have HB28 := keep ((B26.out _ HB6.out).trans (hb8.mono (B26.out _ HB6.out).size))
      clear hs8 hb8
      have HDO := keep (show Pk.Ok ⟨dm, dkd, dq, dt, dso, db⟩ from by
        have e1 : decD bs = pkZ := by unfold decD; rw [if_neg (by rw [HDE.out]; exact hd0)]
        have e2 := HDK.out.symm.trans e1
        rw [e2]
        exact ⟨⟨Int.le_refl _, by decide⟩, ⟨Int.le_refl _, by decide⟩, ⟨Int.le_refl _, by decide⟩, ⟨Int.le_refl _, by decide⟩⟩)
      have LD := keep (below_lay w8 (.cells #[.bool dm, .int .u8 dkd, .int .u16 dq, .int .u32 dt, .int .u32 dso, .slice A8 n8 c8] 26))
      have HPA := keep (show PA (w8.alloc (.cells #[.bool dm, .int .u8 dkd, .int .u16 dq, .int .u32 dt, .int .u32 dso, .slice A8 n8 c8] 26)) ⟨dm, dkd, dq, dt, dso, (A8, n8, c8), db⟩ from ⟨HS8.out.step LD.out, HDO.out⟩)
      have KE2 := keep (encode_any ⟨dm, dkd, dq, dt, dso, (A8, n8, c8), db⟩ _ HPA.out)
      unfold EncP Pv.pk Pv.cells at KE2
      dsimp only at KE2
      obtain ⟨h2e, hh2e⟩ : ∃ h2e, fE dkd db.length = h2e := ⟨_, rfl⟩
      rw [hh2e] at KE2
      clear hh2e
      go_wp2_with fail
      refine KE2.out.mono ?_
      rintro e w9 ⟨A9, n9, c9, rfl, hs9, hb9⟩
      have HS9 := keep hs9
      have HB89 := keep (LD.out.trans (hb9.mono LD.out.size))
      have HW9 := keep (HW8.out.trans (HB89.out.mono HW8.out.size))
      clear hs9 hb9 KE2
      go_wp2_with fail
      go_ret
      exact ⟨by simp, HW9.out⟩
  · have hfn : (fe == 0) = false := by simpa using hf0
    have HX0 := keep (show xs = [] from by rw [← HXS.out]; unfold encD; dsimp only; rw [if_neg (by rw [HFE.out]; exact hf0)])
    by_cases hd0 : de = 0
    · subst hd0
      go_enter Try.func4, Try.ntmps4
      go_wp2_with fail
      refine KA.out.mono ?_
      rintro e w1 ⟨rfl, hb1⟩
      have HB1 := keep hb1
      obtain ⟨⟨p0, p1, p2, p3, p4, p5⟩, hbw⟩ := HX.out w1 hb1
      have HW1 := keep hbw
      clear hb1 hbw
      go_wp2_with fail
      refine (KE.out _ HW1.out).mono ?_
      rintro e w2 ⟨A2, n2, c2, rfl, hs2, hb2⟩
      have HS2 := keep hs2
      have HB2 := keep (HB1.out.trans (hb2.mono HB1.out.size))
      have HW2 := keep (HX.out w2 HB2.out).2
      clear hs2 hb2 p0 p1 p2 p3 p4 p5
      have KX := keep (decode_any A2 n2 c2 xs w2 HS2.out (by have := HS2.out.len; have := HXL.out; omega))
      unfold DecP at KX
      rw [HX0.out] at KX
      rw [show decE [] = 2 from rfl, show decD [] = pkZ from rfl] at KX
      dsimp only [pkZ] at KX
      go_wp2_with fail
      refine KX.out.mono ?_
      rintro e w3 ⟨A3, n3, c3, rfl, hs3, hb3⟩
      have HS3 := keep hs3
      have HB3 := keep (HB2.out.trans (hb3.mono HB2.out.size))
      have HB23 := keep hb3
      clear hs3 hb3 KX
      have LQ := keep (below_lay w3 (.cells #[.bool false, .int .u8 0, .int .u16 0, .int .u32 0, .int .u32 0, .slice A3 n3 c3] 26))
      have HB4 := keep (HB3.out.trans (LQ.out.mono HB3.out.size))
      have HS0 := keep (show ∀ W : World, Below (w3.alloc (.cells #[.bool false, .int .u8 0, .int .u16 0, .int .u32 0, .int .u32 0, .slice A3 n3 c3] 26)).heap.size (w3.alloc (.cells #[.bool false, .int .u8 0, .int .u16 0, .int .u32 0, .int .u32 0, .slice A3 n3 c3] 26)) W → ((W.cell? ⟨w.heap.size, 0, none⟩ = some (.bool ym) ∧ W.cell? ⟨w.heap.size, 1, none⟩ = some (.int .u8 yk) ∧ W.cell? ⟨w.heap.size, 2, none⟩ = some (.int .u16 yq) ∧ W.cell? ⟨w.heap.size, 3, none⟩ = some (.int .u32 yt) ∧ W.cell? ⟨w.heap.size, 4, none⟩ = some (.int .u32 yo) ∧ W.cell? ⟨w.heap.size, 5, none⟩ = some (.slice y1 y2 y3))) ∧ (W.cell? ⟨w3.heap.size, 0, none⟩ = some (.bool false) ∧ W.cell? ⟨w3.heap.size, 1, none⟩ = some (.int .u8 0) ∧ W.cell? ⟨w3.heap.size, 2, none⟩ = some (.int .u16 0) ∧ W.cell? ⟨w3.heap.size, 3, none⟩ = some (.int .u32 0) ∧ W.cell? ⟨w3.heap.size, 4, none⟩ = some (.int .u32 0) ∧ W.cell? ⟨w3.heap.size, 5, none⟩ = some (.slice A3 n3 c3)) from fun W hb => ⟨(HX.out W (HB4.out.trans (hb.mono HB4.out.size))).1, by have gg := (hb.block w3.heap.size (by simp)).trans (heap_alloc_new w3 (.cells #[.bool false, .int .u8 0, .int .u16 0, .int .u32 0, .int .u32 0, .slice A3 n3 c3] 26)); exact ⟨upd_cell gg 0 _ rfl, upd_cell gg 1 _ rfl, upd_cell gg 2 _ rfl, upd_cell gg 3 _ rfl, upd_cell gg 4 _ rfl, upd_cell gg 5 _ rfl⟩⟩)
      go_wp2_with fail
      obtain ⟨W4, hW4⟩ : ∃ W4, w3.alloc (.cells #[.bool false, .int .u8 0, .int .u16 0, .int .u32 0, .int .u32 0, .slice A3 n3 c3] 26) = W4 := ⟨_, rfl⟩
      rw [hW4] at HB4 HS0
      have HL4 := keep (show Below w3.heap.size w3 W4 by rw [← hW4]; exact LQ.out)
      rw [hW4]
      clear hW4 LQ
      have B26 := keep (show ∀ W : World, Below W4.heap.size W4 W → Below w2.heap.size w2 W from fun W hb => HB23.out.trans ((HL4.out.trans (hb.mono HL4.out.size)).mono HB23.out.size))
      have HBd := keep (Below.refl W4.heap.size W4).drew
      refine wp_region_held_drew (S := (fun w' => (w'.cell? ⟨w.heap.size, 0, none⟩ = some (.bool ym) ∧ w'.cell? ⟨w.heap.size, 1, none⟩ = some (.int .u8 yk) ∧ w'.cell? ⟨w.heap.size, 2, none⟩ = some (.int .u16 yq) ∧ w'.cell? ⟨w.heap.size, 3, none⟩ = some (.int .u32 yt) ∧ w'.cell? ⟨w.heap.size, 4, none⟩ = some (.int .u32 yo) ∧ w'.cell? ⟨w.heap.size, 5, none⟩ = some (.slice y1 y2 y3)) ∧ (w'.cell? ⟨w3.heap.size, 0, none⟩ = some (.bool false) ∧ w'.cell? ⟨w3.heap.size, 1, none⟩ = some (.int .u8 0) ∧ w'.cell? ⟨w3.heap.size, 2, none⟩ = some (.int .u16 0) ∧ w'.cell? ⟨w3.heap.size, 3, none⟩ = some (.int .u32 0) ∧ w'.cell? ⟨w3.heap.size, 4, none⟩ = some (.int .u32 0) ∧ w'.cell? ⟨w3.heap.size, 5, none⟩ = some (.slice A3 n3 c3)))) (by kernel_rfl) (HS0.out _ (Below.refl _ W4).drew) (fun hHeld => ?_)
      refine wpAnyH_take (i := 0) (oi := ⟨some 35, _, _, _, _, _⟩) (v := ?vc1x0) rfl (by kernel_rfl) (by kernel_rfl) (by kernel_rfl) (fun _ _ _ h => h) (Or.inl ⟨by rfl, ?hyc1x0⟩) (by assumption) ?restc1x0
      case hyc1x0 => (intro wz hSw; (try dsimp only at hSw); go_simp <;> (try with_reducible rfl))
      try simp only [Act.put, List.setIfInBounds_toArray, List.set_cons_zero, List.set_cons_succ]
      refine wpAnyH_take (i := 1) (oi := ⟨some 36, _, _, _, _, _⟩) (v := ?vc2x1) rfl (by kernel_rfl) (by kernel_rfl) (by kernel_rfl) (fun _ _ _ h => h) (Or.inl ⟨by rfl, ?hyc2x1⟩) (by assumption) ?restc2x1
      case hyc2x1 => (intro wz hSw; (try dsimp only at hSw); go_simp <;> (try with_reducible rfl))
      try simp only [Act.put, List.setIfInBounds_toArray, List.set_cons_zero, List.set_cons_succ]
      refine wpAnyH_take (i := 2) (oi := ⟨some 37, _, _, _, _, _⟩) (v := ?vc3x2) rfl (by kernel_rfl) (by kernel_rfl) (by kernel_rfl) (fun _ _ _ h => h) (Or.inl ⟨by rfl, ?hyc3x2⟩) (by assumption) ?restc3x2
      case hyc3x2 => (intro wz hSw; (try dsimp only at hSw); go_simp <;> (try with_reducible rfl))
      try simp only [Act.put, List.setIfInBounds_toArray, List.set_cons_zero, List.set_cons_succ]
      refine wpAnyH_take (i := 3) (oi := ⟨some 38, _, _, _, _, _⟩) (v := undef) rfl (by kernel_rfl) (by kernel_rfl) (by kernel_rfl) (fun _ _ _ h => h) (Or.inr ⟨by rfl, rfl⟩) (by assumption) ?_
      try simp only [Act.put, List.setIfInBounds_toArray, List.set_cons_zero, List.set_cons_succ]
      refine wpAnyH_take (i := 4) (oi := ⟨some 39, _, _, _, _, _⟩) (v := undef) rfl (by kernel_rfl) (by kernel_rfl) (by kernel_rfl) (fun _ _ _ h => h) (Or.inr ⟨by rfl, rfl⟩) (by assumption) ?_
      try simp only [Act.put, List.setIfInBounds_toArray, List.set_cons_zero, List.set_cons_succ]
      refine wpAnyH_take (i := 5) (oi := ⟨some 40, _, _, _, _, _⟩) (v := undef) rfl (by kernel_rfl) (by kernel_rfl) (by kernel_rfl) (fun _ _ _ h => h) (Or.inr ⟨by rfl, rfl⟩) (by assumption) ?_
      try simp only [Act.put, List.setIfInBounds_toArray, List.set_cons_zero, List.set_cons_succ]
      refine wpAnyH_take (i := 6) (oi := ⟨some 41, _, _, _, _, _⟩) (v := undef) rfl (by kernel_rfl) (by kernel_rfl) (by kernel_rfl) (fun _ _ _ h => h) (Or.inr ⟨by rfl, rfl⟩) (by assumption) ?_
      try simp only [Act.put, List.setIfInBounds_toArray, List.set_cons_zero, List.set_cons_succ]
      refine wpAnyH_take (i := 7) (oi := ⟨some 42, _, _, _, _, _⟩) (v := undef) rfl (by kernel_rfl) (by kernel_rfl) (by kernel_rfl) (fun _ _ _ h => h) (Or.inr ⟨by rfl, rfl⟩) (by assumption) ?_
      try simp only [Act.put, List.setIfInBounds_toArray, List.set_cons_zero, List.set_cons_succ]
      refine wpAnyH_take (i := 8) (oi := ⟨some 43, _, _, _, _, _⟩) (v := undef) rfl (by kernel_rfl) (by kernel_rfl) (by kernel_rfl) (fun _ _ _ h => h) (Or.inr ⟨by rfl, rfl⟩) (by assumption) ?_
      try simp only [Act.put, List.setIfInBounds_toArray, List.set_cons_zero, List.set_cons_succ]
      refine wpAnyH_take (i := 9) (oi := ⟨some 44, _, _, _, _, _⟩) (v := undef) rfl (by kernel_rfl) (by kernel_rfl) (by kernel_rfl) (fun _ _ _ h => h) (Or.inr ⟨by rfl, rfl⟩) (by assumption) ?_
      try simp only [Act.put, List.setIfInBounds_toArray, List.set_cons_zero, List.set_cons_succ]
      refine wpAnyH_take (i := 10) (oi := ⟨some 45, _, _, _, _, _⟩) (v := undef) rfl (by kernel_rfl) (by kernel_rfl) (by kernel_rfl) (fun _ _ _ h => h) (Or.inr ⟨by rfl, rfl⟩) (by assumption) ?_
      try simp only [Act.put, List.setIfInBounds_toArray, List.set_cons_zero, List.set_cons_succ]
      refine wpAnyH_take (i := 11) (oi := ⟨some 46, _, _, _, _, _⟩) (v := undef) rfl (by kernel_rfl) (by kernel_rfl) (by kernel_rfl) (fun _ _ _ h => h) (Or.inr ⟨by rfl, rfl⟩) (by assumption) ?_
      try simp only [Act.put, List.setIfInBounds_toArray, List.set_cons_zero, List.set_cons_succ]
      refine wpAnyH_take (i := 12) (oi := ⟨some 47, _, _, _, _, _⟩) (v := undef) rfl (by kernel_rfl) (by kernel_rfl) (by kernel_rfl) (fun _ _ _ h => h) (Or.inr ⟨by rfl, rfl⟩) (by assumption) ?_
      try simp only [Act.put, List.setIfInBounds_toArray, List.set_cons_zero, List.set_cons_succ]
      refine wpAnyH_take (i := 13) (oi := ⟨some 48, _, _, _, _, _⟩) (v := undef) rfl (by kernel_rfl) (by kernel_rfl) (by kernel_rfl) (fun _ _ _ h => h) (Or.inr ⟨by rfl, rfl⟩) (by assumption) ?_
      try simp only [Act.put, List.setIfInBounds_toArray, List.set_cons_zero, List.set_cons_succ]
      refine wpAnyH_take (i := 14) (oi := ⟨some 49, _, _, _, _, _⟩) (v := undef) rfl (by kernel_rfl) (by kernel_rfl) (by kernel_rfl) (fun _ _ _ h => h) (Or.inr ⟨by rfl, rfl⟩) (by assumption) ?_
      try simp only [Act.put, List.setIfInBounds_toArray, List.set_cons_zero, List.set_cons_succ]
      refine wpAnyH_take (i := 15) (oi := ⟨some 50, _, _, _, _, _⟩) (v := undef) rfl (by kernel_rfl) (by kernel_rfl) (by kernel_rfl) (fun _ _ _ h => h) (Or.inr ⟨by rfl, rfl⟩) (by assumption) ?_
      try simp only [Act.put, List.setIfInBounds_toArray, List.set_cons_zero, List.set_cons_succ]
      refine wpAnyH_take (i := 16) (oi := ⟨some 51, _, _, _, _, _⟩) (v := undef) rfl (by kernel_rfl) (by kernel_rfl) (by kernel_rfl) (fun _ _ _ h => h) (Or.inr ⟨by rfl, rfl⟩) (by assumption) ?_
      try simp only [Act.put, List.setIfInBounds_toArray, List.set_cons_zero, List.set_cons_succ]
      refine wpAnyH_take (i := 17) (oi := ⟨some 52, _, _, _, _, _⟩) (v := undef) rfl (by kernel_rfl) (by kernel_rfl) (by kernel_rfl) (fun _ _ _ h => h) (Or.inr ⟨by rfl, rfl⟩) (by assumption) ?_
      try simp only [Act.put, List.setIfInBounds_toArray, List.set_cons_zero, List.set_cons_succ]
      refine wpAnyH_take (i := 18) (oi := ⟨some 53, _, _, _, _, _⟩) (v := undef) rfl (by kernel_rfl) (by kernel_rfl) (by kernel_rfl) (fun _ _ _ h => h) (Or.inr ⟨by rfl, rfl⟩) (by assumption) ?_
      try simp only [Act.put, List.setIfInBounds_toArray, List.set_cons_zero, List.set_cons_succ]
      refine wpAnyH_take (i := 19) (oi := ⟨some 54, _, _, _, _, _⟩) (v := undef) rfl (by kernel_rfl) (by kernel_rfl) (by kernel_rfl) (fun _ _ _ h => h) (Or.inr ⟨by rfl, rfl⟩) (by assumption) ?_
      try simp only [Act.put, List.setIfInBounds_toArray, List.set_cons_zero, List.set_cons_succ]
      refine wpAnyH_take (i := 20) (oi := ⟨some 55, _, _, _, _, _⟩) (v := undef) rfl (by kernel_rfl) (by kernel_rfl) (by kernel_rfl) (fun _ _ _ h => h) (Or.inr ⟨by rfl, rfl⟩) (by assumption) ?_
      try simp only [Act.put, List.setIfInBounds_toArray, List.set_cons_zero, List.set_cons_succ]
      refine wpAnyH_take (i := 21) (oi := ⟨some 56, _, _, _, _, _⟩) (v := undef) rfl (by kernel_rfl) (by kernel_rfl) (by kernel_rfl) (fun _ _ _ h => h) (Or.inr ⟨by rfl, rfl⟩) (by assumption) ?_
      try simp only [Act.put, List.setIfInBounds_toArray, List.set_cons_zero, List.set_cons_succ]
      refine wpAnyH_take (i := 22) (oi := ⟨some 57, _, _, _, _, _⟩) (v := undef) rfl (by kernel_rfl) (by kernel_rfl) (by kernel_rfl) (fun _ _ _ h => h) (Or.inr ⟨by rfl, rfl⟩) (by assumption) ?_
      try simp only [Act.put, List.setIfInBounds_toArray, List.set_cons_zero, List.set_cons_succ]
      refine wpAnyH_take (i := 23) (oi := ⟨some 58, _, _, _, _, _⟩) (v := undef) rfl (by kernel_rfl) (by kernel_rfl) (by kernel_rfl) (fun _ _ _ h => h) (Or.inr ⟨by rfl, rfl⟩) (by assumption) ?_
      try simp only [Act.put, List.setIfInBounds_toArray, List.set_cons_zero, List.set_cons_succ]
      refine wpAnyH_take (i := 24) (oi := ⟨some 59, _, _, _, _, _⟩) (v := undef) rfl (by kernel_rfl) (by kernel_rfl) (by kernel_rfl) (fun _ _ _ h => h) (Or.inr ⟨by rfl, rfl⟩) (by assumption) ?_
      try simp only [Act.put, List.setIfInBounds_toArray, List.set_cons_zero, List.set_cons_succ]
      refine wpAnyH_take (i := 25) (oi := ⟨some 60, _, _, _, _, _⟩) (v := undef) rfl (by kernel_rfl) (by kernel_rfl) (by kernel_rfl) (fun _ _ _ h => h) (Or.inr ⟨by rfl, rfl⟩) (by assumption) ?_
      try simp only [Act.put, List.setIfInBounds_toArray, List.set_cons_zero, List.set_cons_succ]
      refine wpAnyH_take (i := 26) (oi := ⟨some 61, _, _, _, _, _⟩) (v := ?vc4x26) rfl (by kernel_rfl) (by kernel_rfl) (by kernel_rfl) (fun _ _ _ h => h) (Or.inl ⟨by rfl, ?hyc4x26⟩) (by assumption) ?restc4x26
      case hyc4x26 => (intro wz hSw; (try dsimp only at hSw); go_simp <;> (try with_reducible rfl))
      try simp only [Act.put, List.setIfInBounds_toArray, List.set_cons_zero, List.set_cons_succ]
      refine wpAnyH_done (by kernel_rfl) ?_ _
      have HWl := keep (HX.out (World.drew W4) (HB4.out.trans (HBd.out.mono HB4.out.size))).2
      clear HS0
      go_wp2_with fail
      refine (KD.out _ HWl.out).mono ?_
      rintro e w8 ⟨A8, n8, c8, rfl, hs8, hb8⟩
      have HS8 := keep hs8
      have HW8 := keep (HWl.out.trans (hb8.mono HWl.out.size))
      have HB28 := keep ((B26.out _ HBd.out).trans (hb8.mono (B26.out _ HBd.out).size))
      clear hs8 hb8
      have HDO := keep (show Pk.Ok ⟨dm, dkd, dq, dt, dso, db⟩ ∧ fE dkd db.length = 0 ∧ encD ⟨dm, dkd, dq, dt, dso, db⟩ = bs from by
        obtain ⟨a1, a2, a3⟩ := enc_dec HDE.out
        have e1 : decK bs = ⟨dm, dkd, dq, dt, dso, db⟩ := by rw [← HDK.out]; unfold decD; rw [if_pos HDE.out]
        rw [e1] at a1 a2 a3
        exact ⟨a1, a2, by unfold encD; dsimp only; rw [if_pos a2]; exact a3⟩)
      have LD := keep (below_lay w8 (.cells #[.bool dm, .int .u8 dkd, .int .u16 dq, .int .u32 dt, .int .u32 dso, .slice A8 n8 c8] 26))
      have HPA := keep (show PA (w8.alloc (.cells #[.bool dm, .int .u8 dkd, .int .u16 dq, .int .u32 dt, .int .u32 dso, .slice A8 n8 c8] 26)) ⟨dm, dkd, dq, dt, dso, (A8, n8, c8), db⟩ from ⟨HS8.out.step LD.out, HDO.out.1⟩)
      have KE2 := keep (encode_any ⟨dm, dkd, dq, dt, dso, (A8, n8, c8), db⟩ _ HPA.out)
      unfold EncP Pv.pk Pv.cells at KE2
      dsimp only at KE2
      rw [HDO.out.2.1, HDO.out.2.2] at KE2
      go_wp2_with fail
      refine KE2.out.mono ?_
      rintro e w9 ⟨A9, n9, c9, rfl, hs9, hb9⟩
      have HS9 := keep hs9
      have HB89 := keep (LD.out.trans (hb9.mono LD.out.size))
      have HW9 := keep (HW8.out.trans (HB89.out.mono HW8.out.size))
      clear hs9 hb9 KE2
      obtain rfl : n2 = 0 := by rw [HS2.out.len, HX0.out]; rfl
      have KSM := keep (same_ret A9 B n9 m c9 d bs bs w9 HS9.out (HBB.out.step HW9.out))
      rw [beq_self_eq_true] at KSM
      go_wp2_with (go_at_call 14; refine KSM.out.mono ?_; rintro e wx ⟨rfl, rfl⟩)
      go_ret
      exact ⟨by simp, HW9.out⟩
    · have hdn : (de == 0) = false := by simpa using hd0
      go_enter Try.func4, Try.ntmps4
      go_wp2_with fail
      refine KA.out.mono ?_
      rintro e w1 ⟨rfl, hb1⟩
      have HB1 := keep hb1
      obtain ⟨⟨p0, p1, p2, p3, p4, p5⟩, hbw⟩ := HX.out w1 hb1
      have HW1 := keep hbw
      clear hb1 hbw
      go_wp2_with fail
      refine (KE.out _ HW1.out).mono ?_
      rintro e w2 ⟨A2, n2, c2, rfl, hs2, hb2⟩
      have HS2 := keep hs2
      have HB2 := keep (HB1.out.trans (hb2.mono HB1.out.size))
      have HW2 := keep (HX.out w2 HB2.out).2
      clear hs2 hb2 p0 p1 p2 p3 p4 p5
      have KX := keep (decode_any A2 n2 c2 xs w2 HS2.out (by have := HS2.out.len; have := HXL.out; omega))
      unfold DecP at KX
      rw [HX0.out] at KX
      rw [show decE [] = 2 from rfl, show decD [] = pkZ from rfl] at KX
      dsimp only [pkZ] at KX
      go_wp2_with fail
      refine KX.out.mono ?_
      rintro e w3 ⟨A3, n3, c3, rfl, hs3, hb3⟩
      have HS3 := keep hs3
      have HB3 := keep (HB2.out.trans (hb3.mono HB2.out.size))
      have HB23 := keep hb3
      clear hs3 hb3 KX
      have LQ := keep (below_lay w3 (.cells #[.bool false, .int .u8 0, .int .u16 0, .int .u32 0, .int .u32 0, .slice A3 n3 c3] 26))
      have HB4 := keep (HB3.out.trans (LQ.out.mono HB3.out.size))
      have HS0 := keep (show ∀ W : World, Below (w3.alloc (.cells #[.bool false, .int .u8 0, .int .u16 0, .int .u32 0, .int .u32 0, .slice A3 n3 c3] 26)).heap.size (w3.alloc (.cells #[.bool false, .int .u8 0, .int .u16 0, .int .u32 0, .int .u32 0, .slice A3 n3 c3] 26)) W → ((W.cell? ⟨w.heap.size, 0, none⟩ = some (.bool ym) ∧ W.cell? ⟨w.heap.size, 1, none⟩ = some (.int .u8 yk) ∧ W.cell? ⟨w.heap.size, 2, none⟩ = some (.int .u16 yq) ∧ W.cell? ⟨w.heap.size, 3, none⟩ = some (.int .u32 yt) ∧ W.cell? ⟨w.heap.size, 4, none⟩ = some (.int .u32 yo) ∧ W.cell? ⟨w.heap.size, 5, none⟩ = some (.slice y1 y2 y3))) ∧ (W.cell? ⟨w3.heap.size, 0, none⟩ = some (.bool false) ∧ W.cell? ⟨w3.heap.size, 1, none⟩ = some (.int .u8 0) ∧ W.cell? ⟨w3.heap.size, 2, none⟩ = some (.int .u16 0) ∧ W.cell? ⟨w3.heap.size, 3, none⟩ = some (.int .u32 0) ∧ W.cell? ⟨w3.heap.size, 4, none⟩ = some (.int .u32 0) ∧ W.cell? ⟨w3.heap.size, 5, none⟩ = some (.slice A3 n3 c3)) from fun W hb => ⟨(HX.out W (HB4.out.trans (hb.mono HB4.out.size))).1, by have gg := (hb.block w3.heap.size (by simp)).trans (heap_alloc_new w3 (.cells #[.bool false, .int .u8 0, .int .u16 0, .int .u32 0, .int .u32 0, .slice A3 n3 c3] 26)); exact ⟨upd_cell gg 0 _ rfl, upd_cell gg 1 _ rfl, upd_cell gg 2 _ rfl, upd_cell gg 3 _ rfl, upd_cell gg 4 _ rfl, upd_cell gg 5 _ rfl⟩⟩)
      go_wp2_with fail
      obtain ⟨W4, hW4⟩ : ∃ W4, w3.alloc (.cells #[.bool false, .int .u8 0, .int .u16 0, .int .u32 0, .int .u32 0, .slice A3 n3 c3] 26) = W4 := ⟨_, rfl⟩
      rw [hW4] at HB4 HS0
      have HL4 := keep (show Below w3.heap.size w3 W4 by rw [← hW4]; exact LQ.out)
      rw [hW4]
      clear hW4 LQ
      have B26 := keep (show ∀ W : World, Below W4.heap.size W4 W → Below w2.heap.size w2 W from fun W hb => HB23.out.trans ((HL4.out.trans (hb.mono HL4.out.size)).mono HB23.out.size))
      have HBd := keep (Below.refl W4.heap.size W4).drew
      refine wp_region_held_drew (S := (fun w' => (w'.cell? ⟨w.heap.size, 0, none⟩ = some (.bool ym) ∧ w'.cell? ⟨w.heap.size, 1, none⟩ = some (.int .u8 yk) ∧ w'.cell? ⟨w.heap.size, 2, none⟩ = some (.int .u16 yq) ∧ w'.cell? ⟨w.heap.size, 3, none⟩ = some (.int .u32 yt) ∧ w'.cell? ⟨w.heap.size, 4, none⟩ = some (.int .u32 yo) ∧ w'.cell? ⟨w.heap.size, 5, none⟩ = some (.slice y1 y2 y3)) ∧ (w'.cell? ⟨w3.heap.size, 0, none⟩ = some (.bool false) ∧ w'.cell? ⟨w3.heap.size, 1, none⟩ = some (.int .u8 0) ∧ w'.cell? ⟨w3.heap.size, 2, none⟩ = some (.int .u16 0) ∧ w'.cell? ⟨w3.heap.size, 3, none⟩ = some (.int .u32 0) ∧ w'.cell? ⟨w3.heap.size, 4, none⟩ = some (.int .u32 0) ∧ w'.cell? ⟨w3.heap.size, 5, none⟩ = some (.slice A3 n3 c3)))) (by kernel_rfl) (HS0.out _ (Below.refl _ W4).drew) (fun hHeld => ?_)
      refine wpAnyH_take (i := 0) (oi := ⟨some 35, _, _, _, _, _⟩) (v := ?vd1x0) rfl (by kernel_rfl) (by kernel_rfl) (by kernel_rfl) (fun _ _ _ h => h) (Or.inl ⟨by rfl, ?hyd1x0⟩) (by assumption) ?restd1x0
      case hyd1x0 => (intro wz hSw; (try dsimp only at hSw); go_simp <;> (try with_reducible rfl))
      try simp only [Act.put, List.setIfInBounds_toArray, List.set_cons_zero, List.set_cons_succ]
      refine wpAnyH_take (i := 1) (oi := ⟨some 36, _, _, _, _, _⟩) (v := ?vd2x1) rfl (by kernel_rfl) (by kernel_rfl) (by kernel_rfl) (fun _ _ _ h => h) (Or.inl ⟨by rfl, ?hyd2x1⟩) (by assumption) ?restd2x1
      case hyd2x1 => (intro wz hSw; (try dsimp only at hSw); go_simp <;> (try with_reducible rfl))
      try simp only [Act.put, List.setIfInBounds_toArray, List.set_cons_zero, List.set_cons_succ]
      refine wpAnyH_take (i := 2) (oi := ⟨some 37, _, _, _, _, _⟩) (v := ?vd3x2) rfl (by kernel_rfl) (by kernel_rfl) (by kernel_rfl) (fun _ _ _ h => h) (Or.inl ⟨by rfl, ?hyd3x2⟩) (by assumption) ?restd3x2
      case hyd3x2 => (intro wz hSw; (try dsimp only at hSw); go_simp <;> (try with_reducible rfl))
      try simp only [Act.put, List.setIfInBounds_toArray, List.set_cons_zero, List.set_cons_succ]
      refine wpAnyH_take (i := 3) (oi := ⟨some 38, _, _, _, _, _⟩) (v := undef) rfl (by kernel_rfl) (by kernel_rfl) (by kernel_rfl) (fun _ _ _ h => h) (Or.inr ⟨by rfl, rfl⟩) (by assumption) ?_
      try simp only [Act.put, List.setIfInBounds_toArray, List.set_cons_zero, List.set_cons_succ]
      refine wpAnyH_take (i := 4) (oi := ⟨some 39, _, _, _, _, _⟩) (v := undef) rfl (by kernel_rfl) (by kernel_rfl) (by kernel_rfl) (fun _ _ _ h => h) (Or.inr ⟨by rfl, rfl⟩) (by assumption) ?_
      try simp only [Act.put, List.setIfInBounds_toArray, List.set_cons_zero, List.set_cons_succ]
      refine wpAnyH_take (i := 5) (oi := ⟨some 40, _, _, _, _, _⟩) (v := undef) rfl (by kernel_rfl) (by kernel_rfl) (by kernel_rfl) (fun _ _ _ h => h) (Or.inr ⟨by rfl, rfl⟩) (by assumption) ?_
      try simp only [Act.put, List.setIfInBounds_toArray, List.set_cons_zero, List.set_cons_succ]
      refine wpAnyH_take (i := 6) (oi := ⟨some 41, _, _, _, _, _⟩) (v := undef) rfl (by kernel_rfl) (by kernel_rfl) (by kernel_rfl) (fun _ _ _ h => h) (Or.inr ⟨by rfl, rfl⟩) (by assumption) ?_
      try simp only [Act.put, List.setIfInBounds_toArray, List.set_cons_zero, List.set_cons_succ]
      refine wpAnyH_take (i := 7) (oi := ⟨some 42, _, _, _, _, _⟩) (v := undef) rfl (by kernel_rfl) (by kernel_rfl) (by kernel_rfl) (fun _ _ _ h => h) (Or.inr ⟨by rfl, rfl⟩) (by assumption) ?_
      try simp only [Act.put, List.setIfInBounds_toArray, List.set_cons_zero, List.set_cons_succ]
      refine wpAnyH_take (i := 8) (oi := ⟨some 43, _, _, _, _, _⟩) (v := undef) rfl (by kernel_rfl) (by kernel_rfl) (by kernel_rfl) (fun _ _ _ h => h) (Or.inr ⟨by rfl, rfl⟩) (by assumption) ?_
      try simp only [Act.put, List.setIfInBounds_toArray, List.set_cons_zero, List.set_cons_succ]
      refine wpAnyH_take (i := 9) (oi := ⟨some 44, _, _, _, _, _⟩) (v := undef) rfl (by kernel_rfl) (by kernel_rfl) (by kernel_rfl) (fun _ _ _ h => h) (Or.inr ⟨by rfl, rfl⟩) (by assumption) ?_
      try simp only [Act.put, List.setIfInBounds_toArray, List.set_cons_zero, List.set_cons_succ]
      refine wpAnyH_take (i := 10) (oi := ⟨some 45, _, _, _, _, _⟩) (v := undef) rfl (by kernel_rfl) (by kernel_rfl) (by kernel_rfl) (fun _ _ _ h => h) (Or.inr ⟨by rfl, rfl⟩) (by assumption) ?_
      try simp only [Act.put, List.setIfInBounds_toArray, List.set_cons_zero, List.set_cons_succ]
      refine wpAnyH_take (i := 11) (oi := ⟨some 46, _, _, _, _, _⟩) (v := undef) rfl (by kernel_rfl) (by kernel_rfl) (by kernel_rfl) (fun _ _ _ h => h) (Or.inr ⟨by rfl, rfl⟩) (by assumption) ?_
      try simp only [Act.put, List.setIfInBounds_toArray, List.set_cons_zero, List.set_cons_succ]
      refine wpAnyH_take (i := 12) (oi := ⟨some 47, _, _, _, _, _⟩) (v := undef) rfl (by kernel_rfl) (by kernel_rfl) (by kernel_rfl) (fun _ _ _ h => h) (Or.inr ⟨by rfl, rfl⟩) (by assumption) ?_
      try simp only [Act.put, List.setIfInBounds_toArray, List.set_cons_zero, List.set_cons_succ]
      refine wpAnyH_take (i := 13) (oi := ⟨some 48, _, _, _, _, _⟩) (v := undef) rfl (by kernel_rfl) (by kernel_rfl) (by kernel_rfl) (fun _ _ _ h => h) (Or.inr ⟨by rfl, rfl⟩) (by assumption) ?_
      try simp only [Act.put, List.setIfInBounds_toArray, List.set_cons_zero, List.set_cons_succ]
      refine wpAnyH_take (i := 14) (oi := ⟨some 49, _, _, _, _, _⟩) (v := undef) rfl (by kernel_rfl) (by kernel_rfl) (by kernel_rfl) (fun _ _ _ h => h) (Or.inr ⟨by rfl, rfl⟩) (by assumption) ?_
      try simp only [Act.put, List.setIfInBounds_toArray, List.set_cons_zero, List.set_cons_succ]
      refine wpAnyH_take (i := 15) (oi := ⟨some 50, _, _, _, _, _⟩) (v := undef) rfl (by kernel_rfl) (by kernel_rfl) (by kernel_rfl) (fun _ _ _ h => h) (Or.inr ⟨by rfl, rfl⟩) (by assumption) ?_
      try simp only [Act.put, List.setIfInBounds_toArray, List.set_cons_zero, List.set_cons_succ]
      refine wpAnyH_take (i := 16) (oi := ⟨some 51, _, _, _, _, _⟩) (v := undef) rfl (by kernel_rfl) (by kernel_rfl) (by kernel_rfl) (fun _ _ _ h => h) (Or.inr ⟨by rfl, rfl⟩) (by assumption) ?_
      try simp only [Act.put, List.setIfInBounds_toArray, List.set_cons_zero, List.set_cons_succ]
      refine wpAnyH_take (i := 17) (oi := ⟨some 52, _, _, _, _, _⟩) (v := undef) rfl (by kernel_rfl) (by kernel_rfl) (by kernel_rfl) (fun _ _ _ h => h) (Or.inr ⟨by rfl, rfl⟩) (by assumption) ?_
      try simp only [Act.put, List.setIfInBounds_toArray, List.set_cons_zero, List.set_cons_succ]
      refine wpAnyH_take (i := 18) (oi := ⟨some 53, _, _, _, _, _⟩) (v := undef) rfl (by kernel_rfl) (by kernel_rfl) (by kernel_rfl) (fun _ _ _ h => h) (Or.inr ⟨by rfl, rfl⟩) (by assumption) ?_
      try simp only [Act.put, List.setIfInBounds_toArray, List.set_cons_zero, List.set_cons_succ]
      refine wpAnyH_take (i := 19) (oi := ⟨some 54, _, _, _, _, _⟩) (v := undef) rfl (by kernel_rfl) (by kernel_rfl) (by kernel_rfl) (fun _ _ _ h => h) (Or.inr ⟨by rfl, rfl⟩) (by assumption) ?_
      try simp only [Act.put, List.setIfInBounds_toArray, List.set_cons_zero, List.set_cons_succ]
      refine wpAnyH_take (i := 20) (oi := ⟨some 55, _, _, _, _, _⟩) (v := undef) rfl (by kernel_rfl) (by kernel_rfl) (by kernel_rfl) (fun _ _ _ h => h) (Or.inr ⟨by rfl, rfl⟩) (by assumption) ?_
      try simp only [Act.put, List.setIfInBounds_toArray, List.set_cons_zero, List.set_cons_succ]
      refine wpAnyH_take (i := 21) (oi := ⟨some 56, _, _, _, _, _⟩) (v := undef) rfl (by kernel_rfl) (by kernel_rfl) (by kernel_rfl) (fun _ _ _ h => h) (Or.inr ⟨by rfl, rfl⟩) (by assumption) ?_
      try simp only [Act.put, List.setIfInBounds_toArray, List.set_cons_zero, List.set_cons_succ]
      refine wpAnyH_take (i := 22) (oi := ⟨some 57, _, _, _, _, _⟩) (v := undef) rfl (by kernel_rfl) (by kernel_rfl) (by kernel_rfl) (fun _ _ _ h => h) (Or.inr ⟨by rfl, rfl⟩) (by assumption) ?_
      try simp only [Act.put, List.setIfInBounds_toArray, List.set_cons_zero, List.set_cons_succ]
      refine wpAnyH_take (i := 23) (oi := ⟨some 58, _, _, _, _, _⟩) (v := undef) rfl (by kernel_rfl) (by kernel_rfl) (by kernel_rfl) (fun _ _ _ h => h) (Or.inr ⟨by rfl, rfl⟩) (by assumption) ?_
      try simp only [Act.put, List.setIfInBounds_toArray, List.set_cons_zero, List.set_cons_succ]
      refine wpAnyH_take (i := 24) (oi := ⟨some 59, _, _, _, _, _⟩) (v := undef) rfl (by kernel_rfl) (by kernel_rfl) (by kernel_rfl) (fun _ _ _ h => h) (Or.inr ⟨by rfl, rfl⟩) (by assumption) ?_
      try simp only [Act.put, List.setIfInBounds_toArray, List.set_cons_zero, List.set_cons_succ]
      refine wpAnyH_take (i := 25) (oi := ⟨some 60, _, _, _, _, _⟩) (v := undef) rfl (by kernel_rfl) (by kernel_rfl) (by kernel_rfl) (fun _ _ _ h => h) (Or.inr ⟨by rfl, rfl⟩) (by assumption) ?_
      try simp only [Act.put, List.setIfInBounds_toArray, List.set_cons_zero, List.set_cons_succ]
      refine wpAnyH_take (i := 26) (oi := ⟨some 61, _, _, _, _, _⟩) (v := ?vd4x26) rfl (by kernel_rfl) (by kernel_rfl) (by kernel_rfl) (fun _ _ _ h => h) (Or.inl ⟨by rfl, ?hyd4x26⟩) (by assumption) ?restd4x26
      case hyd4x26 => (intro wz hSw; (try dsimp only at hSw); go_simp <;> (try with_reducible rfl))
      try simp only [Act.put, List.setIfInBounds_toArray, List.set_cons_zero, List.set_cons_succ]
      refine wpAnyH_done (by kernel_rfl) ?_ _
      have HWl := keep (HX.out (World.drew W4) (HB4.out.trans (HBd.out.mono HB4.out.size))).2
      clear HS0
      go_wp2_with fail
      refine (KD.out _ HWl.out).mono ?_
      rintro e w8 ⟨A8, n8, c8, rfl, hs8, hb8⟩
      have HS8 := keep hs8
      have HW8 := keep (HWl.out.trans (hb8.mono HWl.out.size))
      have HB28 := keep ((B26.out _ HBd.out).trans (hb8.mono (B26.out _ HBd.out).size))
      clear hs8 hb8
      have HDO := keep (show Pk.Ok ⟨dm, dkd, dq, dt, dso, db⟩ from by
        have e1 : decD bs = pkZ := by unfold decD; rw [if_neg (by rw [HDE.out]; exact hd0)]
        have e2 := HDK.out.symm.trans e1
        rw [e2]
        exact ⟨⟨Int.le_refl _, by decide⟩, ⟨Int.le_refl _, by decide⟩, ⟨Int.le_refl _, by decide⟩, ⟨Int.le_refl _, by decide⟩⟩)
      have LD := keep (below_lay w8 (.cells #[.bool dm, .int .u8 dkd, .int .u16 dq, .int .u32 dt, .int .u32 dso, .slice A8 n8 c8] 26))
      have HPA := keep (show PA (w8.alloc (.cells #[.bool dm, .int .u8 dkd, .int .u16 dq, .int .u32 dt, .int .u32 dso, .slice A8 n8 c8] 26)) ⟨dm, dkd, dq, dt, dso, (A8, n8, c8), db⟩ from ⟨HS8.out.step LD.out, HDO.out⟩)
      have KE2 := keep (encode_any ⟨dm, dkd, dq, dt, dso, (A8, n8, c8), db⟩ _ HPA.out)
      unfold EncP Pv.pk Pv.cells at KE2
      dsimp only at KE2
      obtain ⟨h2e, hh2e⟩ : ∃ h2e, fE dkd db.length = h2e := ⟨_, rfl⟩
      rw [hh2e] at KE2
      clear hh2e
      go_wp2_with fail
      refine KE2.out.mono ?_
      rintro e w9 ⟨A9, n9, c9, rfl, hs9, hb9⟩
      have HS9 := keep hs9
      have HB89 := keep (LD.out.trans (hb9.mono LD.out.size))
      have HW9 := keep (HW8.out.trans (HB89.out.mono HW8.out.size))
      clear hs9 hb9 KE2
      obtain rfl : n2 = 0 := by rw [HS2.out.len, HX0.out]; rfl
      go_wp2_with fail
      go_ret
      exact ⟨by simp, HW9.out⟩
end Go.Proofs.Ytacmfoljbjdcjaa
