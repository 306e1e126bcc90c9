/- The document's Encode and Decode of layer 20. -/
import Derived.Test.YtacmfoljbjdcjaaUK
import Derived.Test.YtacmfoljbjdcjaaUR
namespace Go.Proofs.Ytacmfoljbjdcjaa
open Go.RowKit Go.Maps
set_option linter.unusedVariables false
set_option linter.unusedSimpArgs false

theorem setCells_whole {b : Nat} {t : TypeId} : ∀ (vs : List Value) (p C : List Value) (w : World), w.heap[b]? = some (.cells (p ++ C).toArray t (0, 0)) → C.length = vs.length → (w.setCells b p.length vs).heap[b]? = some (.cells (p ++ vs).toArray t (0, 0))
  | [], p, C, w, h, hl => by
    obtain rfl := List.length_eq_zero_iff.1 hl
    exact h
  | v :: r, p, [], w, h, hl => by simp at hl
  | v :: r, p, c :: C, w, h, hl => by
    have h1 := heap_setCell_same w b p.length _ _ v h
    have h2 : (p ++ c :: C).toArray.setIfInBounds p.length v = ((p ++ [v]) ++ C).toArray := by simp
    rw [h2] at h1
    have h3 := setCells_whole r (p ++ [v]) C (w.setCell ⟨b, p.length, none⟩ v) h1 (by simpa using hl)
    rw [List.length_append, List.length_singleton] at h3
    show (World.setCells (w.setCell ⟨b, p.length, none⟩ v) b (p.length + 1) r).heap[b]? = _
    rw [h3]
    simp
theorem octs2 (v : Int) : octs v 2 2 = [b8 (v / 256), b8 v] := by simp [octs, List.range_succ]
theorem octs4 (v : Int) : octs v 4 4 = [b8 (v / 16777216), b8 (v / 65536), b8 (v / 256), b8 v] := by simp [octs, List.range_succ]
set_option maxHeartbeats 4000000 in
set_option maxRecDepth 1000000 in
theorem refEncode_any (y : Pv) (w : World) (hy : PA w y) : Calls Try.prog 10 #[.agg y.cells.toArray] w (EncP y.pk w) := by
  obtain ⟨ym, yk, yq, yt, yo, ⟨A, n, c⟩, bs⟩ := y
  obtain ⟨hd, hk, hq, ht, ho⟩ := hy
  unfold Pv.cells Pv.pk EncP encD
  dsimp only at hd hk hq ht ho ⊢
  have hnl := hd.len
  rw [← hnl]
  have b1 := below_lay w (.cells #[.bool ym, .int .u8 yk, .int .u16 yq, .int .u32 yt, .int .u32 yo, .slice A n c] 32)
  have HB1 := keep b1
  have HX := keep (show ∀ W, Below (w.alloc (.cells #[.bool ym, .int .u8 yk, .int .u16 yq, .int .u32 yt, .int .u32 yo, .slice A n c] 32)).heap.size (w.alloc (.cells #[.bool ym, .int .u8 yk, .int .u16 yq, .int .u32 yt, .int .u32 yo, .slice A n c] 32)) W → W.cell? ⟨w.heap.size, 0, none⟩ = some (.bool ym) ∧ W.cell? ⟨w.heap.size, 1, none⟩ = some (.int .u8 yk) ∧ W.cell? ⟨w.heap.size, 2, none⟩ = some (.int .u16 yq) ∧ W.cell? ⟨w.heap.size, 3, none⟩ = some (.int .u32 yt) ∧ W.cell? ⟨w.heap.size, 4, none⟩ = some (.int .u32 yo) ∧ W.cell? ⟨w.heap.size, 5, none⟩ = some (.slice A n c) from fun W hb => by
    have g := (hb.block w.heap.size (by simp)).trans (heap_alloc_new w (.cells #[.bool ym, .int .u8 yk, .int .u16 yq, .int .u32 yt, .int .u32 yo, .slice A n c] 32))
    exact ⟨upd_cell g 0 _ rfl, upd_cell g 1 _ rfl, upd_cell g 2 _ rfl, upd_cell g 3 _ rfl, upd_cell g 4 _ rfl, upd_cell g 5 _ rfl⟩)
  by_cases k1 : 127 < yk
  · have hf : fE yk n = 1 := by unfold fE; rw [if_pos (by omega)]
    rw [hf, if_neg (by decide)]
    clear hd hk hq ht ho hnl b1 hf
    go_enter Try.func10, Try.ntmps10
    go_wp2
    go_ret2
    exact ⟨none, 0, 0, rfl, BS.nil _, HB1.out⟩
  by_cases k2 : 1188 < n
  · have hf : fE yk n = 10 := by unfold fE; rw [if_neg (by omega), if_pos k2]
    have k2I : (1188 : Int) < (n : Int) := by omega
    rw [hf, if_neg (by decide)]
    clear hd hk hq ht ho hnl b1 hf k2
    go_enter Try.func10, Try.ntmps10
    go_wp2
    go_ret2
    exact ⟨none, 0, 0, rfl, BS.nil _, HB1.out⟩
  have hf : fE yk n = 0 := by unfold fE; rw [if_neg (by omega), if_neg k2]
  have k2I : ¬ (1188 : Int) < (n : Int) := by omega
  rw [hf, if_pos rfl]
  obtain ⟨s2, hs2⟩ : ∃ s2, secI ⟨ym, yk, yq, yt, yo, bs⟩ = s2 := ⟨_, rfl⟩
  have hs2r : 0 ≤ s2 ∧ s2 < 256 := by rw [← hs2]; unfold secI; dsimp only; split <;> omega
  have KE := keep (show ([b8 128, b8 s2] ++ [b8 (yq / 256), b8 yq] ++ [b8 (yt / 16777216), b8 (yt / 65536), b8 (yt / 256), b8 yt] ++ [b8 (yo / 16777216), b8 (yo / 65536), b8 (yo / 256), b8 yo]) = encH ⟨ym, yk, yq, yt, yo, bs⟩ from by unfold encH; rw [hs2]; rfl)
  have HD := keep hd
  have HR := keep (And.intro hs2r (And.intro hq (And.intro ht (And.intro ho (And.intro (show n ≤ 1188 by omega) hnl)))))
  have HS2 := keep hs2
  have hq32 : IntKind.u32.wrap yq = yq := by rw [wrap_u32]; omega
  have hkk : yk < 128 := by omega
  have hk0 := hk.1
  have hw8 : IntKind.u8.wrap (yk + 128) = yk + 128 := by simp [IntKind.wrap, IntKind.signed, IntKind.bits]; omega
  clear hd hk hq ht ho hnl b1 hf hs2r hs2 k2
  obtain ⟨i0, hi0, hz0, hz1, hz2⟩ := info_parts u8_info
  cases ym with
  | false =>
    have e2 : s2 = yk := by rw [← HS2.out]; rfl
    subst e2
    obtain ⟨p0, p1, p2, p3, p4, p5⟩ := HX.out _ (Below.refl _ _)
    go_enter Try.func10, Try.ntmps10
    go_wp2_with fail
    have hbs : BS ((w.alloc (.cells #[.bool false, .int .u8 s2, .int .u16 yq, .int .u32 yt, .int .u32 yo, .slice A n c] 32)).alloc (.cells #[.int .u8 128, .int .u8 s2] 5)) (some ⟨(w.alloc (.cells #[.bool false, .int .u8 s2, .int .u16 yq, .int .u32 yt, .int .u32 yo, .slice A n c] 32)).heap.size, 0, none⟩) 2 2 [b8 128, b8 s2] := BS.laid (w.alloc (.cells #[.bool false, .int .u8 s2, .int .u16 yq, .int .u32 yt, .int .u32 yo, .slice A n c] 32)) 5 [128, s2] (by intro z hz; simp only [List.mem_cons, List.not_mem_nil, or_false] at hz; rcases hz with rfl | rfl; decide; exact HR.out.1)
    rw [show (w.alloc (.cells #[.bool false, .int .u8 s2, .int .u16 yq, .int .u32 yt, .int .u32 yo, .slice A n c] 32)).heap.size = w.heap.size + 1 by simp] at hbs
    have HB4 := keep (below_lay (w.alloc (.cells #[.bool false, .int .u8 s2, .int .u16 yq, .int .u32 yt, .int .u32 yo, .slice A n c] 32)) (.cells #[.int .u8 128, .int .u8 s2] 5))
    refine (refput_any (some ⟨w.heap.size + 1, 0, none⟩) 2 2 _ yq HR.out.2.1.1 (by have := HR.out.2.1.2; omega) 2 (by decide) _ hbs (by decide)).mono ?_
    rintro e w5 ⟨A5, n5, c5, rfl, hs5, hb5, _⟩
    rw [octs2] at hs5
    have HB5 := keep (HB4.out.trans (hb5.mono HB4.out.size))
    have HS5 := keep hs5
    have HS0 := keep (show ∀ W : World, Below w5.heap.size w5 W → W.cell? ⟨w.heap.size, 3, none⟩ = some (.int .u32 yt) ∧ W.cell? ⟨w.heap.size, 4, none⟩ = some (.int .u32 yo) from fun W hb => ⟨(HX.out W (HB5.out.trans (hb.mono HB5.out.size))).2.2.2.1, (HX.out W (HB5.out.trans (hb.mono HB5.out.size))).2.2.2.2.1⟩)
    have HL5 := keep (show n5 = 4 from by have := HS5.out.len; simpa using this)
    clear hb5 hs5 hbs p0 p1 p2 p3 p4 p5
    go_wp2_with fail
    refine wp_region_held_drew (S := (fun w' => w'.cell? ⟨w.heap.size, 3, none⟩ = some (.int .u32 yt) ∧ w'.cell? ⟨w.heap.size, 4, none⟩ = some (.int .u32 yo))) (by kernel_rfl) (HS0.out _ (Below.refl _ w5).drew) (fun hHeld => ?_)
    refine wpAnyH_take (i := 0) (oi := ⟨some 25, _, _, _, _, _⟩) (v := ?vf1x0) rfl (by kernel_rfl) (by kernel_rfl) (by kernel_rfl) (fun _ _ _ h => h) (Or.inl ⟨by rfl, ?hyf1x0⟩) (by assumption) ?restf1x0
    case hyf1x0 => (intro wz hSw; (try dsimp only at hSw); go_simp <;> (try with_reducible rfl))
    try simp only [Act.put, List.setIfInBounds_toArray, List.set_cons_zero, List.set_cons_succ]
    refine wpAnyH_take (i := 1) (oi := ⟨some 26, _, _, _, _, _⟩) (v := ?vf2x1) rfl (by kernel_rfl) (by kernel_rfl) (by kernel_rfl) (fun _ _ _ h => h) (Or.inl ⟨by rfl, ?hyf2x1⟩) (by assumption) ?restf2x1
    case hyf2x1 => (intro wz hSw; (try dsimp only at hSw); go_simp <;> (try with_reducible rfl))
    try simp only [Act.put, List.setIfInBounds_toArray, List.set_cons_zero, List.set_cons_succ]
    refine wpAnyH_take (i := 2) (oi := ⟨some 27, _, _, _, _, _⟩) (v := ?vf3x2) rfl (by kernel_rfl) (by kernel_rfl) (by kernel_rfl) (fun _ _ _ h => h) (Or.inl ⟨by rfl, ?hyf3x2⟩) (by assumption) ?restf3x2
    case hyf3x2 => (intro wz hSw; (try dsimp only at hSw); go_simp <;> (try with_reducible rfl))
    try simp only [Act.put, List.setIfInBounds_toArray, List.set_cons_zero, List.set_cons_succ]
    refine wpAnyH_take (i := 4) (oi := ⟨some 29, _, _, _, _, _⟩) (v := ?vf4x4) rfl (by kernel_rfl) (by kernel_rfl) (by kernel_rfl) (fun _ _ _ h => h) (Or.inl ⟨by rfl, ?hyf4x4⟩) (by assumption) ?restf4x4
    case hyf4x4 => (intro wz hSw; (try dsimp only at hSw); go_simp <;> (try with_reducible rfl))
    try simp only [Act.put, List.setIfInBounds_toArray, List.set_cons_zero, List.set_cons_succ]
    refine wpAnyH_take (i := 5) (oi := ⟨some 30, _, _, _, _, _⟩) (v := ?vf5x5) rfl (by kernel_rfl) (by kernel_rfl) (by kernel_rfl) (fun _ _ _ h => h) (Or.inl ⟨by rfl, ?hyf5x5⟩) (by assumption) ?restf5x5
    case hyf5x5 => (intro wz hSw; (try dsimp only at hSw); go_simp <;> (try with_reducible rfl))
    try simp only [Act.put, List.setIfInBounds_toArray, List.set_cons_zero, List.set_cons_succ]
    refine wpAnyH_ready (rs := [3]) (by kernel_rfl) (by simp) (AllReadyH.cons (o := ⟨some 28, _, _, _, _, _⟩) rfl (fun K hK => ?_) AllReadyH.nil)
    go_simp
    go_at_call 28
    refine (refput_any A5 n5 c5 _ yt HR.out.2.2.1.1 HR.out.2.2.1.2 4 (by decide) _ (HS5.out.step (Below.refl _ w5).drew) (by have := HL5.out; omega)).mono ?_
    rintro e w6 ⟨A6, n6, c6, rfl, hs6, hb6, _⟩
    rw [octs4] at hs6
    have HB6 := keep (show Below w5.heap.size w5 w6 from (Below.refl _ w5).drew.trans (hb6.mono (Nat.le_refl _)))
    have HS6 := keep hs6
    have HL6 := keep (show n6 = 8 from by have := HS6.out.len; simpa using this)
    clear hb6 hs6
    (try go_wp2_with fail)
    refine hK.out _ _ (HS0.out _ HB6.out) (fun hHeld => ?_)
    clear hK K
    try simp only [Act.put, List.setIfInBounds_toArray, List.set_cons_zero, List.set_cons_succ]
    refine wpAnyH_ready (rs := [6]) (by kernel_rfl) (by simp) (AllReadyH.cons (o := ⟨some 31, _, _, _, _, _⟩) rfl (fun K hK => ?_) AllReadyH.nil)
    go_simp
    go_at_call 28
    refine (refput_any A6 n6 c6 _ yo HR.out.2.2.2.1.1 HR.out.2.2.2.1.2 4 (by decide) w6 HS6.out (by have := HL6.out; omega)).mono ?_
    rintro e w7 ⟨A7, n7, c7, rfl, hs7, hb7, ho7⟩
    have HZ7 := keep hb7.size
    have HB7 := keep (HB6.out.trans (hb7.mono HB6.out.size))
    rw [octs4, KE.out] at hs7 ho7
    have HS7 := keep hs7
    have HO7 := keep ho7.out
    have HL7 := keep (show n7 = 12 from hs7.len)
    clear hb7 hs7 ho7
    (try go_wp2_with fail)
    refine hK.out _ _ (HS0.out _ HB7.out) (fun hHeld => ?_)
    clear hK K
    try simp only [Act.put, List.setIfInBounds_toArray, List.set_cons_zero, List.set_cons_succ]
    refine wpAnyH_take (i := 7) (oi := ⟨some 5, _, _, _, _, _⟩) (v := ?vf6x7) rfl (by kernel_rfl) (by kernel_rfl) (by kernel_rfl) (fun _ _ _ h => h) (Or.inl ⟨by rfl, ?hyf6x7⟩) (by assumption) ?restf6x7
    case hyf6x7 => (intro wz hSw; (try dsimp only at hSw); go_simp <;> (try with_reducible rfl))
    try simp only [Act.put, List.setIfInBounds_toArray, List.set_cons_zero, List.set_cons_succ]
    refine wpAnyH_done (by kernel_rfl) ?_ _
    obtain rfl := HL7.out
    have HB7w := keep (HB5.out.trans (HB7.out.mono HB5.out.size))
    obtain ⟨x0, x1, x2, x3, x4, x5⟩ := HX.out w7 HB7w.out
    have HB7ww := keep (HB1.out.trans (HB7w.out.mono HB1.out.size))
    have HD7 := keep (HD.out.step HB7ww.out)
    have HLW := keep (show w6.heap.size ≤ w7.heap.size ∧ w.heap.size ≤ w6.heap.size from ⟨HZ7.out, by have := HB1.out.size; have := HB5.out.size; have := HB6.out.size; omega⟩)
    clear x0 x1 x2 x3 x4
    go_wp2_with (at_builtin; refine wpl_append rfl (.tmp 32) (.tmp 34) 24 rfl w6.heap.size 5 i0 (.int .u8 0) Try.underlying24 hi0 hz0 hz1 rfl (.slice A7 12 c7) 12 (bc (encH _)) rfl HO7.out A n c (bc bs) rfl (by rw [bc_length]; exact HD.out.len) HD7.out.br.sr (bc_one bs) (by have := HR.out.2.2.2.2.1; unfold maxLen; omega) (by rw [hz2]; have := HR.out.2.2.2.2.1; omega) HLW.out.1 ?_; intro A8 c8 w8 ho8 hb8)
    go_ret2
    rw [← bc_append] at ho8
    exact ⟨A8, 12 + n, c8, rfl, BS.of_own ho8.out, HB7ww.out.trans (hb8.mono HLW.out.2)⟩
  | true =>
    have e2 : s2 = yk + 128 := by rw [← HS2.out]; rfl
    have e3 : yk + 128 = s2 := e2.symm
    rw [e3] at hw8
    clear e2
    obtain ⟨p0, p1, p2, p3, p4, p5⟩ := HX.out _ (Below.refl _ _)
    go_enter Try.func10, Try.ntmps10
    go_wp2_with fail
    have hbs : BS ((w.alloc (.cells #[.bool true, .int .u8 yk, .int .u16 yq, .int .u32 yt, .int .u32 yo, .slice A n c] 32)).alloc (.cells #[.int .u8 128, .int .u8 s2] 5)) (some ⟨(w.alloc (.cells #[.bool true, .int .u8 yk, .int .u16 yq, .int .u32 yt, .int .u32 yo, .slice A n c] 32)).heap.size, 0, none⟩) 2 2 [b8 128, b8 s2] := BS.laid (w.alloc (.cells #[.bool true, .int .u8 yk, .int .u16 yq, .int .u32 yt, .int .u32 yo, .slice A n c] 32)) 5 [128, s2] (by intro z hz; simp only [List.mem_cons, List.not_mem_nil, or_false] at hz; rcases hz with rfl | rfl; decide; exact HR.out.1)
    rw [show (w.alloc (.cells #[.bool true, .int .u8 yk, .int .u16 yq, .int .u32 yt, .int .u32 yo, .slice A n c] 32)).heap.size = w.heap.size + 1 by simp] at hbs
    have HB4 := keep (below_lay (w.alloc (.cells #[.bool true, .int .u8 yk, .int .u16 yq, .int .u32 yt, .int .u32 yo, .slice A n c] 32)) (.cells #[.int .u8 128, .int .u8 s2] 5))
    refine (refput_any (some ⟨w.heap.size + 1, 0, none⟩) 2 2 _ yq HR.out.2.1.1 (by have := HR.out.2.1.2; omega) 2 (by decide) _ hbs (by decide)).mono ?_
    rintro e w5 ⟨A5, n5, c5, rfl, hs5, hb5, _⟩
    rw [octs2] at hs5
    have HB5 := keep (HB4.out.trans (hb5.mono HB4.out.size))
    have HS5 := keep hs5
    have HS0 := keep (show ∀ W : World, Below w5.heap.size w5 W → W.cell? ⟨w.heap.size, 3, none⟩ = some (.int .u32 yt) ∧ W.cell? ⟨w.heap.size, 4, none⟩ = some (.int .u32 yo) from fun W hb => ⟨(HX.out W (HB5.out.trans (hb.mono HB5.out.size))).2.2.2.1, (HX.out W (HB5.out.trans (hb.mono HB5.out.size))).2.2.2.2.1⟩)
    have HL5 := keep (show n5 = 4 from by have := HS5.out.len; simpa using this)
    clear hb5 hs5 hbs p0 p1 p2 p3 p4 p5
    go_wp2_with fail
    refine wp_region_held_drew (S := (fun w' => w'.cell? ⟨w.heap.size, 3, none⟩ = some (.int .u32 yt) ∧ w'.cell? ⟨w.heap.size, 4, none⟩ = some (.int .u32 yo))) (by kernel_rfl) (HS0.out _ (Below.refl _ w5).drew) (fun hHeld => ?_)
    refine wpAnyH_take (i := 0) (oi := ⟨some 25, _, _, _, _, _⟩) (v := ?vt1x0) rfl (by kernel_rfl) (by kernel_rfl) (by kernel_rfl) (fun _ _ _ h => h) (Or.inl ⟨by rfl, ?hyt1x0⟩) (by assumption) ?restt1x0
    case hyt1x0 => (intro wz hSw; (try dsimp only at hSw); go_simp <;> (try with_reducible rfl))
    try simp only [Act.put, List.setIfInBounds_toArray, List.set_cons_zero, List.set_cons_succ]
    refine wpAnyH_take (i := 1) (oi := ⟨some 26, _, _, _, _, _⟩) (v := ?vt2x1) rfl (by kernel_rfl) (by kernel_rfl) (by kernel_rfl) (fun _ _ _ h => h) (Or.inl ⟨by rfl, ?hyt2x1⟩) (by assumption) ?restt2x1
    case hyt2x1 => (intro wz hSw; (try dsimp only at hSw); go_simp <;> (try with_reducible rfl))
    try simp only [Act.put, List.setIfInBounds_toArray, List.set_cons_zero, List.set_cons_succ]
    refine wpAnyH_take (i := 2) (oi := ⟨some 27, _, _, _, _, _⟩) (v := ?vt3x2) rfl (by kernel_rfl) (by kernel_rfl) (by kernel_rfl) (fun _ _ _ h => h) (Or.inl ⟨by rfl, ?hyt3x2⟩) (by assumption) ?restt3x2
    case hyt3x2 => (intro wz hSw; (try dsimp only at hSw); go_simp <;> (try with_reducible rfl))
    try simp only [Act.put, List.setIfInBounds_toArray, List.set_cons_zero, List.set_cons_succ]
    refine wpAnyH_take (i := 4) (oi := ⟨some 29, _, _, _, _, _⟩) (v := ?vt4x4) rfl (by kernel_rfl) (by kernel_rfl) (by kernel_rfl) (fun _ _ _ h => h) (Or.inl ⟨by rfl, ?hyt4x4⟩) (by assumption) ?restt4x4
    case hyt4x4 => (intro wz hSw; (try dsimp only at hSw); go_simp <;> (try with_reducible rfl))
    try simp only [Act.put, List.setIfInBounds_toArray, List.set_cons_zero, List.set_cons_succ]
    refine wpAnyH_take (i := 5) (oi := ⟨some 30, _, _, _, _, _⟩) (v := ?vt5x5) rfl (by kernel_rfl) (by kernel_rfl) (by kernel_rfl) (fun _ _ _ h => h) (Or.inl ⟨by rfl, ?hyt5x5⟩) (by assumption) ?restt5x5
    case hyt5x5 => (intro wz hSw; (try dsimp only at hSw); go_simp <;> (try with_reducible rfl))
    try simp only [Act.put, List.setIfInBounds_toArray, List.set_cons_zero, List.set_cons_succ]
    refine wpAnyH_ready (rs := [3]) (by kernel_rfl) (by simp) (AllReadyH.cons (o := ⟨some 28, _, _, _, _, _⟩) rfl (fun K hK => ?_) AllReadyH.nil)
    go_simp
    go_at_call 28
    refine (refput_any A5 n5 c5 _ yt HR.out.2.2.1.1 HR.out.2.2.1.2 4 (by decide) _ (HS5.out.step (Below.refl _ w5).drew) (by have := HL5.out; omega)).mono ?_
    rintro e w6 ⟨A6, n6, c6, rfl, hs6, hb6, _⟩
    rw [octs4] at hs6
    have HB6 := keep (show Below w5.heap.size w5 w6 from (Below.refl _ w5).drew.trans (hb6.mono (Nat.le_refl _)))
    have HS6 := keep hs6
    have HL6 := keep (show n6 = 8 from by have := HS6.out.len; simpa using this)
    clear hb6 hs6
    (try go_wp2_with fail)
    refine hK.out _ _ (HS0.out _ HB6.out) (fun hHeld => ?_)
    clear hK K
    try simp only [Act.put, List.setIfInBounds_toArray, List.set_cons_zero, List.set_cons_succ]
    refine wpAnyH_ready (rs := [6]) (by kernel_rfl) (by simp) (AllReadyH.cons (o := ⟨some 31, _, _, _, _, _⟩) rfl (fun K hK => ?_) AllReadyH.nil)
    go_simp
    go_at_call 28
    refine (refput_any A6 n6 c6 _ yo HR.out.2.2.2.1.1 HR.out.2.2.2.1.2 4 (by decide) w6 HS6.out (by have := HL6.out; omega)).mono ?_
    rintro e w7 ⟨A7, n7, c7, rfl, hs7, hb7, ho7⟩
    have HZ7 := keep hb7.size
    have HB7 := keep (HB6.out.trans (hb7.mono HB6.out.size))
    rw [octs4, KE.out] at hs7 ho7
    have HS7 := keep hs7
    have HO7 := keep ho7.out
    have HL7 := keep (show n7 = 12 from hs7.len)
    clear hb7 hs7 ho7
    (try go_wp2_with fail)
    refine hK.out _ _ (HS0.out _ HB7.out) (fun hHeld => ?_)
    clear hK K
    try simp only [Act.put, List.setIfInBounds_toArray, List.set_cons_zero, List.set_cons_succ]
    refine wpAnyH_take (i := 7) (oi := ⟨some 5, _, _, _, _, _⟩) (v := ?vt6x7) rfl (by kernel_rfl) (by kernel_rfl) (by kernel_rfl) (fun _ _ _ h => h) (Or.inl ⟨by rfl, ?hyt6x7⟩) (by assumption) ?restt6x7
    case hyt6x7 => (intro wz hSw; (try dsimp only at hSw); go_simp <;> (try with_reducible rfl))
    try simp only [Act.put, List.setIfInBounds_toArray, List.set_cons_zero, List.set_cons_succ]
    refine wpAnyH_done (by kernel_rfl) ?_ _
    obtain rfl := HL7.out
    have HB7w := keep (HB5.out.trans (HB7.out.mono HB5.out.size))
    obtain ⟨x0, x1, x2, x3, x4, x5⟩ := HX.out w7 HB7w.out
    have HB7ww := keep (HB1.out.trans (HB7w.out.mono HB1.out.size))
    have HD7 := keep (HD.out.step HB7ww.out)
    have HLW := keep (show w6.heap.size ≤ w7.heap.size ∧ w.heap.size ≤ w6.heap.size from ⟨HZ7.out, by have := HB1.out.size; have := HB5.out.size; have := HB6.out.size; omega⟩)
    clear x0 x1 x2 x3 x4
    go_wp2_with (at_builtin; refine wpl_append rfl (.tmp 32) (.tmp 34) 24 rfl w6.heap.size 5 i0 (.int .u8 0) Try.underlying24 hi0 hz0 hz1 rfl (.slice A7 12 c7) 12 (bc (encH _)) rfl HO7.out A n c (bc bs) rfl (by rw [bc_length]; exact HD.out.len) HD7.out.br.sr (bc_one bs) (by have := HR.out.2.2.2.2.1; unfold maxLen; omega) (by rw [hz2]; have := HR.out.2.2.2.2.1; omega) HLW.out.1 ?_; intro A8 c8 w8 ho8 hb8)
    go_ret2
    rw [← bc_append] at ho8
    exact ⟨A8, 12 + n, c8, rfl, BS.of_own ho8.out, HB7ww.out.trans (hb8.mono HLW.out.2)⟩
/-- The document's packet, as it lies. -/
def RBk (w : World) (g : Nat) (x : Pv) : Prop := w.heap[g]? = some (.cells x.cells.toArray 32 (0, 0))
theorem ret_ref2 {fn : Func} {p u : Tmp} (hr : fn.results = #[.cell p 32, .tmp u]) (tmps : Array Value) (w : World) (g : Nat) (x : Pv) (hp : tmps.getD p undef = .pointer (some ⟨g, 0, none⟩)) (h : RBk w g x) :
    (results fn tmps).run Try.prog w = .ok (.tuple #[.agg x.cells.toArray, tmps.getD u undef]) w := by
  rw [results_cell_tmp hr, hp]
  have := run_loadVar_row w g _ 32 x.cells.toArray (0, 0) _ h Try.underlying32 rfl (by first | kernel_rfl | rfl)
  simp [asAddr, this]
theorem rbk_zero (w : World) : RBk (w.alloc (.cells #[.bool false, .int .u8 0, .int .u16 0, .int .u32 0, .int .u32 0, .slice none 0 0] 32)) w.heap.size pvZ := heap_alloc_new w _
theorem get_drop {w : World} {b o n c : Nat} {bs : List UInt8} (hb : BS w (some ⟨b, o, none⟩) n c bs) {k : Nat} (hk : k ≤ n) (hc : k < c) : BS w (some ⟨b, o + k, none⟩) (n - k) (c - k) (bs.drop k) := by
  have := hb.drop k hk
  rw [if_neg (by omega)] at this
  simp only [Option.map_some, Addr.add_lit] at this
  exact this
set_option maxHeartbeats 8000000 in
set_option maxRecDepth 1000000 in
theorem refDecode_bad (A : Option Addr) (n c : Nat) (bs : List UInt8) (w : World) (hb : BS w A n c bs) (hn : n ≤ 100000) (h : decE bs ≠ 0) :
    Calls Try.prog 13 #[.slice A n c] w (DecP bs w) := by
  have l1 := keep (below_lay w (.cells #[.bool false, .int .u8 0, .int .u16 0, .int .u32 0, .int .u32 0, .slice none 0 0] 32))
  have HZ := keep (rbk_zero w)
  have f0 := upd_fz HZ.out 0
  have f1 := upd_fz HZ.out 1
  have f2 := upd_fz HZ.out 2
  have f3 := upd_fz HZ.out 3
  have f4 := upd_fz HZ.out 4
  have f5 := upd_fz HZ.out 5
  have hl := hb.len
  by_cases h1 : 1200 < n
  · have hE : decE bs = 10 := by unfold decE; rw [if_pos (by omega)]
    have h1I : (1200 : Int) < (n : Int) := by omega
    clear hb hl h1 h
    go_enter Try.func13, Try.ntmps13
    go_wp2_with fail
    exact bodyPost_ret (ret_ref2 (p := 2) (u := 3) rfl _ _ w.heap.size pvZ rfl HZ.out) rfl (decP_bad hE (by decide) rfl l1.out)
  have h1I : ¬ (1200 : Int) < (n : Int) := by omega
  by_cases h2 : n < 12
  · have hE : decE bs = 2 := by unfold decE; rw [if_neg (by omega), if_pos (by omega)]
    have h2I : (n : Int) < 12 := by omega
    clear hb hl h1 h2 h
    go_enter Try.func13, Try.ntmps13
    go_wp2_with fail
    exact bodyPost_ret (ret_ref2 (p := 2) (u := 3) rfl _ _ w.heap.size pvZ rfl HZ.out) rfl (decP_bad hE (by decide) rfl l1.out)
  have h2I : ¬ (n : Int) < 12 := by omega
  have hn0 : (0 : Int) < (n : Int) := by omega
  obtain ⟨b, o, rfl, hlt, hc0⟩ := hb.br.at_ (j := 0) (by omega)
  obtain ⟨x, r, hxr⟩ : ∃ x r, bs = x :: r := by cases bs with
    | nil => simp at hl; omega
    | cons x r => exact ⟨x, r, rfl⟩
  have hc1 : (w.alloc (.cells #[.bool false, .int .u8 0, .int .u16 0, .int .u32 0, .int .u32 0, .slice none 0 0] 32)).cell? ⟨b, o, none⟩ = some (.int .u8 (x.toNat : Int)) := by
    have := (l1.out.cell (p := ⟨b, o + 0, none⟩) hlt).trans hc0
    rw [Nat.add_zero] at this
    rw [this]
    subst hxr
    rfl
  have hx8 := u8_eq x 128 (by decide)
  rw [show ((128 : Nat) : Int) = 128 from rfl] at hx8
  obtain ⟨v, hv⟩ : ∃ v : Int, (x.toNat : Int) = v := ⟨_, rfl⟩
  rw [hv] at hc1 hx8
  have hx : ¬ x = 128 := fun hx => h (by unfold decE; rw [if_neg (by omega), if_neg (by omega), if_neg (by rw [hxr, hx]; show ¬ ((128 : UInt8) ≠ 128); exact fun h => h rfl)])
  have hE : decE bs = 3 := by unfold decE; rw [if_neg (by omega), if_neg (by omega), if_pos (by rw [hxr]; exact hx)]
  have hv8 : (v == 128) = false := by rw [hx8]; exact decide_eq_false hx
  clear hb hl h1 h2 hc0 hx8 hv hx hxr h
  go_enter Try.func13, Try.ntmps13
  go_wp2_with fail
  exact bodyPost_ret (ret_ref2 (p := 2) (u := 3) rfl _ _ w.heap.size pvZ rfl HZ.out) rfl (decP_bad hE (by decide) rfl l1.out)
set_option maxHeartbeats 8000000 in
set_option maxRecDepth 1000000 in
theorem refDecode_good1 (b o : Nat) (bs : List UInt8) (w : World) (hb : BS w (some ⟨b, o, none⟩) 12 12 bs) (hE : decE bs = 0) (h3 : bs.headD 0 = 128) :
    Calls Try.prog 13 #[.slice (some ⟨b, o, none⟩) 12 12] w (DecP bs w) := by
  have l1 := keep (below_lay w (.cells #[.bool false, .int .u8 0, .int .u16 0, .int .u32 0, .int .u32 0, .slice none 0 0] 32))
  have HZ := keep (rbk_zero w)
  have HL := keep (show 12 = bs.length from hb.len)
  obtain ⟨x0, x1, r, hxr⟩ : ∃ x0 x1 r, bs = x0 :: x1 :: r := by
    have hl := HL.out
    match bs, hl with
    | [], hl => simp at hl
    | [_], hl => simp at hl
    | x0 :: x1 :: r, _ => exact ⟨x0, x1, r, rfl⟩
  have h128 : x0 = 128 := by rw [hxr] at h3; exact h3
  obtain ⟨b', o', e, hlt, hc0⟩ := hb.br.at_ (j := 0) (by rw [hxr]; simp)
  injection e with e
  injection e with e1 e2
  subst e1 e2
  obtain ⟨b', o', e, _, hc1⟩ := hb.br.at_ (j := 1) (by rw [hxr]; simp)
  injection e with e
  injection e with e1 e2
  subst e1 e2
  have HC := keep (show ∀ W, Below w.heap.size w W → W.cell? ⟨b, o, none⟩ = some (.int .u8 128) ∧ W.cell? ⟨b, o + 1, none⟩ = some (.int .u8 (x1.toNat : Int)) from fun W hbw => by
    subst hxr
    subst h128
    exact ⟨(hbw.cell (p := ⟨b, o + 0, none⟩) hlt).trans hc0, (hbw.cell (p := ⟨b, o + 1, none⟩) hlt).trans hc1⟩)
  have hd1 : d1 bs = x1.toNat := by rw [hxr]; exact numB1 x1
  have HX1 := keep (And.intro hd1 x1.toNat_lt)
  obtain ⟨v, hv⟩ : ∃ v : Int, (x1.toNat : Int) = v := ⟨_, rfl⟩
  rw [hv] at HC
  have hv0 : 0 ≤ v := by omega
  have hv1 : v < 256 := by have := x1.toNat_lt; omega
  have HV := keep hv
  have HB := keep (show ∀ W, Below w.heap.size w W → BS W (some ⟨b, o, none⟩) 12 12 bs from fun W hbw => hb.step hbw)
  have HNC := keep (show 12 ≤ 12 ∧ 12 ≤ 12 ∧ (12 = 12 ∧ 12 = 12 ∨ 12 < 12) from ⟨by decide, hb.cap, .inl ⟨rfl, rfl⟩⟩)
  have hD : decD bs = decK bs := by unfold decD; rw [if_pos hE]
  have HED := keep (And.intro hE hD)
  have HD2 := keep (show decK bs = ⟨decide (128 ≤ v), v % 128, (numB ((bs.drop 2).take 2) : Nat), (numB ((bs.drop 4).take 4) : Nat), (numB ((bs.drop 8).take 4) : Nat), bs.drop 12⟩ from by unfold decK; rw [hd1, hv])
  have f2 : numB ((bs.drop 2).take 2) < 256 ^ 2 := numB_take_lt (bs.drop 2) 2 (by rw [List.length_drop]; have := HL.out; omega)
  obtain ⟨v2, hv2⟩ : ∃ v2, numB ((bs.drop 2).take 2) = v2 := ⟨_, rfl⟩
  obtain ⟨v3, hv3⟩ : ∃ v3, numB ((bs.drop 4).take 4) = v3 := ⟨_, rfl⟩
  obtain ⟨v4, hv4⟩ : ∃ v4, numB ((bs.drop 8).take 4) = v4 := ⟨_, rfl⟩
  rw [hv2, hv3, hv4] at HD2
  rw [hv2] at f2
  have hv2w : IntKind.u16.wrap (v2 : Int) = (v2 : Int) := by rw [wrap_u16]; omega
  have KG2 := keep (fun W hbw => refget_some (some ⟨b, o + 2, none⟩) 10 10 (bs.drop 2) 2 (by decide) (by decide) (by decide) W (get_drop (HB.out W hbw) (k := 2) (by decide) (by decide)))
  have KG4 := keep (fun W hbw => refget_some (some ⟨b, o + 4, none⟩) 8 8 (bs.drop 4) 4 (by decide) (by decide) (by decide) W (get_drop (HB.out W hbw) (k := 4) (by decide) (by decide)))
  have KG8 := keep (fun W hbw => refget_some (some ⟨b, o + 8, none⟩) 4 4 (bs.drop 8) 4 (by decide) (by decide) (by decide) W (get_drop (HB.out W hbw) (k := 8) (by decide) (by decide)))
  unfold GetPost at KG2 KG4 KG8
  rw [hv2] at KG2
  rw [hv3] at KG4
  rw [hv4] at KG8
  obtain ⟨y0, y1⟩ := HC.out _ l1.out
  clear hb hE h3 hxr h128 hlt hc0 hc1 hd1 hv hD f2 hv2 hv3 hv4
  go_enter Try.func13, Try.ntmps13
  go_wp2_with fail
  refine (KG2.out _ l1.out).mono ?_
  rintro e w2 ⟨X2, d2, m2, rfl, _, hw2⟩
  have HB2 := keep (show Below w.heap.size w w2 ∧ RBk w2 w.heap.size pvZ from by rw [hw2]; exact ⟨⟨l1.out.os, l1.out.tape, l1.out.output, l1.out.size, l1.out.block⟩, HZ.out⟩)
  clear hw2 KG2 y0 y1
  go_wp2_with fail
  refine (KG4.out _ HB2.out.1).mono ?_
  rintro e w3 ⟨X3, d3, m3, rfl, _, hw3⟩
  have HB3 := keep (show Below w.heap.size w w3 ∧ RBk w3 w.heap.size pvZ from by rw [hw3]; exact ⟨⟨HB2.out.1.os, HB2.out.1.tape, HB2.out.1.output, HB2.out.1.size, HB2.out.1.block⟩, HB2.out.2⟩)
  clear hw3 KG4 HB2
  go_wp2_with fail
  refine (KG8.out _ HB3.out.1).mono ?_
  rintro e w4 ⟨X4, d4, m4, rfl, _, hw4⟩
  have HB4 := keep (show Below w.heap.size w w4 ∧ RBk w4 w.heap.size pvZ from by rw [hw4]; exact ⟨⟨HB3.out.1.os, HB3.out.1.tape, HB3.out.1.output, HB3.out.1.size, HB3.out.1.block⟩, HB3.out.2⟩)
  clear hw4 KG8 HB3
  go_wp2_with fail
  have HS0 := keep (show ∀ W : World, Below w.heap.size w W → W.cell? ⟨b, o + 1, none⟩ = some (.int .u8 v) from fun W hb => (HC.out W hb).2)
  have htm : v.tmod 128 = v % 128 := Int.tmod_eq_emod_of_nonneg hv0
  have htw : IntKind.u8.wrap (v % 128) = v % 128 := by simp [IntKind.wrap, IntKind.signed, IntKind.bits]; omega
  refine wp_region_held_drew (S := (fun w' => w'.cell? ⟨b, o + 1, none⟩ = some (.int .u8 v))) (by kernel_rfl) (HS0.out _ HB4.out.1.drew) (fun hHeld => ?_)
  refine wpAnyH_take (i := 0) (oi := ⟨some 47, _, _, _, _, _⟩) (v := ?vg11x0) rfl (by kernel_rfl) (by kernel_rfl) (by kernel_rfl) (fun _ _ _ h => h) (Or.inl ⟨by rfl, ?hyg11x0⟩) (by assumption) ?restg11x0
  case hyg11x0 => (intro wz hSw; (try dsimp only at hSw); go_simp <;> (try with_reducible rfl))
  try simp only [Act.put, List.setIfInBounds_toArray, List.set_cons_zero, List.set_cons_succ]
  refine wpAnyH_take (i := 1) (oi := ⟨some 48, _, _, _, _, _⟩) (v := ?vg12x1) rfl (by kernel_rfl) (by kernel_rfl) (by kernel_rfl) (fun _ _ _ h => h) (Or.inl ⟨by rfl, ?hyg12x1⟩) (by assumption) ?restg12x1
  case hyg12x1 => (intro wz hSw; (try dsimp only at hSw); go_simp <;> (try with_reducible rfl))
  try simp only [Act.put, List.setIfInBounds_toArray, List.set_cons_zero, List.set_cons_succ]
  refine wpAnyH_take (i := 2) (oi := ⟨some 49, _, _, _, _, _⟩) (v := ?vg13x2) rfl (by kernel_rfl) (by kernel_rfl) (by kernel_rfl) (fun _ _ _ h => h) (Or.inl ⟨by rfl, ?hyg13x2⟩) (by assumption) ?restg13x2
  case hyg13x2 => (intro wz hSw; (try dsimp only at hSw); go_simp <;> (try with_reducible rfl))
  try simp only [Act.put, List.setIfInBounds_toArray, List.set_cons_zero, List.set_cons_succ]
  refine wpAnyH_take (i := 3) (oi := ⟨some 50, _, _, _, _, _⟩) (v := ?vg14x3) rfl (by kernel_rfl) (by kernel_rfl) (by kernel_rfl) (fun _ _ _ h => h) (Or.inl ⟨by rfl, ?hyg14x3⟩) (by assumption) ?restg14x3
  case hyg14x3 => (intro wz hSw; (try dsimp only at hSw); go_simp <;> (try with_reducible rfl))
  try simp only [Act.put, List.setIfInBounds_toArray, List.set_cons_zero, List.set_cons_succ]
  refine wpAnyH_take (i := 4) (oi := ⟨some 51, _, _, _, _, _⟩) (v := ?vg15x4) rfl (by kernel_rfl) (by kernel_rfl) (by kernel_rfl) (fun _ _ _ h => h) (Or.inl ⟨by rfl, ?hyg15x4⟩) (by assumption) ?restg15x4
  case hyg15x4 => (intro wz hSw; (try dsimp only at hSw); go_simp <;> (try with_reducible rfl))
  try simp only [Act.put, List.setIfInBounds_toArray, List.set_cons_zero, List.set_cons_succ]
  refine wpAnyH_take (i := 5) (oi := ⟨some 52, _, _, _, _, _⟩) (v := ?vg16x5) rfl (by kernel_rfl) (by kernel_rfl) (by kernel_rfl) (fun _ _ _ h => h) (Or.inl ⟨by rfl, ?hyg16x5⟩) (by assumption) ?restg16x5
  case hyg16x5 => (intro wz hSw; (try dsimp only at hSw); go_simp <;> (try with_reducible rfl))
  try simp only [Act.put, List.setIfInBounds_toArray, List.set_cons_zero, List.set_cons_succ]
  refine wpAnyH_take (i := 6) (oi := ⟨some 53, _, _, _, _, _⟩) (v := ?vg17x6) rfl (by kernel_rfl) (by kernel_rfl) (by kernel_rfl) (fun _ _ _ h => h) (Or.inl ⟨by rfl, ?hyg17x6⟩) (by assumption) ?restg17x6
  case hyg17x6 => (intro wz hSw; (try dsimp only at hSw); go_simp <;> (try with_reducible rfl))
  try simp only [Act.put, List.setIfInBounds_toArray, List.set_cons_zero, List.set_cons_succ]
  refine wpAnyH_take (i := 7) (oi := ⟨some 54, _, _, _, _, _⟩) (v := ?vg18x7) rfl (by kernel_rfl) (by kernel_rfl) (by kernel_rfl) (fun _ _ _ h => h) (Or.inl ⟨by rfl, ?hyg18x7⟩) (by assumption) ?restg18x7
  case hyg18x7 => (intro wz hSw; (try dsimp only at hSw); go_simp <;> (try with_reducible rfl))
  try simp only [Act.put, List.setIfInBounds_toArray, List.set_cons_zero, List.set_cons_succ]
  refine wpAnyH_take (i := 8) (oi := ⟨some 55, _, _, _, _, _⟩) (v := ?vg19x8) rfl (by kernel_rfl) (by kernel_rfl) (by kernel_rfl) (fun _ _ _ h => h) (Or.inl ⟨by rfl, ?hyg19x8⟩) (by assumption) ?restg19x8
  case hyg19x8 => (intro wz hSw; (try dsimp only at hSw); go_simp <;> (try with_reducible rfl))
  try simp only [Act.put, List.setIfInBounds_toArray, List.set_cons_zero, List.set_cons_succ]
  refine wpAnyH_take (i := 9) (oi := ⟨some 56, _, _, _, _, _⟩) (v := ?vg110x9) rfl (by kernel_rfl) (by kernel_rfl) (by kernel_rfl) (fun _ _ _ h => h) (Or.inl ⟨by rfl, ?hyg110x9⟩) (by assumption) ?restg110x9
  case hyg110x9 => (intro wz hSw; (try dsimp only at hSw); go_simp <;> (try with_reducible rfl))
  try simp only [Act.put, List.setIfInBounds_toArray, List.set_cons_zero, List.set_cons_succ]
  refine wpAnyH_take (i := 10) (oi := ⟨some 57, _, _, _, _, _⟩) (v := ?vg111x10) rfl (by kernel_rfl) (by kernel_rfl) (by kernel_rfl) (fun _ _ _ h => h) (Or.inl ⟨by rfl, ?hyg111x10⟩) (by assumption) ?restg111x10
  case hyg111x10 => (intro wz hSw; (try dsimp only at hSw); go_simp <;> (try with_reducible rfl))
  try simp only [Act.put, List.setIfInBounds_toArray, List.set_cons_zero, List.set_cons_succ]
  refine wpAnyH_take (i := 11) (oi := ⟨some 58, _, _, _, _, _⟩) (v := ?vg112x11) rfl (by kernel_rfl) (by kernel_rfl) (by kernel_rfl) (fun _ _ _ h => h) (Or.inl ⟨by rfl, ?hyg112x11⟩) (by assumption) ?restg112x11
  case hyg112x11 => (intro wz hSw; (try dsimp only at hSw); go_simp <;> (try with_reducible rfl))
  try simp only [Act.put, List.setIfInBounds_toArray, List.set_cons_zero, List.set_cons_succ]
  refine wpAnyH_take (i := 12) (oi := ⟨some 59, _, _, _, _, _⟩) (v := ?vg113x12) rfl (by kernel_rfl) (by kernel_rfl) (by kernel_rfl) (fun _ _ _ h => h) (Or.inl ⟨by rfl, ?hyg113x12⟩) (by assumption) ?restg113x12
  case hyg113x12 => (intro wz hSw; (try dsimp only at hSw); go_simp <;> (try with_reducible rfl))
  try simp only [Act.put, List.setIfInBounds_toArray, List.set_cons_zero, List.set_cons_succ]
  refine wpAnyH_take (i := 13) (oi := ⟨some 60, _, _, _, _, _⟩) (v := ?vg114x13) rfl (by kernel_rfl) (by kernel_rfl) (by kernel_rfl) (fun _ _ _ h => h) (Or.inl ⟨by rfl, ?hyg114x13⟩) (by assumption) ?restg114x13
  case hyg114x13 => (intro wz hSw; (try dsimp only at hSw); go_simp <;> (try with_reducible rfl))
  try simp only [Act.put, List.setIfInBounds_toArray, List.set_cons_zero, List.set_cons_succ]
  refine wpAnyH_take (i := 14) (oi := ⟨some 61, _, _, _, _, _⟩) (v := ?vg115x14) rfl (by kernel_rfl) (by kernel_rfl) (by kernel_rfl) (fun _ _ _ h => h) (Or.inl ⟨by rfl, ?hyg115x14⟩) (by assumption) ?restg115x14
  case hyg115x14 => (intro wz hSw; (try dsimp only at hSw); go_simp <;> (try with_reducible rfl))
  try simp only [Act.put, List.setIfInBounds_toArray, List.set_cons_zero, List.set_cons_succ]
  have HPT := keep (part_setCells w.heap.size [.bool (decide (128 ≤ v)), .int .u8 (v % 128), .int .u16 (v2 : Int), .int .u32 (v3 : Int), .int .u32 (v4 : Int), .slice (some ⟨b, o, none⟩) 0 0] 0 (World.drew w4))
  have HRES := keep (show RBk ((World.drew w4).setCells w.heap.size 0 [.bool (decide (128 ≤ v)), .int .u8 (v % 128), .int .u16 (v2 : Int), .int .u32 (v3 : Int), .int .u32 (v4 : Int), .slice (some ⟨b, o, none⟩) 0 0]) w.heap.size ⟨decide (128 ≤ v), v % 128, (v2 : Int), (v3 : Int), (v4 : Int), ((some ⟨b, o, none⟩ : Option Addr), 0, 0), bs.drop 12⟩ from setCells_whole [.bool (decide (128 ≤ v)), .int .u8 (v % 128), .int .u16 (v2 : Int), .int .u32 (v3 : Int), .int .u32 (v4 : Int), .slice (some ⟨b, o, none⟩) 0 0] [] _ (World.drew w4) HB4.out.2 rfl)
  have HBW := keep (show Below w.heap.size w ((World.drew w4).setCells w.heap.size 0 [.bool (decide (128 ≤ v)), .int .u8 (v % 128), .int .u16 (v2 : Int), .int .u32 (v3 : Int), .int .u32 (v4 : Int), .slice (some ⟨b, o, none⟩) 0 0]) from HB4.out.1.drew.trans (HPT.out.below HB4.out.1.size (fun k hk => by rw [hk]; exact Nat.le_refl _)))
  refine wpAnyH_ready (rs := [15]) (by kernel_rfl) (by simp) (AllReadyH.cons (o := ⟨none, _, _, _, _, _⟩) rfl (fun K hK => ?_) AllReadyH.nil)
  refine step_store rfl 32 (.tmp 2) (.tmp 61) rfl w.heap.size 0 #[.bool (decide (128 ≤ v)), .int .u8 (v % 128), .int .u16 (v2 : Int), .int .u32 (v3 : Int), .int .u32 (v4 : Int), .slice (some ⟨b, o, none⟩) 0 0] rfl rfl (there_of (show (World.drew w4).heap[w.heap.size]? = _ from HB4.out.2) 0 6 (by decide)) (by kernel_rfl) (by simp [Value.oneCell']) ?_
  refine hK.out _ _ (HS0.out _ HBW.out) (fun hHeld => ?_)
  clear hK K
  try simp only [Act.put, List.setIfInBounds_toArray, List.set_cons_zero, List.set_cons_succ]
  refine wpAnyH_take (i := 16) (oi := ⟨some 3, _, _, _, _, _⟩) (v := ?vg116x16) rfl (by kernel_rfl) (by kernel_rfl) (by kernel_rfl) (fun _ _ _ h => h) (Or.inl ⟨by rfl, ?hyg116x16⟩) (by assumption) ?restg116x16
  case hyg116x16 => (intro wz hSw; (try dsimp only at hSw); go_simp <;> (try with_reducible rfl))
  try simp only [Act.put, List.setIfInBounds_toArray, List.set_cons_zero, List.set_cons_succ]
  refine wpAnyH_done (by kernel_rfl) ?_ _
  obtain ⟨W5, hW5⟩ : ∃ W5, (World.drew w4).setCells w.heap.size 0 [.bool (decide (128 ≤ v)), .int .u8 (v % 128), .int .u16 (v2 : Int), .int .u32 (v3 : Int), .int .u32 (v4 : Int), .slice (some ⟨b, o, none⟩) 0 0] = W5 := ⟨_, rfl⟩
  rw [hW5] at HRES HBW
  rw [hW5]
  clear hW5 HPT
  go_wp2_with fail
  exact bodyPost_ret (ret_ref2 (p := 2) (u := 3) rfl _ _ w.heap.size ⟨decide (128 ≤ v), v % 128, (v2 : Int), (v3 : Int), (v4 : Int), ((some ⟨b, o, none⟩ : Option Addr), 0, 0), bs.drop 12⟩ rfl HRES.out) rfl (show DecP bs w _ W5 from by
    unfold DecP
    rw [HED.out.1, HED.out.2, HD2.out]
    exact ⟨some ⟨b, o, none⟩, 0, 0, rfl, show BS W5 (some ⟨b, o, none⟩) 0 0 (bs.drop 12) by rw [List.drop_eq_nil_of_le (by have := HL.out; omega)]; exact ⟨rfl, Nat.le_refl _, BR.nil _ _⟩, HBW.out⟩)
set_option maxHeartbeats 8000000 in
set_option maxRecDepth 1000000 in
theorem refDecode_good2 (b o n c : Nat) (bs : List UInt8) (w : World) (hb : BS w (some ⟨b, o, none⟩) n c bs) (hl1 : 12 ≤ bs.length) (hl2 : bs.length ≤ 1200) (hcc : 12 < c) (hE : decE bs = 0) (h3 : bs.headD 0 = 128) :
    Calls Try.prog 13 #[.slice (some ⟨b, o, none⟩) n c] w (DecP bs w) := by
  have l1 := keep (below_lay w (.cells #[.bool false, .int .u8 0, .int .u16 0, .int .u32 0, .int .u32 0, .slice none 0 0] 32))
  have HZ := keep (rbk_zero w)
  have hn12 : 12 ≤ n := by have := hb.len; omega
  have hn1200 : n ≤ 1200 := by have := hb.len; omega
  have h1I : ¬ (1200 : Int) < (n : Int) := by omega
  have h2I : ¬ (n : Int) < 12 := by omega
  have hnp : (0 : Int) < (n : Int) := by omega
  have hnp1 : (1 : Int) < (n : Int) := by omega
  have hc2 : ¬ c = 2 := by omega
  have hc4 : ¬ c = 4 := by omega
  have hc8 : ¬ c = 8 := by omega
  have hc12 : ¬ c = 12 := by omega
  have g2 : (2 : Int) ≤ (n : Int) := by omega
  have g4 : (4 : Int) ≤ (n : Int) := by omega
  have g8 : (8 : Int) ≤ (n : Int) := by omega
  have g12 : (12 : Int) ≤ (n : Int) := by omega
  have gc2 : (n : Int) ≤ (c : Int) := by have := hb.cap; omega
  have HL := keep (show n = bs.length from hb.len)
  obtain ⟨x0, x1, r, hxr⟩ : ∃ x0 x1 r, bs = x0 :: x1 :: r := by
    have hl := HL.out
    match bs, hl with
    | [], hl => simp at hl; omega
    | [_], hl => simp at hl; omega
    | x0 :: x1 :: r, _ => exact ⟨x0, x1, r, rfl⟩
  have h128 : x0 = 128 := by rw [hxr] at h3; exact h3
  obtain ⟨b', o', e, hlt, hc0⟩ := hb.br.at_ (j := 0) (by rw [hxr]; simp)
  injection e with e
  injection e with e1 e2
  subst e1 e2
  obtain ⟨b', o', e, _, hc1⟩ := hb.br.at_ (j := 1) (by rw [hxr]; simp)
  injection e with e
  injection e with e1 e2
  subst e1 e2
  have HC := keep (show ∀ W, Below w.heap.size w W → W.cell? ⟨b, o, none⟩ = some (.int .u8 128) ∧ W.cell? ⟨b, o + 1, none⟩ = some (.int .u8 (x1.toNat : Int)) from fun W hbw => by
    subst hxr
    subst h128
    exact ⟨(hbw.cell (p := ⟨b, o + 0, none⟩) hlt).trans hc0, (hbw.cell (p := ⟨b, o + 1, none⟩) hlt).trans hc1⟩)
  have hd1 : d1 bs = x1.toNat := by rw [hxr]; exact numB1 x1
  have HX1 := keep (And.intro hd1 x1.toNat_lt)
  obtain ⟨v, hv⟩ : ∃ v : Int, (x1.toNat : Int) = v := ⟨_, rfl⟩
  rw [hv] at HC
  have hv0 : 0 ≤ v := by omega
  have hv1 : v < 256 := by have := x1.toNat_lt; omega
  have HV := keep hv
  have HB := keep (show ∀ W, Below w.heap.size w W → BS W (some ⟨b, o, none⟩) n c bs from fun W hbw => hb.step hbw)
  have HNC := keep (show 12 ≤ n ∧ n ≤ c ∧ (n = 12 ∧ c = 12 ∨ 12 < c) from ⟨by omega, hb.cap, .inr hcc⟩)
  have hD : decD bs = decK bs := by unfold decD; rw [if_pos hE]
  have HED := keep (And.intro hE hD)
  have HD2 := keep (show decK bs = ⟨decide (128 ≤ v), v % 128, (numB ((bs.drop 2).take 2) : Nat), (numB ((bs.drop 4).take 4) : Nat), (numB ((bs.drop 8).take 4) : Nat), bs.drop 12⟩ from by unfold decK; rw [hd1, hv])
  have f2 : numB ((bs.drop 2).take 2) < 256 ^ 2 := numB_take_lt (bs.drop 2) 2 (by rw [List.length_drop]; have := HL.out; omega)
  obtain ⟨v2, hv2⟩ : ∃ v2, numB ((bs.drop 2).take 2) = v2 := ⟨_, rfl⟩
  obtain ⟨v3, hv3⟩ : ∃ v3, numB ((bs.drop 4).take 4) = v3 := ⟨_, rfl⟩
  obtain ⟨v4, hv4⟩ : ∃ v4, numB ((bs.drop 8).take 4) = v4 := ⟨_, rfl⟩
  rw [hv2, hv3, hv4] at HD2
  rw [hv2] at f2
  have hv2w : IntKind.u16.wrap (v2 : Int) = (v2 : Int) := by rw [wrap_u16]; omega
  have KG2 := keep (fun W hbw => refget_some (some ⟨b, o + 2, none⟩) (n - 2) (c - 2) (bs.drop 2) 2 (by decide) (by decide) (by omega) W (get_drop (HB.out W hbw) (k := 2) (by omega) (by omega)))
  have KG4 := keep (fun W hbw => refget_some (some ⟨b, o + 4, none⟩) (n - 4) (c - 4) (bs.drop 4) 4 (by decide) (by decide) (by omega) W (get_drop (HB.out W hbw) (k := 4) (by omega) (by omega)))
  have KG8 := keep (fun W hbw => refget_some (some ⟨b, o + 8, none⟩) (n - 8) (c - 8) (bs.drop 8) 4 (by decide) (by decide) (by omega) W (get_drop (HB.out W hbw) (k := 8) (by omega) (by omega)))
  unfold GetPost at KG2 KG4 KG8
  rw [hv2] at KG2
  rw [hv3] at KG4
  rw [hv4] at KG8
  obtain ⟨y0, y1⟩ := HC.out _ l1.out
  clear hb hE h3 hxr h128 hlt hc0 hc1 hd1 hv hD f2 hv2 hv3 hv4 hl1 hl2 hcc hn12 hn1200
  go_enter Try.func13, Try.ntmps13
  go_wp2_with fail
  refine (KG2.out _ l1.out).mono ?_
  rintro e w2 ⟨X2, d2, m2, rfl, _, hw2⟩
  have HB2 := keep (show Below w.heap.size w w2 ∧ RBk w2 w.heap.size pvZ from by rw [hw2]; exact ⟨⟨l1.out.os, l1.out.tape, l1.out.output, l1.out.size, l1.out.block⟩, HZ.out⟩)
  clear hw2 KG2 y0 y1
  go_wp2_with fail
  refine (KG4.out _ HB2.out.1).mono ?_
  rintro e w3 ⟨X3, d3, m3, rfl, _, hw3⟩
  have HB3 := keep (show Below w.heap.size w w3 ∧ RBk w3 w.heap.size pvZ from by rw [hw3]; exact ⟨⟨HB2.out.1.os, HB2.out.1.tape, HB2.out.1.output, HB2.out.1.size, HB2.out.1.block⟩, HB2.out.2⟩)
  clear hw3 KG4 HB2
  go_wp2_with fail
  refine (KG8.out _ HB3.out.1).mono ?_
  rintro e w4 ⟨X4, d4, m4, rfl, _, hw4⟩
  have HB4 := keep (show Below w.heap.size w w4 ∧ RBk w4 w.heap.size pvZ from by rw [hw4]; exact ⟨⟨HB3.out.1.os, HB3.out.1.tape, HB3.out.1.output, HB3.out.1.size, HB3.out.1.block⟩, HB3.out.2⟩)
  clear hw4 KG8 HB3
  go_wp2_with fail
  have HS0 := keep (show ∀ W : World, Below w.heap.size w W → W.cell? ⟨b, o + 1, none⟩ = some (.int .u8 v) from fun W hb => (HC.out W hb).2)
  have htm : v.tmod 128 = v % 128 := Int.tmod_eq_emod_of_nonneg hv0
  have htw : IntKind.u8.wrap (v % 128) = v % 128 := by simp [IntKind.wrap, IntKind.signed, IntKind.bits]; omega
  refine wp_region_held_drew (S := (fun w' => w'.cell? ⟨b, o + 1, none⟩ = some (.int .u8 v))) (by kernel_rfl) (HS0.out _ HB4.out.1.drew) (fun hHeld => ?_)
  refine wpAnyH_take (i := 0) (oi := ⟨some 47, _, _, _, _, _⟩) (v := ?vg21x0) rfl (by kernel_rfl) (by kernel_rfl) (by kernel_rfl) (fun _ _ _ h => h) (Or.inl ⟨by rfl, ?hyg21x0⟩) (by assumption) ?restg21x0
  case hyg21x0 => (intro wz hSw; (try dsimp only at hSw); go_simp <;> (try with_reducible rfl))
  try simp only [Act.put, List.setIfInBounds_toArray, List.set_cons_zero, List.set_cons_succ]
  refine wpAnyH_take (i := 1) (oi := ⟨some 48, _, _, _, _, _⟩) (v := ?vg22x1) rfl (by kernel_rfl) (by kernel_rfl) (by kernel_rfl) (fun _ _ _ h => h) (Or.inl ⟨by rfl, ?hyg22x1⟩) (by assumption) ?restg22x1
  case hyg22x1 => (intro wz hSw; (try dsimp only at hSw); go_simp <;> (try with_reducible rfl))
  try simp only [Act.put, List.setIfInBounds_toArray, List.set_cons_zero, List.set_cons_succ]
  refine wpAnyH_take (i := 2) (oi := ⟨some 49, _, _, _, _, _⟩) (v := ?vg23x2) rfl (by kernel_rfl) (by kernel_rfl) (by kernel_rfl) (fun _ _ _ h => h) (Or.inl ⟨by rfl, ?hyg23x2⟩) (by assumption) ?restg23x2
  case hyg23x2 => (intro wz hSw; (try dsimp only at hSw); go_simp <;> (try with_reducible rfl))
  try simp only [Act.put, List.setIfInBounds_toArray, List.set_cons_zero, List.set_cons_succ]
  refine wpAnyH_take (i := 3) (oi := ⟨some 50, _, _, _, _, _⟩) (v := ?vg24x3) rfl (by kernel_rfl) (by kernel_rfl) (by kernel_rfl) (fun _ _ _ h => h) (Or.inl ⟨by rfl, ?hyg24x3⟩) (by assumption) ?restg24x3
  case hyg24x3 => (intro wz hSw; (try dsimp only at hSw); go_simp <;> (try with_reducible rfl))
  try simp only [Act.put, List.setIfInBounds_toArray, List.set_cons_zero, List.set_cons_succ]
  refine wpAnyH_take (i := 4) (oi := ⟨some 51, _, _, _, _, _⟩) (v := ?vg25x4) rfl (by kernel_rfl) (by kernel_rfl) (by kernel_rfl) (fun _ _ _ h => h) (Or.inl ⟨by rfl, ?hyg25x4⟩) (by assumption) ?restg25x4
  case hyg25x4 => (intro wz hSw; (try dsimp only at hSw); go_simp <;> (try with_reducible rfl))
  try simp only [Act.put, List.setIfInBounds_toArray, List.set_cons_zero, List.set_cons_succ]
  refine wpAnyH_take (i := 5) (oi := ⟨some 52, _, _, _, _, _⟩) (v := ?vg26x5) rfl (by kernel_rfl) (by kernel_rfl) (by kernel_rfl) (fun _ _ _ h => h) (Or.inl ⟨by rfl, ?hyg26x5⟩) (by assumption) ?restg26x5
  case hyg26x5 => (intro wz hSw; (try dsimp only at hSw); go_simp <;> (try with_reducible rfl))
  try simp only [Act.put, List.setIfInBounds_toArray, List.set_cons_zero, List.set_cons_succ]
  refine wpAnyH_take (i := 6) (oi := ⟨some 53, _, _, _, _, _⟩) (v := ?vg27x6) rfl (by kernel_rfl) (by kernel_rfl) (by kernel_rfl) (fun _ _ _ h => h) (Or.inl ⟨by rfl, ?hyg27x6⟩) (by assumption) ?restg27x6
  case hyg27x6 => (intro wz hSw; (try dsimp only at hSw); go_simp <;> (try with_reducible rfl))
  try simp only [Act.put, List.setIfInBounds_toArray, List.set_cons_zero, List.set_cons_succ]
  refine wpAnyH_take (i := 7) (oi := ⟨some 54, _, _, _, _, _⟩) (v := ?vg28x7) rfl (by kernel_rfl) (by kernel_rfl) (by kernel_rfl) (fun _ _ _ h => h) (Or.inl ⟨by rfl, ?hyg28x7⟩) (by assumption) ?restg28x7
  case hyg28x7 => (intro wz hSw; (try dsimp only at hSw); go_simp <;> (try with_reducible rfl))
  try simp only [Act.put, List.setIfInBounds_toArray, List.set_cons_zero, List.set_cons_succ]
  refine wpAnyH_take (i := 8) (oi := ⟨some 55, _, _, _, _, _⟩) (v := ?vg29x8) rfl (by kernel_rfl) (by kernel_rfl) (by kernel_rfl) (fun _ _ _ h => h) (Or.inl ⟨by rfl, ?hyg29x8⟩) (by assumption) ?restg29x8
  case hyg29x8 => (intro wz hSw; (try dsimp only at hSw); go_simp <;> (try with_reducible rfl))
  try simp only [Act.put, List.setIfInBounds_toArray, List.set_cons_zero, List.set_cons_succ]
  refine wpAnyH_take (i := 9) (oi := ⟨some 56, _, _, _, _, _⟩) (v := ?vg210x9) rfl (by kernel_rfl) (by kernel_rfl) (by kernel_rfl) (fun _ _ _ h => h) (Or.inl ⟨by rfl, ?hyg210x9⟩) (by assumption) ?restg210x9
  case hyg210x9 => (intro wz hSw; (try dsimp only at hSw); go_simp <;> (try with_reducible rfl))
  try simp only [Act.put, List.setIfInBounds_toArray, List.set_cons_zero, List.set_cons_succ]
  refine wpAnyH_take (i := 10) (oi := ⟨some 57, _, _, _, _, _⟩) (v := ?vg211x10) rfl (by kernel_rfl) (by kernel_rfl) (by kernel_rfl) (fun _ _ _ h => h) (Or.inl ⟨by rfl, ?hyg211x10⟩) (by assumption) ?restg211x10
  case hyg211x10 => (intro wz hSw; (try dsimp only at hSw); go_simp <;> (try with_reducible rfl))
  try simp only [Act.put, List.setIfInBounds_toArray, List.set_cons_zero, List.set_cons_succ]
  refine wpAnyH_take (i := 11) (oi := ⟨some 58, _, _, _, _, _⟩) (v := ?vg212x11) rfl (by kernel_rfl) (by kernel_rfl) (by kernel_rfl) (fun _ _ _ h => h) (Or.inl ⟨by rfl, ?hyg212x11⟩) (by assumption) ?restg212x11
  case hyg212x11 => (intro wz hSw; (try dsimp only at hSw); go_simp <;> (try with_reducible rfl))
  try simp only [Act.put, List.setIfInBounds_toArray, List.set_cons_zero, List.set_cons_succ]
  refine wpAnyH_take (i := 12) (oi := ⟨some 59, _, _, _, _, _⟩) (v := ?vg213x12) rfl (by kernel_rfl) (by kernel_rfl) (by kernel_rfl) (fun _ _ _ h => h) (Or.inl ⟨by rfl, ?hyg213x12⟩) (by assumption) ?restg213x12
  case hyg213x12 => (intro wz hSw; (try dsimp only at hSw); go_simp <;> (try with_reducible rfl))
  try simp only [Act.put, List.setIfInBounds_toArray, List.set_cons_zero, List.set_cons_succ]
  refine wpAnyH_take (i := 13) (oi := ⟨some 60, _, _, _, _, _⟩) (v := ?vg214x13) rfl (by kernel_rfl) (by kernel_rfl) (by kernel_rfl) (fun _ _ _ h => h) (Or.inl ⟨by rfl, ?hyg214x13⟩) (by assumption) ?restg214x13
  case hyg214x13 => (intro wz hSw; (try dsimp only at hSw); go_simp <;> (try with_reducible rfl))
  try simp only [Act.put, List.setIfInBounds_toArray, List.set_cons_zero, List.set_cons_succ]
  refine wpAnyH_take (i := 14) (oi := ⟨some 61, _, _, _, _, _⟩) (v := ?vg215x14) rfl (by kernel_rfl) (by kernel_rfl) (by kernel_rfl) (fun _ _ _ h => h) (Or.inl ⟨by rfl, ?hyg215x14⟩) (by assumption) ?restg215x14
  case hyg215x14 => (intro wz hSw; (try dsimp only at hSw); go_simp <;> (try with_reducible rfl))
  try simp only [Act.put, List.setIfInBounds_toArray, List.set_cons_zero, List.set_cons_succ]
  have HPT := keep (part_setCells w.heap.size [.bool (decide (128 ≤ v)), .int .u8 (v % 128), .int .u16 (v2 : Int), .int .u32 (v3 : Int), .int .u32 (v4 : Int), .slice (some ⟨b, o + 12, none⟩) (n - 12) (c - 12)] 0 (World.drew w4))
  have HRES := keep (show RBk ((World.drew w4).setCells w.heap.size 0 [.bool (decide (128 ≤ v)), .int .u8 (v % 128), .int .u16 (v2 : Int), .int .u32 (v3 : Int), .int .u32 (v4 : Int), .slice (some ⟨b, o + 12, none⟩) (n - 12) (c - 12)]) w.heap.size ⟨decide (128 ≤ v), v % 128, (v2 : Int), (v3 : Int), (v4 : Int), ((some ⟨b, o + 12, none⟩ : Option Addr), n - 12, c - 12), bs.drop 12⟩ from setCells_whole [.bool (decide (128 ≤ v)), .int .u8 (v % 128), .int .u16 (v2 : Int), .int .u32 (v3 : Int), .int .u32 (v4 : Int), .slice (some ⟨b, o + 12, none⟩) (n - 12) (c - 12)] [] _ (World.drew w4) HB4.out.2 rfl)
  have HBW := keep (show Below w.heap.size w ((World.drew w4).setCells w.heap.size 0 [.bool (decide (128 ≤ v)), .int .u8 (v % 128), .int .u16 (v2 : Int), .int .u32 (v3 : Int), .int .u32 (v4 : Int), .slice (some ⟨b, o + 12, none⟩) (n - 12) (c - 12)]) from HB4.out.1.drew.trans (HPT.out.below HB4.out.1.size (fun k hk => by rw [hk]; exact Nat.le_refl _)))
  refine wpAnyH_ready (rs := [15]) (by kernel_rfl) (by simp) (AllReadyH.cons (o := ⟨none, _, _, _, _, _⟩) rfl (fun K hK => ?_) AllReadyH.nil)
  refine step_store rfl 32 (.tmp 2) (.tmp 61) rfl w.heap.size 0 #[.bool (decide (128 ≤ v)), .int .u8 (v % 128), .int .u16 (v2 : Int), .int .u32 (v3 : Int), .int .u32 (v4 : Int), .slice (some ⟨b, o + 12, none⟩) (n - 12) (c - 12)] rfl rfl (there_of (show (World.drew w4).heap[w.heap.size]? = _ from HB4.out.2) 0 6 (by decide)) (by kernel_rfl) (by simp [Value.oneCell']) ?_
  refine hK.out _ _ (HS0.out _ HBW.out) (fun hHeld => ?_)
  clear hK K
  try simp only [Act.put, List.setIfInBounds_toArray, List.set_cons_zero, List.set_cons_succ]
  refine wpAnyH_take (i := 16) (oi := ⟨some 3, _, _, _, _, _⟩) (v := ?vg216x16) rfl (by kernel_rfl) (by kernel_rfl) (by kernel_rfl) (fun _ _ _ h => h) (Or.inl ⟨by rfl, ?hyg216x16⟩) (by assumption) ?restg216x16
  case hyg216x16 => (intro wz hSw; (try dsimp only at hSw); go_simp <;> (try with_reducible rfl))
  try simp only [Act.put, List.setIfInBounds_toArray, List.set_cons_zero, List.set_cons_succ]
  refine wpAnyH_done (by kernel_rfl) ?_ _
  obtain ⟨W5, hW5⟩ : ∃ W5, (World.drew w4).setCells w.heap.size 0 [.bool (decide (128 ≤ v)), .int .u8 (v % 128), .int .u16 (v2 : Int), .int .u32 (v3 : Int), .int .u32 (v4 : Int), .slice (some ⟨b, o + 12, none⟩) (n - 12) (c - 12)] = W5 := ⟨_, rfl⟩
  rw [hW5] at HRES HBW
  rw [hW5]
  clear hW5 HPT
  go_wp2_with fail
  exact bodyPost_ret (ret_ref2 (p := 2) (u := 3) rfl _ _ w.heap.size ⟨decide (128 ≤ v), v % 128, (v2 : Int), (v3 : Int), (v4 : Int), ((some ⟨b, o + 12, none⟩ : Option Addr), n - 12, c - 12), bs.drop 12⟩ rfl HRES.out) rfl (show DecP bs w _ W5 from by
    unfold DecP
    rw [HED.out.1, HED.out.2, HD2.out]
    exact ⟨some ⟨b, o + 12, none⟩, n - 12, c - 12, rfl, get_drop (HB.out W5 HBW.out) (k := 12) (by have := HNC.out; omega) (by have := HNC.out; omega), HBW.out⟩)
theorem refDecode_any (A : Option Addr) (n c : Nat) (bs : List UInt8) (w : World) (hb : BS w A n c bs) (hn : n ≤ 100000) :
    Calls Try.prog 13 #[.slice A n c] w (DecP bs w) := by
  by_cases h : decE bs = 0
  · have hl := hb.len
    have hcap := hb.cap
    have h12 : 12 ≤ bs.length ∧ bs.length ≤ 1200 ∧ bs.headD 0 = 128 := by
      unfold decE at h
      split at h
      · cases h
      · split at h
        · cases h
        · split at h
          · cases h
          · rename_i a b c
            exact ⟨by omega, by omega, Decidable.of_not_not c⟩
    obtain ⟨b, o, rfl, hlt, hc0⟩ := hb.br.at_ (j := 0) (by omega)
    by_cases hc : c = 12
    · obtain rfl : n = 12 := by omega
      subst hc
      exact refDecode_good1 b o bs w hb h h12.2.2
    · exact refDecode_good2 b o n c bs w hb h12.1 h12.2.1 (by omega) h h12.2.2
  · exact refDecode_bad A n c bs w hb hn h
end Go.Proofs.Ytacmfoljbjdcjaa
