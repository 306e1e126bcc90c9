/- Package audio: Encode. -/
import Derived.Test.YtacmfoljbjdcjaaUB
import Derived.Test.YtacmfoljbjdcjaaUF
import Derived.Test.YtacmfoljbjdcjaaOct2
namespace Go.Proofs.Ytacmfoljbjdcjaa
open Go.RowKit Go.Maps
set_option linter.unusedVariables false
set_option linter.unusedSimpArgs false

theorem or128 {k : Int} (h0 : 0 ≤ k) (h1 : k < 128) : bits .or .u8 k 128 = k + 128 := by
  obtain ⟨n, rfl⟩ := Int.eq_ofNat_of_zero_le h0
  have all : ∀ n : Fin 128, bits .or .u8 ((n.val : Nat) : Int) 128 = ((n.val : Nat) : Int) + 128 := by decide +kernel
  exact all ⟨n, by omega⟩
/-- The second octet; the octets ahead of the data; all. -/
def secI (y : Pk) : Int := if y.mr = true then y.kd + 128 else y.kd
def encH (y : Pk) : List UInt8 := [b8 128, b8 (secI y), b8 (y.sq / 256), b8 y.sq, b8 (y.st / 16777216), b8 (y.st / 65536), b8 (y.st / 256), b8 y.st, b8 (y.so / 16777216), b8 (y.so / 65536), b8 (y.so / 256), b8 y.so]
def encD (y : Pk) : List UInt8 := if fE y.kd y.bs.length = 0 then encH y ++ y.bs else []
theorem encH_len (y : Pk) : (encH y).length = 12 := rfl
def EncP (y : Pk) (w : World) (e : Ending) (w' : World) : Prop := ∃ A n c, e = .returned (.tuple #[.slice A n c, .int .i64 (fE y.kd y.bs.length)]) ∧ BS w' A n c (encD y) ∧ Below w.heap.size w w'
set_option maxHeartbeats 4000000 in
set_option maxRecDepth 1000000 in
theorem encode_any (y : Pv) (w : World) (hy : PA w y) : Calls Try.prog 9 #[.agg y.cells.toArray] w (EncP y.pk w) := by
  obtain ⟨ym, yk, yq, yt, yo, ⟨A, n, c⟩, bs⟩ := y
  obtain ⟨hd, hk, hq, ht, ho⟩ := hy
  unfold Pv.cells Pv.pk EncP encD
  dsimp only at hd hk hq ht ho ⊢
  have hnl := hd.len
  rw [← hnl]
  have b1 := below_lay w (.cells #[.bool ym, .int .u8 yk, .int .u16 yq, .int .u32 yt, .int .u32 yo, .slice A n c] 26)
  have HB1 := keep b1
  have KF := keep fun W => fault_any ym yk yq yt yo A n c W
  have HX := keep (show ∀ W, Below (w.alloc (.cells #[.bool ym, .int .u8 yk, .int .u16 yq, .int .u32 yt, .int .u32 yo, .slice A n c] 26)).heap.size (w.alloc (.cells #[.bool ym, .int .u8 yk, .int .u16 yq, .int .u32 yt, .int .u32 yo, .slice A n c] 26)) W → W.cell? ⟨w.heap.size, 0, none⟩ = some (.bool ym) ∧ W.cell? ⟨w.heap.size, 1, none⟩ = some (.int .u8 yk) ∧ W.cell? ⟨w.heap.size, 2, none⟩ = some (.int .u16 yq) ∧ W.cell? ⟨w.heap.size, 3, none⟩ = some (.int .u32 yt) ∧ W.cell? ⟨w.heap.size, 4, none⟩ = some (.int .u32 yo) ∧ W.cell? ⟨w.heap.size, 5, none⟩ = some (.slice A n c) from fun W hb => by
    have g := (hb.block w.heap.size (by simp)).trans (heap_alloc_new w (.cells #[.bool ym, .int .u8 yk, .int .u16 yq, .int .u32 yt, .int .u32 yo, .slice A n c] 26))
    exact ⟨upd_cell g 0 _ rfl, upd_cell g 1 _ rfl, upd_cell g 2 _ rfl, upd_cell g 3 _ rfl, upd_cell g 4 _ rfl, upd_cell g 5 _ rfl⟩)
  obtain ⟨k, hkf⟩ : ∃ k, fE yk n = k := ⟨_, rfl⟩
  rw [hkf] at KF ⊢
  by_cases hk0 : k = 0
  case neg =>
    rw [if_neg hk0]
    have hkn : (k == 0) = false := by simpa using hk0
    clear hd hk hq ht ho hnl b1 hkf
    go_enter Try.func9, Try.ntmps9
    go_wp2_with (go_at_call 24; refine (KF.out _).mono ?_; rintro e w2 ⟨rfl, hb2⟩; have HB2 := keep (HB1.out.trans (hb2.mono HB1.out.size)); clear hb2)
    go_ret2
    exact ⟨none, 0, 0, rfl, BS.nil _, HB2.out⟩
  case pos =>
    subst hk0
    rw [if_pos rfl]
    have hk128 : yk < 128 ∧ n ≤ 1188 := by
      unfold fE at hkf
      split at hkf
      · cases hkf
      · split at hkf
        · cases hkf
        · exact ⟨by omega, by omega⟩
    obtain ⟨s2, hs2⟩ : ∃ s2, secI ⟨ym, yk, yq, yt, yo, bs⟩ = s2 := ⟨_, rfl⟩
    have hs2r : 0 ≤ s2 ∧ s2 < 256 := by rw [← hs2]; unfold secI; dsimp only; split <;> omega
    have hor := or128 hk.1 hk128.1
    have KE := keep (show ([] ++ [b8 128] ++ [b8 s2] ++ [b8 (yq / 256), b8 yq] ++ [b8 (yt / 16777216), b8 (yt / 65536), b8 (yt / 256), b8 yt] ++ [b8 (yo / 16777216), b8 (yo / 65536), b8 (yo / 256), b8 yo]) = encH ⟨ym, yk, yq, yt, yo, bs⟩ from by unfold encH; rw [hs2]; rfl)
    have HD := keep hd
    have HR := keep (And.intro hs2r (And.intro hq (And.intro ht (And.intro ho (And.intro hk128.2 hnl)))))
    have HS2 := keep hs2
    clear hd hk hq ht ho hnl b1 hkf hs2r hs2
    obtain ⟨i0, hi0, hz0, hz1, hz2⟩ := info_parts u8_info
    cases ym with
    | false =>
      have e2 : s2 = yk := by rw [← HS2.out]; rfl
      subst e2
      go_enter Try.func9, Try.ntmps9
      go_wp2_with (go_at_call 24; refine (KF.out _).mono ?_; rintro e w2 ⟨rfl, hb2⟩; have HB2 := keep hb2; obtain ⟨p0, p1, p2, p3, p4, p5⟩ := HX.out w2 hb2; clear hb2)
      refine (put8_any none 0 0 [] 128 (by decide) (by decide) w2 (BS.nil w2) (by decide)).mono ?_
      rintro e w3 ⟨A3, n3, c3, rfl, hs3, hb3, _⟩
      have HB3 := keep (HB2.out.trans (hb3.mono HB2.out.size))
      have HS3 := keep hs3
      clear hb3 hs3
      go_wp2_with fail
      refine (put8_any A3 n3 c3 _ s2 HR.out.1.1 HR.out.1.2 w3 HS3.out (by have := HS3.out.len; simp at this; omega)).mono ?_
      rintro e w4 ⟨A4, n4, c4, rfl, hs4, hb4, _⟩
      have HB4 := keep (HB3.out.trans (hb4.mono HB3.out.size))
      have HS4 := keep hs4
      obtain ⟨x0, x1, x2, x3, x4, x5⟩ := HX.out w4 HB4.out
      clear hb4 hs4 p0 p1 p2 p3 p4 p5
      go_wp2_with fail
      refine (put16_any A4 n4 c4 _ yq HR.out.2.1.1 HR.out.2.1.2 w4 HS4.out (by have := HS4.out.len; simp at this; omega)).mono ?_
      rintro e w5 ⟨A5, n5, c5, rfl, hs5, hb5, _⟩
      have HB5 := keep (HB4.out.trans (hb5.mono HB4.out.size))
      have HS5 := keep hs5
      have HS0 := keep (show ∀ W : World, Below w5.heap.size w5 W → W.cell? ⟨w.heap.size, 3, none⟩ = some (.int .u32 yt) ∧ W.cell? ⟨w.heap.size, 4, none⟩ = some (.int .u32 yo) from fun W hb => ⟨(HX.out W (HB5.out.trans (hb.mono HB5.out.size))).2.2.2.1, (HX.out W (HB5.out.trans (hb.mono HB5.out.size))).2.2.2.2.1⟩)
      have HL5 := keep (show n5 = 4 from by have := HS5.out.len; simpa using this)
      clear hb5 hs5 x0 x1 x2 x3 x4 x5
      go_wp2_with fail
      refine wp_region_held_drew (S := (fun w' => w'.cell? ⟨w.heap.size, 3, none⟩ = some (.int .u32 yt) ∧ w'.cell? ⟨w.heap.size, 4, none⟩ = some (.int .u32 yo))) (by kernel_rfl) (HS0.out _ (Below.refl _ w5).drew) (fun hHeld => ?_)
      refine wpAnyH_take (i := 0) (oi := ⟨some 25, _, _, _, _, _⟩) (v := ?vf1x0) rfl (by kernel_rfl) (by kernel_rfl) (by kernel_rfl) (fun _ _ _ h => h) (Or.inl ⟨by rfl, ?hyf1x0⟩) (by assumption) ?restf1x0
      case hyf1x0 => (intro wz hSw; (try dsimp only at hSw); go_simp <;> (try with_reducible rfl))
      try simp only [Act.put, List.setIfInBounds_toArray, List.set_cons_zero, List.set_cons_succ]
      refine wpAnyH_take (i := 1) (oi := ⟨some 26, _, _, _, _, _⟩) (v := ?vf2x1) rfl (by kernel_rfl) (by kernel_rfl) (by kernel_rfl) (fun _ _ _ h => h) (Or.inl ⟨by rfl, ?hyf2x1⟩) (by assumption) ?restf2x1
      case hyf2x1 => (intro wz hSw; (try dsimp only at hSw); go_simp <;> (try with_reducible rfl))
      try simp only [Act.put, List.setIfInBounds_toArray, List.set_cons_zero, List.set_cons_succ]
      refine wpAnyH_take (i := 2) (oi := ⟨some 27, _, _, _, _, _⟩) (v := ?vf3x2) rfl (by kernel_rfl) (by kernel_rfl) (by kernel_rfl) (fun _ _ _ h => h) (Or.inl ⟨by rfl, ?hyf3x2⟩) (by assumption) ?restf3x2
      case hyf3x2 => (intro wz hSw; (try dsimp only at hSw); go_simp <;> (try with_reducible rfl))
      try simp only [Act.put, List.setIfInBounds_toArray, List.set_cons_zero, List.set_cons_succ]
      refine wpAnyH_take (i := 4) (oi := ⟨some 29, _, _, _, _, _⟩) (v := ?vf4x4) rfl (by kernel_rfl) (by kernel_rfl) (by kernel_rfl) (fun _ _ _ h => h) (Or.inl ⟨by rfl, ?hyf4x4⟩) (by assumption) ?restf4x4
      case hyf4x4 => (intro wz hSw; (try dsimp only at hSw); go_simp <;> (try with_reducible rfl))
      try simp only [Act.put, List.setIfInBounds_toArray, List.set_cons_zero, List.set_cons_succ]
      refine wpAnyH_take (i := 5) (oi := ⟨some 30, _, _, _, _, _⟩) (v := ?vf5x5) rfl (by kernel_rfl) (by kernel_rfl) (by kernel_rfl) (fun _ _ _ h => h) (Or.inl ⟨by rfl, ?hyf5x5⟩) (by assumption) ?restf5x5
      case hyf5x5 => (intro wz hSw; (try dsimp only at hSw); go_simp <;> (try with_reducible rfl))
      try simp only [Act.put, List.setIfInBounds_toArray, List.set_cons_zero, List.set_cons_succ]
      refine wpAnyH_ready (rs := [3]) (by kernel_rfl) (by simp) (AllReadyH.cons (o := ⟨some 28, _, _, _, _, _⟩) rfl (fun K hK => ?_) AllReadyH.nil)
      go_simp
      go_at_call 27
      refine (put32_any A5 n5 c5 _ yt HR.out.2.2.1.1 HR.out.2.2.1.2 _ (HS5.out.step (Below.refl _ w5).drew) (by have := HL5.out; omega)).mono ?_
      rintro e w6 ⟨A6, n6, c6, rfl, hs6, hb6, _⟩
      have HB6 := keep (show Below w5.heap.size w5 w6 from (Below.refl _ w5).drew.trans (hb6.mono (Nat.le_refl _)))
      have HS6 := keep hs6
      have HL6 := keep (show n6 = 8 from by have := HS6.out.len; simpa using this)
      clear hb6 hs6
      (try go_wp2_with fail)
      refine hK.out _ _ (HS0.out _ HB6.out) (fun hHeld => ?_)
      clear hK K
      try simp only [Act.put, List.setIfInBounds_toArray, List.set_cons_zero, List.set_cons_succ]
      refine wpAnyH_ready (rs := [6]) (by kernel_rfl) (by simp) (AllReadyH.cons (o := ⟨some 31, _, _, _, _, _⟩) rfl (fun K hK => ?_) AllReadyH.nil)
      go_simp
      go_at_call 27
      refine (put32_any A6 n6 c6 _ yo HR.out.2.2.2.1.1 HR.out.2.2.2.1.2 w6 HS6.out (by have := HL6.out; omega)).mono ?_
      rintro e w7 ⟨A7, n7, c7, rfl, hs7, hb7, ho7⟩
      have HZ7 := keep hb7.size
      have HB7 := keep (HB6.out.trans (hb7.mono HB6.out.size))
      rw [KE.out] at hs7 ho7
      have HS7 := keep hs7
      have HO7 := keep ho7.out
      have HL7 := keep (show n7 = 12 from hs7.len)
      clear hb7 hs7 ho7
      (try go_wp2_with fail)
      refine hK.out _ _ (HS0.out _ HB7.out) (fun hHeld => ?_)
      clear hK K
      try simp only [Act.put, List.setIfInBounds_toArray, List.set_cons_zero, List.set_cons_succ]
      refine wpAnyH_take (i := 7) (oi := ⟨some 6, _, _, _, _, _⟩) (v := ?vf6x7) rfl (by kernel_rfl) (by kernel_rfl) (by kernel_rfl) (fun _ _ _ h => h) (Or.inl ⟨by rfl, ?hyf6x7⟩) (by assumption) ?restf6x7
      case hyf6x7 => (intro wz hSw; (try dsimp only at hSw); go_simp <;> (try with_reducible rfl))
      try simp only [Act.put, List.setIfInBounds_toArray, List.set_cons_zero, List.set_cons_succ]
      refine wpAnyH_done (by kernel_rfl) ?_ _
      obtain rfl := HL7.out
      have HB7w := keep (HB5.out.trans (HB7.out.mono HB5.out.size))
      obtain ⟨x0, x1, x2, x3, x4, x5⟩ := HX.out w7 HB7w.out
      have HB7ww := keep (HB1.out.trans (HB7w.out.mono HB1.out.size))
      have HD7 := keep (HD.out.step HB7ww.out)
      have hn1 := HR.out.2.2.2.2.1
      have HLW := keep (show w6.heap.size ≤ w7.heap.size ∧ w.heap.size ≤ w6.heap.size from ⟨HZ7.out, by have := HB1.out.size; have := HB5.out.size; have := HB6.out.size; omega⟩)
      clear x0 x1 x2 x3 x4
      go_wp2_with (at_builtin; refine wpl_append rfl (.tmp 32) (.tmp 34) 24 rfl w6.heap.size 5 i0 (.int .u8 0) Try.underlying24 hi0 hz0 hz1 rfl (.slice A7 12 c7) 12 (bc (encH _)) rfl HO7.out A n c (bc bs) rfl (by rw [bc_length]; exact HD.out.len) HD7.out.br.sr (bc_one bs) (by have := HR.out.2.2.2.2.1; unfold maxLen; omega) (by rw [hz2]; have := HR.out.2.2.2.2.1; omega) HLW.out.1 ?_; intro A8 c8 w8 ho8 hb8)
      go_ret2
      rw [← bc_append] at ho8
      exact ⟨A8, 12 + n, c8, rfl, BS.of_own ho8.out, HB7ww.out.trans (hb8.mono HLW.out.2)⟩
    | true =>
      have e2 : s2 = yk + 128 := by rw [← HS2.out]; rfl
      rw [← e2] at hor
      clear e2
      go_enter Try.func9, Try.ntmps9
      go_wp2_with (go_at_call 24; refine (KF.out _).mono ?_; rintro e w2 ⟨rfl, hb2⟩; have HB2 := keep hb2; obtain ⟨p0, p1, p2, p3, p4, p5⟩ := HX.out w2 hb2; clear hb2)
      refine (put8_any none 0 0 [] 128 (by decide) (by decide) w2 (BS.nil w2) (by decide)).mono ?_
      rintro e w3 ⟨A3, n3, c3, rfl, hs3, hb3, _⟩
      have HB3 := keep (HB2.out.trans (hb3.mono HB2.out.size))
      have HS3 := keep hs3
      clear hb3 hs3
      go_wp2_with fail
      refine (put8_any A3 n3 c3 _ s2 HR.out.1.1 HR.out.1.2 w3 HS3.out (by have := HS3.out.len; simp at this; omega)).mono ?_
      rintro e w4 ⟨A4, n4, c4, rfl, hs4, hb4, _⟩
      have HB4 := keep (HB3.out.trans (hb4.mono HB3.out.size))
      have HS4 := keep hs4
      obtain ⟨x0, x1, x2, x3, x4, x5⟩ := HX.out w4 HB4.out
      clear hb4 hs4 p0 p1 p2 p3 p4 p5
      go_wp2_with fail
      refine (put16_any A4 n4 c4 _ yq HR.out.2.1.1 HR.out.2.1.2 w4 HS4.out (by have := HS4.out.len; simp at this; omega)).mono ?_
      rintro e w5 ⟨A5, n5, c5, rfl, hs5, hb5, _⟩
      have HB5 := keep (HB4.out.trans (hb5.mono HB4.out.size))
      have HS5 := keep hs5
      have HS0 := keep (show ∀ W : World, Below w5.heap.size w5 W → W.cell? ⟨w.heap.size, 3, none⟩ = some (.int .u32 yt) ∧ W.cell? ⟨w.heap.size, 4, none⟩ = some (.int .u32 yo) from fun W hb => ⟨(HX.out W (HB5.out.trans (hb.mono HB5.out.size))).2.2.2.1, (HX.out W (HB5.out.trans (hb.mono HB5.out.size))).2.2.2.2.1⟩)
      have HL5 := keep (show n5 = 4 from by have := HS5.out.len; simpa using this)
      clear hb5 hs5 x0 x1 x2 x3 x4 x5
      go_wp2_with fail
      refine wp_region_held_drew (S := (fun w' => w'.cell? ⟨w.heap.size, 3, none⟩ = some (.int .u32 yt) ∧ w'.cell? ⟨w.heap.size, 4, none⟩ = some (.int .u32 yo))) (by kernel_rfl) (HS0.out _ (Below.refl _ w5).drew) (fun hHeld => ?_)
      refine wpAnyH_take (i := 0) (oi := ⟨some 25, _, _, _, _, _⟩) (v := ?vt1x0) rfl (by kernel_rfl) (by kernel_rfl) (by kernel_rfl) (fun _ _ _ h => h) (Or.inl ⟨by rfl, ?hyt1x0⟩) (by assumption) ?restt1x0
      case hyt1x0 => (intro wz hSw; (try dsimp only at hSw); go_simp <;> (try with_reducible rfl))
      try simp only [Act.put, List.setIfInBounds_toArray, List.set_cons_zero, List.set_cons_succ]
      refine wpAnyH_take (i := 1) (oi := ⟨some 26, _, _, _, _, _⟩) (v := ?vt2x1) rfl (by kernel_rfl) (by kernel_rfl) (by kernel_rfl) (fun _ _ _ h => h) (Or.inl ⟨by rfl, ?hyt2x1⟩) (by assumption) ?restt2x1
      case hyt2x1 => (intro wz hSw; (try dsimp only at hSw); go_simp <;> (try with_reducible rfl))
      try simp only [Act.put, List.setIfInBounds_toArray, List.set_cons_zero, List.set_cons_succ]
      refine wpAnyH_take (i := 2) (oi := ⟨some 27, _, _, _, _, _⟩) (v := ?vt3x2) rfl (by kernel_rfl) (by kernel_rfl) (by kernel_rfl) (fun _ _ _ h => h) (Or.inl ⟨by rfl, ?hyt3x2⟩) (by assumption) ?restt3x2
      case hyt3x2 => (intro wz hSw; (try dsimp only at hSw); go_simp <;> (try with_reducible rfl))
      try simp only [Act.put, List.setIfInBounds_toArray, List.set_cons_zero, List.set_cons_succ]
      refine wpAnyH_take (i := 4) (oi := ⟨some 29, _, _, _, _, _⟩) (v := ?vt4x4) rfl (by kernel_rfl) (by kernel_rfl) (by kernel_rfl) (fun _ _ _ h => h) (Or.inl ⟨by rfl, ?hyt4x4⟩) (by assumption) ?restt4x4
      case hyt4x4 => (intro wz hSw; (try dsimp only at hSw); go_simp <;> (try with_reducible rfl))
      try simp only [Act.put, List.setIfInBounds_toArray, List.set_cons_zero, List.set_cons_succ]
      refine wpAnyH_take (i := 5) (oi := ⟨some 30, _, _, _, _, _⟩) (v := ?vt5x5) rfl (by kernel_rfl) (by kernel_rfl) (by kernel_rfl) (fun _ _ _ h => h) (Or.inl ⟨by rfl, ?hyt5x5⟩) (by assumption) ?restt5x5
      case hyt5x5 => (intro wz hSw; (try dsimp only at hSw); go_simp <;> (try with_reducible rfl))
      try simp only [Act.put, List.setIfInBounds_toArray, List.set_cons_zero, List.set_cons_succ]
      refine wpAnyH_ready (rs := [3]) (by kernel_rfl) (by simp) (AllReadyH.cons (o := ⟨some 28, _, _, _, _, _⟩) rfl (fun K hK => ?_) AllReadyH.nil)
      go_simp
      go_at_call 27
      refine (put32_any A5 n5 c5 _ yt HR.out.2.2.1.1 HR.out.2.2.1.2 _ (HS5.out.step (Below.refl _ w5).drew) (by have := HL5.out; omega)).mono ?_
      rintro e w6 ⟨A6, n6, c6, rfl, hs6, hb6, _⟩
      have HB6 := keep (show Below w5.heap.size w5 w6 from (Below.refl _ w5).drew.trans (hb6.mono (Nat.le_refl _)))
      have HS6 := keep hs6
      have HL6 := keep (show n6 = 8 from by have := HS6.out.len; simpa using this)
      clear hb6 hs6
      (try go_wp2_with fail)
      refine hK.out _ _ (HS0.out _ HB6.out) (fun hHeld => ?_)
      clear hK K
      try simp only [Act.put, List.setIfInBounds_toArray, List.set_cons_zero, List.set_cons_succ]
      refine wpAnyH_ready (rs := [6]) (by kernel_rfl) (by simp) (AllReadyH.cons (o := ⟨some 31, _, _, _, _, _⟩) rfl (fun K hK => ?_) AllReadyH.nil)
      go_simp
      go_at_call 27
      refine (put32_any A6 n6 c6 _ yo HR.out.2.2.2.1.1 HR.out.2.2.2.1.2 w6 HS6.out (by have := HL6.out; omega)).mono ?_
      rintro e w7 ⟨A7, n7, c7, rfl, hs7, hb7, ho7⟩
      have HZ7 := keep hb7.size
      have HB7 := keep (HB6.out.trans (hb7.mono HB6.out.size))
      rw [KE.out] at hs7 ho7
      have HS7 := keep hs7
      have HO7 := keep ho7.out
      have HL7 := keep (show n7 = 12 from hs7.len)
      clear hb7 hs7 ho7
      (try go_wp2_with fail)
      refine hK.out _ _ (HS0.out _ HB7.out) (fun hHeld => ?_)
      clear hK K
      try simp only [Act.put, List.setIfInBounds_toArray, List.set_cons_zero, List.set_cons_succ]
      refine wpAnyH_take (i := 7) (oi := ⟨some 6, _, _, _, _, _⟩) (v := ?vt6x7) rfl (by kernel_rfl) (by kernel_rfl) (by kernel_rfl) (fun _ _ _ h => h) (Or.inl ⟨by rfl, ?hyt6x7⟩) (by assumption) ?restt6x7
      case hyt6x7 => (intro wz hSw; (try dsimp only at hSw); go_simp <;> (try with_reducible rfl))
      try simp only [Act.put, List.setIfInBounds_toArray, List.set_cons_zero, List.set_cons_succ]
      refine wpAnyH_done (by kernel_rfl) ?_ _
      obtain rfl := HL7.out
      have HB7w := keep (HB5.out.trans (HB7.out.mono HB5.out.size))
      obtain ⟨x0, x1, x2, x3, x4, x5⟩ := HX.out w7 HB7w.out
      have HB7ww := keep (HB1.out.trans (HB7w.out.mono HB1.out.size))
      have HD7 := keep (HD.out.step HB7ww.out)
      have hn1 := HR.out.2.2.2.2.1
      have HLW := keep (show w6.heap.size ≤ w7.heap.size ∧ w.heap.size ≤ w6.heap.size from ⟨HZ7.out, by have := HB1.out.size; have := HB5.out.size; have := HB6.out.size; omega⟩)
      clear x0 x1 x2 x3 x4
      go_wp2_with (at_builtin; refine wpl_append rfl (.tmp 32) (.tmp 34) 24 rfl w6.heap.size 5 i0 (.int .u8 0) Try.underlying24 hi0 hz0 hz1 rfl (.slice A7 12 c7) 12 (bc (encH _)) rfl HO7.out A n c (bc bs) rfl (by rw [bc_length]; exact HD.out.len) HD7.out.br.sr (bc_one bs) (by have := HR.out.2.2.2.2.1; unfold maxLen; omega) (by rw [hz2]; have := HR.out.2.2.2.2.1; omega) HLW.out.1 ?_; intro A8 c8 w8 ho8 hb8)
      go_ret2
      rw [← bc_append] at ho8
      exact ⟨A8, 12 + n, c8, rfl, BS.of_own ho8.out, HB7ww.out.trans (hb8.mono HLW.out.2)⟩
end Go.Proofs.Ytacmfoljbjdcjaa
