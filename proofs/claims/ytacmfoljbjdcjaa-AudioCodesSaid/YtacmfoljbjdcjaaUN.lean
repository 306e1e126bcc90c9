/- Law 20: any packet's octets, and which packet any octets are (AudioCodes). -/
import Derived.Test.YtacmfoljbjdcjaaUM
namespace Go.Proofs.Ytacmfoljbjdcjaa
open Go.RowKit Go.Maps
set_option linter.unusedVariables false
set_option linter.unusedSimpArgs false

set_option maxHeartbeats 8000000 in
set_option maxRecDepth 1000000 in
theorem audioCodes_walk (y : Pv) (B : Option Addr) (m d : Nat) (bs : List UInt8) (w : World) (hy : PA w y) (hB : BS w B m d bs) :
    Calls Try.prog 3 #[.agg y.cells.toArray, .slice B m d] w fun e w' => e = .returned (.bool true) ∧ Below w.heap.size w w' := by
  obtain ⟨ym, yk, yq, yt, yo, ⟨y1, y2, y3⟩, yb⟩ := y
  have HY := keep hy
  have hyl := hy.1.len
  dsimp only at hyl
  unfold Pv.cells
  dsimp only
  have b1 := below_lay w (.cells #[.bool ym, .int .u8 yk, .int .u16 yq, .int .u32 yt, .int .u32 yo, .slice y1 y2 y3] 26)
  have HX := keep (show ∀ W, Below (w.alloc (.cells #[.bool ym, .int .u8 yk, .int .u16 yq, .int .u32 yt, .int .u32 yo, .slice y1 y2 y3] 26)).heap.size (w.alloc (.cells #[.bool ym, .int .u8 yk, .int .u16 yq, .int .u32 yt, .int .u32 yo, .slice y1 y2 y3] 26)) W → (W.cell? ⟨w.heap.size, 0, none⟩ = some (.bool ym) ∧ W.cell? ⟨w.heap.size, 1, none⟩ = some (.int .u8 yk) ∧ W.cell? ⟨w.heap.size, 2, none⟩ = some (.int .u16 yq) ∧ W.cell? ⟨w.heap.size, 3, none⟩ = some (.int .u32 yt) ∧ W.cell? ⟨w.heap.size, 4, none⟩ = some (.int .u32 yo) ∧ W.cell? ⟨w.heap.size, 5, none⟩ = some (.slice y1 y2 y3)) ∧ Below w.heap.size w W from fun W hb => by
    have g := (hb.block w.heap.size (by simp)).trans (heap_alloc_new w (.cells #[.bool ym, .int .u8 yk, .int .u16 yq, .int .u32 yt, .int .u32 yo, .slice y1 y2 y3] 26))
    exact ⟨⟨upd_cell g 0 _ rfl, upd_cell g 1 _ rfl, upd_cell g 2 _ rfl, upd_cell g 3 _ rfl, upd_cell g 4 _ rfl, upd_cell g 5 _ rfl⟩, b1.trans (hb.mono b1.size)⟩)
  have KA := keep (awake_any (w.alloc (.cells #[.bool ym, .int .u8 yk, .int .u16 yq, .int .u32 yt, .int .u32 yo, .slice y1 y2 y3] 26)))
  clear hy b1
  by_cases h1 : 1500 < y2
  · have h1I : (1500 : Int) < (y2 : Int) := by omega
    clear h1 hB hyl
    go_enter Try.func3, Try.ntmps3
    go_wp2_with fail
    refine KA.out.mono ?_
    rintro e w1 ⟨rfl, hb1⟩
    obtain ⟨⟨p0, p1, p2, p3, p4, p5⟩, hbw⟩ := HX.out w1 hb1
    go_wp2
    go_ret
    exact ⟨rfl, hbw⟩
  have h1I : ¬ (1500 : Int) < (y2 : Int) := by omega
  by_cases h2 : 1500 < m
  · have h2I : (1500 : Int) < (m : Int) := by omega
    clear h1 h2 hB hyl
    go_enter Try.func3, Try.ntmps3
    go_wp2_with fail
    refine KA.out.mono ?_
    rintro e w1 ⟨rfl, hb1⟩
    obtain ⟨⟨p0, p1, p2, p3, p4, p5⟩, hbw⟩ := HX.out w1 hb1
    go_wp2
    go_ret
    exact ⟨rfl, hbw⟩
  have h2I : ¬ (1500 : Int) < (m : Int) := by omega
  have HBB := keep hB
  have hm : m ≤ 1500 := by omega
  have HM := keep hm
  have hy2 : y2 ≤ 1500 := by omega
  have HY2 := keep (And.intro hy2 hyl)
  clear h1 h2 hB hm hy2 hyl
  have hy' : PA w ⟨ym, yk, yq, yt, yo, (y1, y2, y3), yb⟩ := HY.out
  have KE := keep fun W (hb : Below w.heap.size w W) => encode_any ⟨ym, yk, yq, yt, yo, (y1, y2, y3), yb⟩ W ⟨HY.out.1.step hb, HY.out.2⟩
  have KT := keep fun W => theirs_any ⟨ym, yk, yq, yt, yo, (y1, y2, y3), yb⟩ W
  have KR := keep fun W (hb : Below w.heap.size w W) => refEncode_any ⟨ym, yk, yq, yt, yo, (y1, y2, y3), yb⟩ W ⟨HY.out.1.step hb, HY.out.2⟩
  unfold EncP Pv.pk Pv.cells at KE KR
  unfold Pv.cells at KT
  dsimp only at KE KT KR
  have KD := keep fun W (hb : Below w.heap.size w W) => decode_any B m d bs W (HBB.out.step hb) (by have := HM.out; omega)
  have KQ := keep fun W (hb : Below w.heap.size w W) => refDecode_any B m d bs W (HBB.out.step hb) (by have := HM.out; omega)
  have KI := keep fun W (hb : Below w.heap.size w W) => Is_any B m d bs W (HBB.out.step hb)
  unfold DecP at KD KQ
  obtain ⟨fe, hfe⟩ : ∃ fe, fE yk yb.length = fe := ⟨_, rfl⟩
  obtain ⟨de, hde⟩ : ∃ de, decE bs = de := ⟨_, rfl⟩
  obtain ⟨xs, hxs⟩ : ∃ xs, encD ⟨ym, yk, yq, yt, yo, yb⟩ = xs := ⟨_, rfl⟩
  obtain ⟨dk, hdk⟩ : ∃ dk, decD bs = dk := ⟨_, rfl⟩
  rw [hfe, hxs] at KE KR
  rw [hde, hdk] at KD KQ
  have HIB := keep (show isB bs = isB bs from rfl)
  clear hfe hde hxs hdk hy'
  obtain ⟨dm, dkd, dq, dt, dso, db⟩ := dk
  dsimp only at KD KQ
  have HE0 := keep (show bs = [] ∨ ∃ x r, bs = x :: r from by cases bs with | nil => exact .inl rfl | cons x r => exact .inr ⟨x, r, rfl⟩)
  rcases HE0.out with hbs | ⟨x, r, hbs⟩
  · subst hbs
    have hm0 : m = 0 := HBB.out.len
    subst hm0
    have hmI : ¬ (0 : Int) < ((0 : Nat) : Int) := by decide
    go_enter Try.func3, Try.ntmps3
    go_wp2_with fail
    refine KA.out.mono ?_
    rintro e w1 ⟨rfl, hb1⟩
    have HB1 := keep hb1
    obtain ⟨⟨p0, p1, p2, p3, p4, p5⟩, hbw⟩ := HX.out w1 hb1
    have HW1 := keep hbw
    clear hb1 hbw
    go_wp2_with fail
    refine (KE.out _ HW1.out).mono ?_
    rintro e w2 ⟨A2, n2, c2, rfl, hs2, hb2⟩
    have HS2 := keep hs2
    have HB2 := keep (HB1.out.trans (hb2.mono HB1.out.size))
    obtain ⟨⟨q0, q1, q2, q3, q4, q5⟩, hbw⟩ := HX.out w2 HB2.out
    have HW2 := keep hbw
    clear hs2 hb2 hbw p0 p1 p2 p3 p4 p5 KE
    go_wp2_with fail
    refine (KT.out _).mono ?_
    rintro e w3 ⟨rfl, hb3⟩
    have HB23 := keep hb3
    have HW3 := keep (HW2.out.trans (hb3.mono HW2.out.size))
    clear hb3 KT q0 q1 q2 q3 q4 q5
    go_wp2_with fail
    refine (KR.out _ HW3.out).mono ?_
    rintro e w4 ⟨A4, n4, c4, rfl, hs4, hb4⟩
    have HS4 := keep hs4
    have HB24 := keep (HB23.out.trans (hb4.mono HB23.out.size))
    have HW4 := keep (HW3.out.trans (hb4.mono HW3.out.size))
    clear hs4 hb4 KR
    go_wp2_with fail
    refine (KD.out _ HW4.out).mono ?_
    rintro e w5 ⟨A5, n5, c5, rfl, hs5, hb5⟩
    have HS5 := keep hs5
    have HB45 := keep hb5
    have HW5 := keep (HW4.out.trans (hb5.mono HW4.out.size))
    clear hs5 hb5 KD
    have LQ := keep (below_lay w5 (.cells #[.bool dm, .int .u8 dkd, .int .u16 dq, .int .u32 dt, .int .u32 dso, .slice A5 n5 c5] 26))
    have HW5q := keep (HW5.out.trans (LQ.out.mono HW5.out.size))
    have HQ0 := keep (heap_alloc_new w5 (.cells #[.bool dm, .int .u8 dkd, .int .u16 dq, .int .u32 dt, .int .u32 dso, .slice A5 n5 c5] 26))
    go_wp2_with fail
    refine (KQ.out _ HW5q.out).mono ?_
    rintro e w6 ⟨A6, n6, c6, rfl, hs6, hb6⟩
    have HS6 := keep hs6
    have HB56 := keep (LQ.out.trans (hb6.mono LQ.out.size))
    have HW6 := keep (HW5q.out.trans (hb6.mono HW5q.out.size))
    have HQ6 := keep (show w6.heap[w5.heap.size]? = some (.cells #[.bool dm, .int .u8 dkd, .int .u16 dq, .int .u32 dt, .int .u32 dso, .slice A5 n5 c5] 26) from (hb6.block _ (by simp)).trans HQ0.out)
    clear hs6 hb6 KQ HQ0 LQ
    have LR := keep (below_lay w6 (.cells #[.bool dm, .int .u8 dkd, .int .u16 dq, .int .u32 dt, .int .u32 dso, .slice A6 n6 c6] 32))
    have HW7 := keep (HW6.out.trans (LR.out.mono HW6.out.size))
    have HQ7 := keep (show (w6.alloc (.cells #[.bool dm, .int .u8 dkd, .int .u16 dq, .int .u32 dt, .int .u32 dso, .slice A6 n6 c6] 32)).heap[w5.heap.size]? = some (.cells #[.bool dm, .int .u8 dkd, .int .u16 dq, .int .u32 dt, .int .u32 dso, .slice A5 n5 c5] 26) from (LR.out.block _ (Array.getElem?_eq_some_iff.1 HQ6.out).1).trans HQ6.out)
    obtain ⟨q0, q1, q2, q3, q4, q5⟩ : _ ∧ _ ∧ _ ∧ _ ∧ _ ∧ _ := ⟨upd_cell HQ6.out 0 _ rfl, upd_cell HQ6.out 1 _ rfl, upd_cell HQ6.out 2 _ rfl, upd_cell HQ6.out 3 _ rfl, upd_cell HQ6.out 4 _ rfl, upd_cell HQ6.out 5 _ rfl⟩
    have hlt5 : w5.heap.size < w6.heap.size := (Array.getElem?_eq_some_iff.1 HQ6.out).1
    have KSM := keep (same_ret A2 A4 n2 n4 c2 c4 xs xs (w6.alloc (.cells #[.bool dm, .int .u8 dkd, .int .u16 dq, .int .u32 dt, .int .u32 dso, .slice A6 n6 c6] 32)) (HS2.out.step (HB24.out.trans ((HB45.out.trans ((HB56.out.trans (LR.out.mono HB56.out.size)).mono HB45.out.size)).mono HB24.out.size))) (HS4.out.step (HB45.out.trans ((HB56.out.trans (LR.out.mono HB56.out.size)).mono HB45.out.size))))
    rw [beq_self_eq_true] at KSM
    have KAL := keep (alike_same ⟨dm, dkd, dq, dt, dso, db⟩ A5 n5 c5 A6 n6 c6 (w6.alloc (.cells #[.bool dm, .int .u8 dkd, .int .u16 dq, .int .u32 dt, .int .u32 dso, .slice A6 n6 c6] 32)) (HS5.out.step (HB56.out.trans (LR.out.mono HB56.out.size))) (HS6.out.step LR.out))
    dsimp only at KAL
    go_wp2_with fail
    refine KSM.out.mono ?_
    rintro e w7 ⟨rfl, rfl⟩
    clear KSM
    go_wp2_with fail
    refine KAL.out.mono ?_
    rintro e w8 ⟨rfl, hb8⟩
    have HW8 := keep (HW7.out.trans (hb8.mono HW7.out.size))
    clear hb8 KAL q0 q1 q2 q3 q4 q5 hlt5
    go_wp2_with fail
    refine (KI.out _ HW8.out).mono ?_
    rintro e w9 ⟨rfl, rfl⟩
    rw [show isB [] = false from rfl]
    go_wp2_with fail
    go_ret
    exact ⟨by simp, HW8.out⟩
  · have hmI : (0 : Int) < (m : Int) := by have := HBB.out.len; rw [hbs] at this; simp at this; omega
    obtain ⟨b, o, hBe, hblt, hbc⟩ := HBB.out.br.at_ (j := 0) (by rw [hbs]; simp)
    subst hBe
    have HC := keep (show ∀ W, Below w.heap.size w W → W.cell? ⟨b, o, none⟩ = some (.int .u8 (x.toNat : Int)) from fun W hb => by
      have := (hb.cell (p := ⟨b, o + 0, none⟩) hblt).trans hbc
      rw [Nat.add_zero] at this
      rw [this]
      subst hbs
      rfl)
    obtain ⟨v, hv⟩ : ∃ v : Int, (x.toNat : Int) = v := ⟨_, rfl⟩
    rw [hv] at HC
    have hv0 : 0 ≤ v := by omega
    have hvq : v.tdiv 64 = v / 64 := Int.tdiv_eq_ediv_of_nonneg hv0
    have hv1 : v < 256 := by have := x.toNat_lt; omega
    have hvw : IntKind.u8.wrap (v / 64) = v / 64 := by simp [IntKind.wrap, IntKind.signed, IntKind.bits]; omega
    have hib : isB bs = (v / 64 == 2) := by
      rw [hbs]
      show decide (x.toNat / 64 = 2) = (v / 64 == 2)
      rw [← hv]
      rw [Bool.eq_iff_iff]
      simp only [decide_eq_true_eq, beq_iff_eq]
      omega
    obtain ⟨ib, hib2⟩ : ∃ ib : Bool, (v / 64 == 2) = ib := ⟨_, rfl⟩
    rw [hib, hib2] at KI
    clear hblt hbc hv hib hbs
    go_enter Try.func3, Try.ntmps3
    go_wp2_with fail
    refine KA.out.mono ?_
    rintro e w1 ⟨rfl, hb1⟩
    have HB1 := keep hb1
    obtain ⟨⟨p0, p1, p2, p3, p4, p5⟩, hbw⟩ := HX.out w1 hb1
    have HW1 := keep hbw
    clear hb1 hbw
    go_wp2_with fail
    refine (KE.out _ HW1.out).mono ?_
    rintro e w2 ⟨A2, n2, c2, rfl, hs2, hb2⟩
    have HS2 := keep hs2
    have HB2 := keep (HB1.out.trans (hb2.mono HB1.out.size))
    obtain ⟨⟨q0, q1, q2, q3, q4, q5⟩, hbw⟩ := HX.out w2 HB2.out
    have HW2 := keep hbw
    clear hs2 hb2 hbw p0 p1 p2 p3 p4 p5 KE
    go_wp2_with fail
    refine (KT.out _).mono ?_
    rintro e w3 ⟨rfl, hb3⟩
    have HB23 := keep hb3
    have HW3 := keep (HW2.out.trans (hb3.mono HW2.out.size))
    clear hb3 KT q0 q1 q2 q3 q4 q5
    go_wp2_with fail
    refine (KR.out _ HW3.out).mono ?_
    rintro e w4 ⟨A4, n4, c4, rfl, hs4, hb4⟩
    have HS4 := keep hs4
    have HB24 := keep (HB23.out.trans (hb4.mono HB23.out.size))
    have HW4 := keep (HW3.out.trans (hb4.mono HW3.out.size))
    clear hs4 hb4 KR
    go_wp2_with fail
    refine (KD.out _ HW4.out).mono ?_
    rintro e w5 ⟨A5, n5, c5, rfl, hs5, hb5⟩
    have HS5 := keep hs5
    have HB45 := keep hb5
    have HW5 := keep (HW4.out.trans (hb5.mono HW4.out.size))
    clear hs5 hb5 KD
    have LQ := keep (below_lay w5 (.cells #[.bool dm, .int .u8 dkd, .int .u16 dq, .int .u32 dt, .int .u32 dso, .slice A5 n5 c5] 26))
    have HW5q := keep (HW5.out.trans (LQ.out.mono HW5.out.size))
    have HQ0 := keep (heap_alloc_new w5 (.cells #[.bool dm, .int .u8 dkd, .int .u16 dq, .int .u32 dt, .int .u32 dso, .slice A5 n5 c5] 26))
    go_wp2_with fail
    refine (KQ.out _ HW5q.out).mono ?_
    rintro e w6 ⟨A6, n6, c6, rfl, hs6, hb6⟩
    have HS6 := keep hs6
    have HB56 := keep (LQ.out.trans (hb6.mono LQ.out.size))
    have HW6 := keep (HW5q.out.trans (hb6.mono HW5q.out.size))
    have HQ6 := keep (show w6.heap[w5.heap.size]? = some (.cells #[.bool dm, .int .u8 dkd, .int .u16 dq, .int .u32 dt, .int .u32 dso, .slice A5 n5 c5] 26) from (hb6.block _ (by simp)).trans HQ0.out)
    clear hs6 hb6 KQ HQ0 LQ
    have LR := keep (below_lay w6 (.cells #[.bool dm, .int .u8 dkd, .int .u16 dq, .int .u32 dt, .int .u32 dso, .slice A6 n6 c6] 32))
    have HW7 := keep (HW6.out.trans (LR.out.mono HW6.out.size))
    have HQ7 := keep (show (w6.alloc (.cells #[.bool dm, .int .u8 dkd, .int .u16 dq, .int .u32 dt, .int .u32 dso, .slice A6 n6 c6] 32)).heap[w5.heap.size]? = some (.cells #[.bool dm, .int .u8 dkd, .int .u16 dq, .int .u32 dt, .int .u32 dso, .slice A5 n5 c5] 26) from (LR.out.block _ (Array.getElem?_eq_some_iff.1 HQ6.out).1).trans HQ6.out)
    obtain ⟨q0, q1, q2, q3, q4, q5⟩ : _ ∧ _ ∧ _ ∧ _ ∧ _ ∧ _ := ⟨upd_cell HQ6.out 0 _ rfl, upd_cell HQ6.out 1 _ rfl, upd_cell HQ6.out 2 _ rfl, upd_cell HQ6.out 3 _ rfl, upd_cell HQ6.out 4 _ rfl, upd_cell HQ6.out 5 _ rfl⟩
    have hlt5 : w5.heap.size < w6.heap.size := (Array.getElem?_eq_some_iff.1 HQ6.out).1
    have KSM := keep (same_ret A2 A4 n2 n4 c2 c4 xs xs (w6.alloc (.cells #[.bool dm, .int .u8 dkd, .int .u16 dq, .int .u32 dt, .int .u32 dso, .slice A6 n6 c6] 32)) (HS2.out.step (HB24.out.trans ((HB45.out.trans ((HB56.out.trans (LR.out.mono HB56.out.size)).mono HB45.out.size)).mono HB24.out.size))) (HS4.out.step (HB45.out.trans ((HB56.out.trans (LR.out.mono HB56.out.size)).mono HB45.out.size))))
    rw [beq_self_eq_true] at KSM
    have KAL := keep (alike_same ⟨dm, dkd, dq, dt, dso, db⟩ A5 n5 c5 A6 n6 c6 (w6.alloc (.cells #[.bool dm, .int .u8 dkd, .int .u16 dq, .int .u32 dt, .int .u32 dso, .slice A6 n6 c6] 32)) (HS5.out.step (HB56.out.trans (LR.out.mono HB56.out.size))) (HS6.out.step LR.out))
    dsimp only at KAL
    go_wp2_with fail
    refine KSM.out.mono ?_
    rintro e w7 ⟨rfl, rfl⟩
    clear KSM
    go_wp2_with fail
    refine KAL.out.mono ?_
    rintro e w8 ⟨rfl, hb8⟩
    have HW8 := keep (HW7.out.trans (hb8.mono HW7.out.size))
    clear hb8 KAL q0 q1 q2 q3 q4 q5 hlt5
    have c8 := HC.out w8 HW8.out
    go_wp2_with fail
    refine (KI.out _ HW8.out).mono ?_
    rintro e w9 ⟨rfl, rfl⟩
    go_wp2_with fail
    go_ret
    exact ⟨by simp, HW8.out⟩
end Go.Proofs.Ytacmfoljbjdcjaa
