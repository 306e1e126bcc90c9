/- The walk of DcepBack. -/
import Derived.Test.YtapaiknghnbfmaaDoorDA
import Derived.Test.YtapaiknghnbfmaaDoorDM
import Derived.Test.YtapaiknghnbfmaaDoorDOp
namespace Go.Proofs.YtapaiknghnbfmaaDoor
open Go.RowKit
set_option linter.unusedVariables false

theorem Rp_size : (Tryd.prog.info? 32).map (·.size) = some 5 := by kernel_rfl
theorem theirs_any (o : OV) (w : World) : Calls Tryd.prog 14 #[.agg o.cells.toArray] w fun e w' => e = .returned (.agg o.cells.toArray) ∧ Below w.heap.size w w' := by
  have l1 := keep (up (below_lay w (.cells o.cells.toArray 25)) (below_lay _ (.cells o.cells.toArray 32)))
  have r1 := heap_alloc_new (w.alloc (.cells o.cells.toArray 25)) (.cells o.cells.toArray 32)
  rw [show (w.alloc (.cells o.cells.toArray 25)).heap.size = w.heap.size + 1 by simp] at r1
  have r1 := keep r1
  obtain ⟨k, p, l, la, pr⟩ := o
  dsimp only [OV.cells] at *
  go_enter Tryd.func14, Tryd.ntmps14
  go_wp2
  exact bodyPost_ret (results_cell_row rfl _ _ (w.heap.size + 1) _ (OV.cells ⟨k, p, l, la, pr⟩).toArray (0, 0) _ rfl r1.out Tryd.underlying32 rfl Rp_size) rfl ⟨rfl, l1.out⟩
theorem alike_yes (o : OV) (w : World) : Calls Tryd.prog 18 #[.agg o.cells.toArray, .agg o.cells.toArray] w fun e w' => e = .returned (.bool true) ∧ Below w.heap.size w w' := by
  have l1 := keep (up (below_lay w (.cells o.cells.toArray 25)) (below_lay _ (.cells o.cells.toArray 32)))
  obtain ⟨k, p, l, la, pr⟩ := o
  dsimp only [OV.cells] at *
  have e1 : (k == k) = true := by simp
  have e2 : (p == p) = true := by simp
  have e3 : (l == l) = true := by simp
  go_enter Tryd.func18, Tryd.ntmps18
  go_wp2
  go_ret
  exact ⟨rfl, l1.out⟩
theorem decO_ok {bs : List UInt8} (hn : bs.length ≤ 100000) : (decO bs).Ok := by
  by_cases h : decE bs = 0
  · have h1 : ¬ (bs ≠ [] ∧ bs.headD 0 ≠ 3) := fun hc => by rw [decE_form hc.1 hc.2] at h; cases h
    have h2 : ¬ bs.length < 12 := fun hc => by rw [decE_short h1 hc] at h; cases h
    have hO : decO bs = decF bs := by unfold decO; rw [if_pos h]
    rw [hO]
    exact dec_ok bs (by omega) hn
  · have hO : decO bs = oZ := by unfold decO; rw [if_neg h]
    rw [hO]
    exact oZ_ok
theorem encD_len (o : OV) : (encD o).length ≤ 600 := by
  by_cases h : encE o = 0
  · obtain ⟨_, h1, h2⟩ := encE_zero h
    have : encD o = encB o := by unfold encD; rw [if_pos h]
    rw [this, encB_len]
    omega
  · have : encD o = [] := by unfold encD; rw [if_neg h]
    rw [this]
    decide
set_option maxHeartbeats 8000000 in
theorem dcepBack_walk (o : OV) (A : Option Addr) (n c : Nat) (bs : List UInt8) (w : World) (ho : OW o) (hb : BS w A n c bs) (hT : Tabs w) :
    Calls Tryd.prog 5 #[.agg o.cells.toArray, .slice A n c] w fun e w' => e = .returned (.bool true) ∧ Below w.heap.size w w' := by
  have l1 := below_lay w (.cells o.cells.toArray 25)
  have O1 := keep (OB.laid w o 25)
  have LT1 := keep (show w.heap.size < (w.alloc (.cells o.cells.toArray 25)).heap.size by simp)
  have K0 := keep (awake_any _ (hT.step l1))
  have l1 := keep l1
  have HB := keep hb
  have hl := hb.len
  by_cases hbig : 1000 < o.la.size ∨ 1000 < o.pr.size ∨ 1000 < n
  · have hla := ho.la
    have hpr := ho.pr
    unfold maxLen at hla hpr
    obtain ⟨k, p, l, la, pr⟩ := o
    dsimp only [OV.cells] at *
    have p1 : ∀ W, Below (w.alloc (.cells #[.int .u8 k, .int .u16 p, .int .u32 l, .string la, .string pr] 25)).heap.size (w.alloc (.cells #[.int .u8 k, .int .u16 p, .int .u32 l, .string la, .string pr] 25)) W → W.cell? ⟨w.heap.size, 3, none⟩ = some (.string la) ∧ W.cell? ⟨w.heap.size, 4, none⟩ = some (.string pr) := fun W hW => ⟨(O1.out.step LT1.out hW).c3, (O1.out.step LT1.out hW).c4⟩
    have P1 := keep p1
    clear p1 hT ho hb hl
    by_cases h1 : 1000 < la.size
    · have i1 : (1000 : Int) < (la.size : Int) := by omega
      go_enter Tryd.func5, Tryd.ntmps5
      go_wp2_with (go_at_call 11; refine K0.out.mono ?_; rintro e w1 ⟨rfl, hb1⟩; obtain ⟨d3, d4⟩ := P1.out _ hb1; replace hb1 := keep hb1)
      go_ret
      exact ⟨rfl, up l1.out hb1.out⟩
    · have i1 : ¬ ((1000 : Int) < (la.size : Int)) := by omega
      by_cases h2 : 1000 < pr.size
      · have i2 : (1000 : Int) < (pr.size : Int) := by omega
        go_enter Tryd.func5, Tryd.ntmps5
        go_wp2_with (go_at_call 11; refine K0.out.mono ?_; rintro e w1 ⟨rfl, hb1⟩; obtain ⟨d3, d4⟩ := P1.out _ hb1; replace hb1 := keep hb1)
        go_ret
        exact ⟨rfl, up l1.out hb1.out⟩
      · have i2 : ¬ ((1000 : Int) < (pr.size : Int)) := by omega
        have i3 : (1000 : Int) < (n : Int) := by omega
        go_enter Tryd.func5, Tryd.ntmps5
        go_wp2_with (go_at_call 11; refine K0.out.mono ?_; rintro e w1 ⟨rfl, hb1⟩; obtain ⟨d3, d4⟩ := P1.out _ hb1; replace hb1 := keep hb1)
        go_ret
        exact ⟨rfl, up l1.out hb1.out⟩
  · have hOK : o.Ok := ho.ok (by omega) (by omega)
    have K1 := keep (fun W (hW : Below w.heap.size w W) => encode_any o hOK W (hT.step hW))
    have K2 := keep (fun A n c W (hW : Below w.heap.size w W) (h : BS W A n c (encD o)) => decode_any A n c _ W h (by have := encD_len o; have := h.len; omega) (hT.step hW))
    have K3 := keep (fun W (hW : Below w.heap.size w W) => decode_any A n c bs W (HB.out.step hW) (by omega) (hT.step hW))
    have K4 := keep (fun W (hW : Below w.heap.size w W) => encode_any (decO bs) (decO_ok (by omega)) W (hT.step hW))
    have K5 := keep (fun W => theirs_any o W)
    have K6 := keep (fun W => alike_yes o W)
    have i1 : ¬ ((1000 : Int) < (o.la.size : Int)) := by omega
    have i2 : ¬ ((1000 : Int) < (o.pr.size : Int)) := by omega
    have i3 : ¬ ((1000 : Int) < (n : Int)) := by omega
    have HOK := keep hOK
    unfold EncP RetF at K1 K4
    unfold DecP at K2 K3
    have HX1 := keep (fun h : encE o = 0 => dec_enc o hOK h)
    have HX2 := keep (fun h : decE bs = 0 => enc_dec h)
    clear hb hT ho hl hbig
    by_cases he : encE o = 0
    · obtain ⟨x1, x2⟩ := HX1.out he
      have x3 : encD o = encB o := by unfold encD; rw [if_pos he]
      rw [x3, he] at K1
      rw [x3, x1, x2] at K2
      clear x1 x2 x3 he
      by_cases hd : decE bs = 0
      · obtain ⟨y1, y2⟩ := HX2.out hd
        have y3 : encD (decO bs) = bs := by unfold encD; rw [if_pos y1]; exact y2
        rw [y3, y1] at K4
        rw [hd] at K3
        clear y1 y2 y3 hd HX1 HX2
        obtain ⟨Q, hQ⟩ : ∃ Q, decO bs = Q := ⟨_, rfl⟩
        rw [hQ] at K3 K4
        obtain ⟨k, p, l, la, pr⟩ := o
        obtain ⟨qk, qp, ql, qla, qpr⟩ := Q
        dsimp only [OV.cells, oZ] at *
        have HO2 := keep (fun W => OB.laid W ⟨k, p, l, la, pr⟩ 25)
        clear hQ
        go_enter Tryd.func5, Tryd.ntmps5
        go_wp2_with (first
          | (go_at_call 11; refine K0.out.mono ?_; rintro e w1 ⟨rfl, hb1⟩; have B1 := keep (up l1.out hb1); have P1 := keep (O1.out.step LT1.out hb1); have LT2 := keep (Nat.lt_of_lt_of_le LT1.out hb1.size); obtain ⟨d0, d1, d2, d3, d4⟩ := P1.out; dsimp only at d0 d1 d2 d3 d4; clear hb1)
          | (go_at_call 12; refine (K1.out _ B1.out).mono ?_; rintro e w2 ⟨A2, n2, c2, rfl, hs2, hb2, hf2⟩; have B2 := keep (up B1.out hb2); have P2 := keep (P1.out.step LT2.out hb2); have LT3 := keep (Nat.lt_of_lt_of_le LT2.out hb2.size); have H2 := keep hs2; clear hs2 hb2 hf2)
          | (go_at_call 16; refine (K2.out _ _ _ _ B2.out H2.out).mono ?_; rintro e w3 ⟨rfl, hb3⟩; have B3 := keep (up (up B2.out hb3) (below_lay w3 (.cells #[.int .u8 k, .int .u16 p, .int .u32 l, .string la, .string pr] 25))); have P3 := keep (P2.out.step LT3.out (up hb3 (below_lay w3 (.cells #[.int .u8 k, .int .u16 p, .int .u32 l, .string la, .string pr] 25)))); have LT4 := keep (Nat.lt_of_lt_of_le LT3.out (up hb3 (below_lay w3 (.cells #[.int .u8 k, .int .u16 p, .int .u32 l, .string la, .string pr] 25))).size); have R3 := keep (HO2.out w3); have LR3 := keep (show w3.heap.size < (w3.alloc (.cells #[.int .u8 k, .int .u16 p, .int .u32 l, .string la, .string pr] 25)).heap.size by simp); clear hb3))
        have BZ := keep (show ∀ W, Below (w3.alloc (.cells #[.int .u8 k, .int .u16 p, .int .u32 l, .string la, .string pr] 25)).heap.size (w3.alloc (.cells #[.int .u8 k, .int .u16 p, .int .u32 l, .string la, .string pr] 25)) W → W.cell? ⟨w3.heap.size, 0, none⟩ = some (.int .u8 k) ∧ W.cell? ⟨w3.heap.size, 1, none⟩ = some (.int .u16 p) ∧ W.cell? ⟨w3.heap.size, 2, none⟩ = some (.int .u32 l) ∧ W.cell? ⟨w3.heap.size, 3, none⟩ = some (.string la) ∧ W.cell? ⟨w3.heap.size, 4, none⟩ = some (.string pr) ∧ W.cell? ⟨w.heap.size, 0, none⟩ = some (.int .u8 k) ∧ W.cell? ⟨w.heap.size, 1, none⟩ = some (.int .u16 p) ∧ W.cell? ⟨w.heap.size, 2, none⟩ = some (.int .u32 l) ∧ W.cell? ⟨w.heap.size, 3, none⟩ = some (.string la) ∧ W.cell? ⟨w.heap.size, 4, none⟩ = some (.string pr) from fun W hW => by
          have r := R3.out.step LR3.out hW
          have q := P3.out.step LT4.out hW
          exact ⟨r.c0, r.c1, r.c2, r.c3, r.c4, q.c0, q.c1, q.c2, q.c3, q.c4⟩)
        have z0 := BZ.out _ ((Below.refl _ _).drew)
        go_region_held3 (fun w' => w'.cell? ⟨w3.heap.size, 0, none⟩ = some (.int .u8 k) ∧ w'.cell? ⟨w3.heap.size, 1, none⟩ = some (.int .u16 p) ∧ w'.cell? ⟨w3.heap.size, 2, none⟩ = some (.int .u32 l) ∧ w'.cell? ⟨w3.heap.size, 3, none⟩ = some (.string la) ∧ w'.cell? ⟨w3.heap.size, 4, none⟩ = some (.string pr) ∧ w'.cell? ⟨w.heap.size, 0, none⟩ = some (.int .u8 k) ∧ w'.cell? ⟨w.heap.size, 1, none⟩ = some (.int .u16 p) ∧ w'.cell? ⟨w.heap.size, 2, none⟩ = some (.int .u32 l) ∧ w'.cell? ⟨w.heap.size, 3, none⟩ = some (.string la) ∧ w'.cell? ⟨w.heap.size, 4, none⟩ = some (.string pr))
          (first | exact z0 | exact z1 | exact z2)
          (first
          | (go_at_call 14; refine (K5.out _).mono ?_; rintro e w4 ⟨rfl, hb4⟩; have Y4 := keep ((Below.refl _ _).drew.trans (hb4.mono (Nat.le_refl _))); have z1 := BZ.out _ Y4.out; clear hb4)
          | (go_at_call 18; refine (K6.out _).mono ?_; rintro e w5 ⟨rfl, hb5⟩; have Y5 := keep (Y4.out.trans (hb5.mono Y4.out.size)); have z2 := BZ.out _ Y5.out; clear hb5))
        have B5 := keep (up B3.out Y5.out)
        clear z0 z1 z2
        go_wp2_with (first
          | (go_at_call 16; refine (K3.out _ B5.out).mono ?_; rintro e w6 ⟨rfl, hb6⟩; have B6 := keep (up (up B5.out hb6) (below_lay w6 (.cells #[.int .u8 qk, .int .u16 qp, .int .u32 ql, .string qla, .string qpr] 25))); clear hb6)
          | (go_at_call 12; refine (K4.out _ B6.out).mono ?_; rintro e w7 ⟨A7, n7, c7, rfl, hs7, hb7, hf7⟩; have B7 := keep (up B6.out hb7); have H7 := keep hs7; clear hs7 hb7 hf7)
          | (go_at_call 15; refine (same_yes _ _ _ _ _ _ _ _ H7.out (HB.out.step B7.out)).mono ?_; rintro e w' ⟨rfl, rfl⟩))
        go_ret
        exact ⟨rfl, B7.out⟩
      · obtain ⟨E3, hE3⟩ : ∃ E, decE bs = E := ⟨_, rfl⟩
        rw [hE3] at K3 hd
        have g1 : (E3 == 0) = false := by simpa using hd
        have g2 : (E3 != 0) = true := by simpa using hd
        obtain ⟨E4, hE4⟩ : ∃ E, encE (decO bs) = E := ⟨_, rfl⟩
        obtain ⟨D4, hD4⟩ : ∃ E, encD (decO bs) = E := ⟨_, rfl⟩
        rw [hE4, hD4] at K4
        clear hE3 hE4 hD4 hd HX1 HX2
        obtain ⟨Q, hQ⟩ : ∃ Q, decO bs = Q := ⟨_, rfl⟩
        rw [hQ] at K3 K4
        obtain ⟨k, p, l, la, pr⟩ := o
        obtain ⟨qk, qp, ql, qla, qpr⟩ := Q
        dsimp only [OV.cells, oZ] at *
        have HO2 := keep (fun W => OB.laid W ⟨k, p, l, la, pr⟩ 25)
        clear hQ
        go_enter Tryd.func5, Tryd.ntmps5
        go_wp2_with (first
          | (go_at_call 11; refine K0.out.mono ?_; rintro e w1 ⟨rfl, hb1⟩; have B1 := keep (up l1.out hb1); have P1 := keep (O1.out.step LT1.out hb1); have LT2 := keep (Nat.lt_of_lt_of_le LT1.out hb1.size); obtain ⟨d0, d1, d2, d3, d4⟩ := P1.out; dsimp only at d0 d1 d2 d3 d4; clear hb1)
          | (go_at_call 12; refine (K1.out _ B1.out).mono ?_; rintro e w2 ⟨A2, n2, c2, rfl, hs2, hb2, hf2⟩; have B2 := keep (up B1.out hb2); have P2 := keep (P1.out.step LT2.out hb2); have LT3 := keep (Nat.lt_of_lt_of_le LT2.out hb2.size); have H2 := keep hs2; clear hs2 hb2 hf2)
          | (go_at_call 16; refine (K2.out _ _ _ _ B2.out H2.out).mono ?_; rintro e w3 ⟨rfl, hb3⟩; have B3 := keep (up (up B2.out hb3) (below_lay w3 (.cells #[.int .u8 k, .int .u16 p, .int .u32 l, .string la, .string pr] 25))); have P3 := keep (P2.out.step LT3.out (up hb3 (below_lay w3 (.cells #[.int .u8 k, .int .u16 p, .int .u32 l, .string la, .string pr] 25)))); have LT4 := keep (Nat.lt_of_lt_of_le LT3.out (up hb3 (below_lay w3 (.cells #[.int .u8 k, .int .u16 p, .int .u32 l, .string la, .string pr] 25))).size); have R3 := keep (HO2.out w3); have LR3 := keep (show w3.heap.size < (w3.alloc (.cells #[.int .u8 k, .int .u16 p, .int .u32 l, .string la, .string pr] 25)).heap.size by simp); clear hb3))
        have BZ := keep (show ∀ W, Below (w3.alloc (.cells #[.int .u8 k, .int .u16 p, .int .u32 l, .string la, .string pr] 25)).heap.size (w3.alloc (.cells #[.int .u8 k, .int .u16 p, .int .u32 l, .string la, .string pr] 25)) W → W.cell? ⟨w3.heap.size, 0, none⟩ = some (.int .u8 k) ∧ W.cell? ⟨w3.heap.size, 1, none⟩ = some (.int .u16 p) ∧ W.cell? ⟨w3.heap.size, 2, none⟩ = some (.int .u32 l) ∧ W.cell? ⟨w3.heap.size, 3, none⟩ = some (.string la) ∧ W.cell? ⟨w3.heap.size, 4, none⟩ = some (.string pr) ∧ W.cell? ⟨w.heap.size, 0, none⟩ = some (.int .u8 k) ∧ W.cell? ⟨w.heap.size, 1, none⟩ = some (.int .u16 p) ∧ W.cell? ⟨w.heap.size, 2, none⟩ = some (.int .u32 l) ∧ W.cell? ⟨w.heap.size, 3, none⟩ = some (.string la) ∧ W.cell? ⟨w.heap.size, 4, none⟩ = some (.string pr) from fun W hW => by
          have r := R3.out.step LR3.out hW
          have q := P3.out.step LT4.out hW
          exact ⟨r.c0, r.c1, r.c2, r.c3, r.c4, q.c0, q.c1, q.c2, q.c3, q.c4⟩)
        have z0 := BZ.out _ ((Below.refl _ _).drew)
        go_region_held3 (fun w' => w'.cell? ⟨w3.heap.size, 0, none⟩ = some (.int .u8 k) ∧ w'.cell? ⟨w3.heap.size, 1, none⟩ = some (.int .u16 p) ∧ w'.cell? ⟨w3.heap.size, 2, none⟩ = some (.int .u32 l) ∧ w'.cell? ⟨w3.heap.size, 3, none⟩ = some (.string la) ∧ w'.cell? ⟨w3.heap.size, 4, none⟩ = some (.string pr) ∧ w'.cell? ⟨w.heap.size, 0, none⟩ = some (.int .u8 k) ∧ w'.cell? ⟨w.heap.size, 1, none⟩ = some (.int .u16 p) ∧ w'.cell? ⟨w.heap.size, 2, none⟩ = some (.int .u32 l) ∧ w'.cell? ⟨w.heap.size, 3, none⟩ = some (.string la) ∧ w'.cell? ⟨w.heap.size, 4, none⟩ = some (.string pr))
          (first | exact z0 | exact z1 | exact z2)
          (first
          | (go_at_call 14; refine (K5.out _).mono ?_; rintro e w4 ⟨rfl, hb4⟩; have Y4 := keep ((Below.refl _ _).drew.trans (hb4.mono (Nat.le_refl _))); have z1 := BZ.out _ Y4.out; clear hb4)
          | (go_at_call 18; refine (K6.out _).mono ?_; rintro e w5 ⟨rfl, hb5⟩; have Y5 := keep (Y4.out.trans (hb5.mono Y4.out.size)); have z2 := BZ.out _ Y5.out; clear hb5))
        have B5 := keep (up B3.out Y5.out)
        clear z0 z1 z2
        go_wp2_with (first
          | (go_at_call 16; refine (K3.out _ B5.out).mono ?_; rintro e w6 ⟨rfl, hb6⟩; have B6 := keep (up (up B5.out hb6) (below_lay w6 (.cells #[.int .u8 qk, .int .u16 qp, .int .u32 ql, .string qla, .string qpr] 25))); clear hb6)
          | (go_at_call 12; refine (K4.out _ B6.out).mono ?_; rintro e w7 ⟨A7, n7, c7, rfl, hs7, hb7, hf7⟩; have B7 := keep (up B6.out hb7); have H7 := keep hs7; clear hs7 hb7 hf7)
          | (go_at_call 15; refine (same_yes _ _ _ _ _ _ _ _ H7.out (HB.out.step B7.out)).mono ?_; rintro e w' ⟨rfl, rfl⟩))
        go_ret
        exact ⟨rfl, B7.out⟩
    · have x3 : encD o = [] := by unfold encD; rw [if_neg he]
      obtain ⟨E1, hE1⟩ : ∃ E, encE o = E := ⟨_, rfl⟩
      rw [x3, hE1] at K1
      rw [hE1] at he
      rw [x3, show decE [] = 2 from rfl, show decO [] = oZ from rfl] at K2
      have g5 : (E1 == 0) = false := by simpa using he
      clear x3 hE1 he
      by_cases hd : decE bs = 0
      · obtain ⟨y1, y2⟩ := HX2.out hd
        have y3 : encD (decO bs) = bs := by unfold encD; rw [if_pos y1]; exact y2
        rw [y3, y1] at K4
        rw [hd] at K3
        clear y1 y2 y3 hd HX1 HX2
        obtain ⟨Q, hQ⟩ : ∃ Q, decO bs = Q := ⟨_, rfl⟩
        rw [hQ] at K3 K4
        obtain ⟨k, p, l, la, pr⟩ := o
        obtain ⟨qk, qp, ql, qla, qpr⟩ := Q
        dsimp only [OV.cells, oZ] at *
        clear hQ
        go_enter Tryd.func5, Tryd.ntmps5
        go_wp2_with (first
          | (go_at_call 11; refine K0.out.mono ?_; rintro e w1 ⟨rfl, hb1⟩; have B1 := keep (up l1.out hb1); have P1 := keep (O1.out.step LT1.out hb1); have LT2 := keep (Nat.lt_of_lt_of_le LT1.out hb1.size); obtain ⟨d0, d1, d2, d3, d4⟩ := P1.out; dsimp only at d0 d1 d2 d3 d4; clear hb1)
          | (go_at_call 12; refine (K1.out _ B1.out).mono ?_; rintro e w2 ⟨A2, n2, c2, rfl, hs2, hb2, hf2⟩; have B2 := keep (up B1.out hb2); have P2 := keep (P1.out.step LT2.out hb2); have LT3 := keep (Nat.lt_of_lt_of_le LT2.out hb2.size); have H2 := keep hs2; have hn2 : n2 = 0 := (by have := hs2.len; simpa using this); subst hn2; clear hs2 hb2 hf2)
          | (go_at_call 16; refine (K2.out _ _ _ _ B2.out H2.out).mono ?_; rintro e w3 ⟨rfl, hb3⟩; have B3 := keep (up (up B2.out hb3) (below_lay w3 (.cells #[.int .u8 0, .int .u16 0, .int .u32 0, .string ⟨#[]⟩, .string ⟨#[]⟩] 25))); have P3 := keep (P2.out.step LT3.out (up hb3 (below_lay w3 (.cells #[.int .u8 0, .int .u16 0, .int .u32 0, .string ⟨#[]⟩, .string ⟨#[]⟩] 25)))); have LT4 := keep (Nat.lt_of_lt_of_le LT3.out (up hb3 (below_lay w3 (.cells #[.int .u8 0, .int .u16 0, .int .u32 0, .string ⟨#[]⟩, .string ⟨#[]⟩] 25))).size); clear hb3))
        go_quiet (fail)
        have B5 := keep (B3.out.trans ((below_dN _ nq).mono B3.out.size))
        go_wp2_with (first
          | (go_at_call 16; refine (K3.out _ B5.out).mono ?_; rintro e w6 ⟨rfl, hb6⟩; have B6 := keep (up (up B5.out hb6) (below_lay w6 (.cells #[.int .u8 qk, .int .u16 qp, .int .u32 ql, .string qla, .string qpr] 25))); clear hb6)
          | (go_at_call 12; refine (K4.out _ B6.out).mono ?_; rintro e w7 ⟨A7, n7, c7, rfl, hs7, hb7, hf7⟩; have B7 := keep (up B6.out hb7); have H7 := keep hs7; clear hs7 hb7 hf7)
          | (go_at_call 15; refine (same_yes _ _ _ _ _ _ _ _ H7.out (HB.out.step B7.out)).mono ?_; rintro e w' ⟨rfl, rfl⟩))
        go_ret
        exact ⟨rfl, B7.out⟩
      · obtain ⟨E3, hE3⟩ : ∃ E, decE bs = E := ⟨_, rfl⟩
        rw [hE3] at K3 hd
        have g1 : (E3 == 0) = false := by simpa using hd
        have g2 : (E3 != 0) = true := by simpa using hd
        obtain ⟨E4, hE4⟩ : ∃ E, encE (decO bs) = E := ⟨_, rfl⟩
        obtain ⟨D4, hD4⟩ : ∃ E, encD (decO bs) = E := ⟨_, rfl⟩
        rw [hE4, hD4] at K4
        clear hE3 hE4 hD4 hd HX1 HX2
        obtain ⟨Q, hQ⟩ : ∃ Q, decO bs = Q := ⟨_, rfl⟩
        rw [hQ] at K3 K4
        obtain ⟨k, p, l, la, pr⟩ := o
        obtain ⟨qk, qp, ql, qla, qpr⟩ := Q
        dsimp only [OV.cells, oZ] at *
        clear hQ
        go_enter Tryd.func5, Tryd.ntmps5
        go_wp2_with (first
          | (go_at_call 11; refine K0.out.mono ?_; rintro e w1 ⟨rfl, hb1⟩; have B1 := keep (up l1.out hb1); have P1 := keep (O1.out.step LT1.out hb1); have LT2 := keep (Nat.lt_of_lt_of_le LT1.out hb1.size); obtain ⟨d0, d1, d2, d3, d4⟩ := P1.out; dsimp only at d0 d1 d2 d3 d4; clear hb1)
          | (go_at_call 12; refine (K1.out _ B1.out).mono ?_; rintro e w2 ⟨A2, n2, c2, rfl, hs2, hb2, hf2⟩; have B2 := keep (up B1.out hb2); have P2 := keep (P1.out.step LT2.out hb2); have LT3 := keep (Nat.lt_of_lt_of_le LT2.out hb2.size); have H2 := keep hs2; have hn2 : n2 = 0 := (by have := hs2.len; simpa using this); subst hn2; clear hs2 hb2 hf2)
          | (go_at_call 16; refine (K2.out _ _ _ _ B2.out H2.out).mono ?_; rintro e w3 ⟨rfl, hb3⟩; have B3 := keep (up (up B2.out hb3) (below_lay w3 (.cells #[.int .u8 0, .int .u16 0, .int .u32 0, .string ⟨#[]⟩, .string ⟨#[]⟩] 25))); have P3 := keep (P2.out.step LT3.out (up hb3 (below_lay w3 (.cells #[.int .u8 0, .int .u16 0, .int .u32 0, .string ⟨#[]⟩, .string ⟨#[]⟩] 25)))); have LT4 := keep (Nat.lt_of_lt_of_le LT3.out (up hb3 (below_lay w3 (.cells #[.int .u8 0, .int .u16 0, .int .u32 0, .string ⟨#[]⟩, .string ⟨#[]⟩] 25))).size); clear hb3))
        go_quiet (fail)
        have B5 := keep (B3.out.trans ((below_dN _ nq).mono B3.out.size))
        go_wp2_with (first
          | (go_at_call 16; refine (K3.out _ B5.out).mono ?_; rintro e w6 ⟨rfl, hb6⟩; have B6 := keep (up (up B5.out hb6) (below_lay w6 (.cells #[.int .u8 qk, .int .u16 qp, .int .u32 ql, .string qla, .string qpr] 25))); clear hb6)
          | (go_at_call 12; refine (K4.out _ B6.out).mono ?_; rintro e w7 ⟨A7, n7, c7, rfl, hs7, hb7, hf7⟩; have B7 := keep (up B6.out hb7); have H7 := keep hs7; clear hs7 hb7 hf7)
          | (go_at_call 15; refine (same_yes _ _ _ _ _ _ _ _ H7.out (HB.out.step B7.out)).mono ?_; rintro e w' ⟨rfl, rfl⟩))
        go_ret
        exact ⟨rfl, B7.out⟩
end Go.Proofs.YtapaiknghnbfmaaDoor
