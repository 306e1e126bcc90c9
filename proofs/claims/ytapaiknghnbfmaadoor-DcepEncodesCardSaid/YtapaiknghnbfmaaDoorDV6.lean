/- The reference: Encode, of what may be. -/
import Derived.Test.YtapaiknghnbfmaaDoorDV5
namespace Go.Proofs.YtapaiknghnbfmaaDoor
open Go.RowKit Go.Lib
set_option linter.unusedVariables false
set_option maxRecDepth 100000

theorem octs1 (v : Int) : octs v 2 2 = [b8 (v / 256), b8 v] := by
  have : octs v 2 2 = [b8 (v / 2 ^ (8 * (2 - 1 - 0))), b8 (v / 2 ^ (8 * (2 - 1 - 1)))] := rfl
  rw [this]
  simp
theorem octs4 (v : Int) : octs v 4 4 = [b8 (v / 16777216), b8 (v / 65536), b8 (v / 256), b8 v] := by
  have : octs v 4 4 = [b8 (v / 2 ^ (8 * (4 - 1 - 0))), b8 (v / 2 ^ (8 * (4 - 1 - 1))), b8 (v / 2 ^ (8 * (4 - 1 - 2))), b8 (v / 2 ^ (8 * (4 - 1 - 3)))] := rfl
  rw [this]
  simp
theorem wrap32 (n : Nat) (h : n ≤ 256) : IntKind.u32.wrap (n : Int) = (n : Int) := by
  show (n : Int) % 4294967296 = n
  omega
/-- What stands ahead of the texts, as the reference joins it. -/
def headR (o : OV) : List UInt8 := ((([b8 3, b8 o.k] ++ octs o.p 2 2) ++ octs o.l 4 4) ++ octs (o.la.size : Int) 2 2) ++ octs (o.pr.size : Int) 2 2
theorem headR_eq (o : OV) : headR o = headB o o.la.size o.pr.size := by
  unfold headR headB
  rw [octs1, octs1, octs1, octs4]
  rfl
set_option maxHeartbeats 8000000 in
theorem encodeR_ok (o : OV) (ho : o.Ok) (w : World) (hw : wrongB o = false) (h2 : o.la.size ≤ 256 ∧ o.pr.size ≤ 256) : Calls Tryd.prog 13 #[.agg o.cells.toArray] w (EncP o w) := by
  have hl := below_lay w (.cells o.cells.toArray 32)
  have hob := OB.laid w o 32
  have KW := may_any o ho (w.alloc (.cells o.cells.toArray 32))
  have HL := keep hl
  have hlt : w.heap.size < (w.alloc (.cells o.cells.toArray 32)).heap.size := by simp
  have HO := keep (fun W hb => hob.step (W' := W) hlt hb)
  clear hl
  rw [hw] at KW
  replace KW := keep KW
  obtain ⟨e1, e2⟩ := encE_ok hw h2
  unfold EncP
  rw [e1, e2]
  have HB := keep (show headR o ++ o.la.data.toList ++ o.pr.data.toList = encB o by rw [headR_eq]; rfl)
  clear e1 e2 hw
  obtain ⟨i0, hi0, hz0, hz1, hz2⟩ := info_parts u8_info
  have OKo := keep ho
  have HBY := keep (show ∀ n ∈ [3, o.k], 0 ≤ n ∧ n < 256 by
    intro n hn
    rcases List.mem_cons.1 hn with rfl | hn
    · decide
    · rw [List.mem_singleton] at hn
      rw [hn]
      exact ho.k)
  have HD := keep (show headR o = ((([b8 3, b8 o.k] ++ octs o.p 2 2) ++ octs o.l 4 4) ++ octs (o.la.size : Int) 2 2) ++ octs (o.pr.size : Int) 2 2 from rfl)
  generalize headR o = hd at HD HB
  generalize encB o = eb at HB ⊢
  obtain ⟨k, p, l, la, pr⟩ := o
  dsimp only [OV.cells] at *
  generalize hN0 : (w.alloc (.cells #[.int .u8 k, .int .u16 p, .int .u32 l, .string la, .string pr] 32)).heap.size = N0 at *
  have HCV := keep (show ∀ W, Below N0 (w.alloc (.cells #[.int .u8 k, .int .u16 p, .int .u32 l, .string la, .string pr] 32)) W → N0 ≤ W.heap.size from fun W h => by rw [← hN0]; exact h.size)
  have HLT := keep hlt
  have HN0 := keep hN0
  clear hN0 hlt
  obtain ⟨c0, c1, c2, c3, c4⟩ := hob
  dsimp only at c0 c1 c2 c3 c4 h2
  have H2 := keep h2
  have h3z : ¬ ((256 : Int) < (la.size : Int)) := by omega
  have h4z : ¬ ((256 : Int) < (pr.size : Int)) := by omega
  have wp : p % 4294967296 = p := by have := OKo.out.p; dsimp only at this; omega
  have w3 : (la.size : Int) % 4294967296 = la.size := by omega
  have w4 : (pr.size : Int) % 4294967296 = pr.size := by omega
  go_enter Tryd.func13, Tryd.ntmps13
  have HBL := keep (show ∀ W o, Below N0 (w.alloc (.cells #[.int .u8 k, .int .u16 p, .int .u32 l, .string la, .string pr] 32)) W → Below N0 (w.alloc (.cells #[.int .u8 k, .int .u16 p, .int .u32 l, .string la, .string pr] 32)) (W.alloc o) from fun W o h => h.trans ((below_lay W o).mono (HCV.out W h)))
  go_wp2_with (go_at_call 41; refine KW.out.mono ?_; rintro e w1 ⟨rfl, hb1⟩; have d := HO.out _ hb1; obtain ⟨d0, d1, d2, d3, d4⟩ := d; dsimp only at d0 d1 d2 d3 d4; have d := HO.out _ (HBL.out _ (.cells #[.int .u8 3, .int .u8 k] 5) hb1); obtain ⟨_, q1, q2, q3, q4⟩ := d; dsimp only at q1 q2 q3 q4; have B1 := keep (HBL.out _ (.cells #[.int .u8 3, .int .u8 k] 5) hb1); clear hb1; have b1 := keep (show BS (w1.alloc (.cells #[.int .u8 3, .int .u8 k] 5)) (some ⟨w1.heap.size, 0, none⟩) 2 2 [b8 3, b8 k] from BS.laid w1 5 [3, k] HBY.out))
  have R1 := keep (refput_any _ _ _ _ p OKo.out.p.1 (by have := OKo.out.p.2; omega) 2 (by decide) _ b1.out (by omega))
  refine R1.out.mono ?_
  rintro e w2 ⟨A2, n2, m2, rfl, s2, hb2, o2⟩
  have B2 := keep (B1.out.trans (hb2.mono (HCV.out _ B1.out)))
  clear hb2 o2
  have d := HO.out _ B2.out
  obtain ⟨_, r1, r2, r3, r4⟩ := d
  dsimp only at r1 r2 r3 r4
  have hl2 : n2 = 4 := by have := s2.len; simpa [octs1] using this
  subst hl2
  have R2 := keep (refput_any _ _ _ _ l OKo.out.l.1 OKo.out.l.2 4 (by decide) _ s2 (by omega))
  clear c0 c1 c2 c3 c4 d0 d1 d2 d3 d4 q1 q2 q3 q4 s2
  go_wp2_with fail
  refine R2.out.mono ?_
  rintro e w3 ⟨A3, n3, m3, rfl, s3, hb3, o3⟩
  have B3 := keep (B2.out.trans (hb3.mono (HCV.out _ B2.out)))
  clear hb3 o3 r1 r2 r3 r4
  have hl3 : n3 = 8 := by have := s3.len; simpa [octs1, octs4] using this
  subst hl3
  have B3d := keep (B3.out.drew)
  have s3d := keep (s3.step (Below.refl _ _).drew)
  have r50 := And.intro (HO.out _ B3d.out).c3 (HO.out _ B3d.out).c4
  dsimp only at r50
  have KA := keep (refput_any _ _ _ _ (la.size : Int) (by omega) (by have := H2.out; omega) 2 (by decide) _ s3d.out (by omega))
  clear s3
  have w3' : IntKind.u32.wrap (la.size : Int) = (la.size : Int) := wrap32 _ H2.out.1
  have w4' : IntKind.u32.wrap (pr.size : Int) = (pr.size : Int) := wrap32 _ H2.out.2
  go_wp2_with fail
  go_region_held3 (fun w' => w'.cell? ⟨w.heap.size, 3, none⟩ = some (.string la) ∧ w'.cell? ⟨w.heap.size, 4, none⟩ = some (.string pr))
    (first | exact r50 | exact r5 | exact r6)
    (first
    | (go_at_call 42; refine (refput_any _ _ _ _ (pr.size : Int) (by omega) (by have := H2.out; omega) 2 (by decide) _ s4.out (by omega)).mono ?_; rintro e w5 ⟨A5, n5, m5, rfl, s5, hb5, o5⟩; have B5 := keep (B4.out.trans (hb5.mono (HCV.out _ B4.out))); have r6 := (And.intro (HO.out _ B5.out).c3 (HO.out _ B5.out).c4); dsimp only at r6; replace s5 := keep s5; replace o5 := keep (own_mono o5.out (HCV.out _ B4.out)))
    | (go_at_call 42; refine KA.out.mono ?_; rintro e w4 ⟨A4, n4, m4, rfl, s4, hb4, o4⟩; have B4 := keep (B3d.out.trans (hb4.mono (HCV.out _ B3d.out))); have r5 := (And.intro (HO.out _ B4.out).c3 (HO.out _ B4.out).c4); dsimp only at r5; have hl4 : n4 = 10 := (by have := s4.len; simpa [octs1, octs4] using this); subst hl4; replace s4 := keep s4))
  have HS := keep (show n5 = 12 by have := s5.out.len; simpa [octs1, octs4] using this)
  clear hb4 hb5 r50 r5 r6 o4 s4 KA
  rw [← HD.out] at o5
  have r7 := And.intro (HO.out _ B5.out).c3 (HO.out _ B5.out).c4
  dsimp only at r7
  go_wp2_with (first
    | (at_builtin; refine wpl_append_str _ rfl (.tmp 44) (.tmp 46) 27 9 rfl N0 5 i0 Tryd.underlying27 Tryd.underlying9 hi0 hz0 hz1 hz2 _ _ _ rfl o7.out pr rfl (by have h8 := HS.out; have h9 := H2.out; unfold maxLen; omega) (by have h8 := HS.out; have h9 := H2.out; omega) (HCV.out _ B7.out) ?_; intro A8 c8 w8 o8 hg8; have B8 := keep (B7.out.trans ((Below.refl N0 w7).grown hg8.out (HCV.out _ B7.out) fun k hk => (o7.out.lt k hk).1)))
    | (at_builtin; refine wpl_append_str _ rfl (.tmp 40) (.tmp 42) 27 9 rfl N0 5 i0 Tryd.underlying27 Tryd.underlying9 hi0 hz0 hz1 hz2 _ _ _ rfl o5.out la rfl (by have h8 := HS.out; have h9 := H2.out; unfold maxLen; omega) (by have h8 := HS.out; have h9 := H2.out; omega) (HCV.out _ B5.out) ?_; intro A7 c7 w7 o7 hg7; have B7 := keep (B5.out.trans ((Below.refl N0 w5).grown hg7.out (HCV.out _ B5.out) fun k hk => (o5.out.lt k hk).1)); have r8 := And.intro (HO.out _ B7.out).c3 (HO.out _ B7.out).c4; dsimp only at r8))
  go_ret2
  refine ⟨A8, _, c8, rfl, ?_, ?_, (Fr.own o8.out).mono (Nat.le_of_lt HLT.out)⟩
  · have h1 := o8.out
    rw [strCells_bc, strCells_bc, ← bc_append, ← bc_append, HB.out] at h1
    exact BS.of_own h1
  · exact HL.out.trans (B8.out.mono (by have := HL.out.size; have h9 := HN0.out; omega))
theorem encodeR_any (o : OV) (ho : o.Ok) (w : World) : Calls Tryd.prog 13 #[.agg o.cells.toArray] w (EncP o w) := by
  by_cases h : wrongB o = true ∨ 256 < o.la.size ∨ 256 < o.pr.size
  · exact encodeR_no o ho w h
  · exact encodeR_ok o ho w (by cases hw : wrongB o; rfl; exact absurd (Or.inl hw) h) (by omega)
end Go.Proofs.YtapaiknghnbfmaaDoor
