/- XferTwice: the walk. -/
import Derived.Test.YtikiooofoaclmaaGreatKCM
import Derived.Test.YtikiooofoaclmaaGreatKBL
set_option linter.unusedSimpArgs false
namespace Go.Proofs.YtikiooofoaclmaaGreat
open Go.RowKit Go.Maps
open List renaming setIfInBounds_toArray → lA, set_cons_zero → lZ, set_cons_succ → lS
open Go renaming wpAnyH_take → wT
open Go.Act renaming put → aP
set_option linter.unusedVariables false
set_option maxRecDepth 8000

theorem run_bytes_str_x {P : Program} (w : World) (src e : TypeId) (hs : P.underlying src = some (.slice e)) (he : P.underlying e = some (.int .u8)) (A : Option Addr) (bs : List UInt8) (c : Nat) (h : BR w A bs) :
    ∀ dst, P.underlying dst = some .string → (convert src dst (.slice A bs.length c)).run P w = .ok (.string ⟨bs.toArray⟩) w := by
  intro dst hd
  rw [run_convert_bytes_string w src dst e _ _ c hs he hd]
  have key : ∀ (a : Addr), (∀ j u, (bc bs)[j]? = some u → w.cell? (a.add j) = some u) → (Conv.bytesToString (.slice (some a) bs.length c)).run P w = .ok (.string ⟨bs.toArray⟩) w := by
    intro a hc
    have hl := run_loadCells_list (P := P) w a (bc bs) hc
    rw [bc_length] at hl
    have e2 : bc bs = (bs.map fun b => (b.toNat : Int)).map (Value.int .u8) := by simp [bc, Function.comp_def]
    rw [e2] at hl
    rw [run_bytesToString w a bs.length c _ hl, foldl_push_bytes]
    congr 3
    have e3 : (ByteArray.empty.data : Array UInt8) = #[] := rfl
    rw [e3]
    simp [Function.comp_def]
  rcases A with _ | a
  · have : bs = [] := by
      rcases bs with _ | ⟨x, l⟩
      · rfl
      · obtain ⟨b, o, h0, _⟩ := h (by simp [bc])
        cases h0
    subst this
    simp [Conv.bytesToString]
    rfl
  · refine key a fun j u hu => ?_
    have hne : bc bs ≠ [] := by intro h0; rw [h0] at hu; simp at hu
    obtain ⟨b, o, h0, _, hcell⟩ := h hne
    injection h0 with h0
    subst h0
    rw [Addr.add_lit]
    exact hcell j u hu

theorem conv_in_x (w : World) (A : Option Addr) (n c : Nat) (bs : List UInt8) (h : BS w A n c bs) (S : ByteArray) (hS : S = ⟨bs.toArray⟩) :
    (convert 31 9 (.slice A n c)).run Tryz.prog w = .ok (.string S) w := by
  have := run_bytes_str_x (P := Tryz.prog) w 31 5 Tryz.underlying31 Tryz.underlying5 A bs c h.br 9 Tryz.underlying9
  rw [← h.len, ← hS] at this
  exact this
theorem wf32_x {x : Int} (h : (Lit.int .u32 x).wf = true) : 0 ≤ x ∧ x < 4294967296 := by
  simp [Lit.wf, IntKind.min, IntKind.max, IntKind.signed, IntKind.bits] at h
  omega
/-- One number was told twice. -/
theorem SK.dup {W : World} {gx gy : Xg} {A : Option Addr} {c : Nat} {f B a : Int} {bl du : SL} (h : SK W gx gy A c f B bl du [a]) : ∃ d, du.1 = some ⟨d, 0, none⟩ ∧ du.2.1 = 1 ∧ d < W.heap.size ∧ W.cell? ⟨d, 0, none⟩ = some (.int .u32 a) := by
  have hd := h.dr
  have hl := h.dl
  obtain ⟨d1, d2, d3⟩ := du
  dsimp only at hd hl ⊢
  obtain rfl : d2 = 1 := hl
  obtain ⟨g, hg, _, h1, _, cur, hcur⟩ := own_row_at hd (by simp [u32s])
  exact ⟨g, hg, rfl, (Array.getElem?_eq_some_iff.1 hcur).1, h1 0 _ rfl⟩
set_option maxHeartbeats 16000000 in
theorem xferTwice_walk (a b : Int) (A : Option Addr) (n c : Nat) (bs : List UInt8) (now : Int) (w : World) (ha : (Lit.int .u32 a).wf = true) (hb : (Lit.int .u32 b).wf = true) (hd : BS w A n c bs) (hn : (Lit.int .i64 now).wf = true) :
    Calls Tryz.prog 6 #[.int .u32 a, .int .u32 b, .slice A n c, .int .i64 now] w fun e w' => e = .returned (.bool true) ∧ Below w.heap.size w w' := by
  have KA := keep (awakeX w)
  have HA := keep (wf32_x ha)
  have HD := keep hd
  obtain rfl : n = bs.length := hd.len
  have KP := keep (fun W (h : Below w.heap.size w W) => pair_any h a b 1200 (wf32_x ha) (wf32_x hb))
  clear ha hb hd hn
  by_cases h0 : bs.length = 0
  · go_enter Tryz.func6, Tryz.ntmps6
    go_wp2_with (go_at_call 7; refine KA.out.mono ?_; rintro e w1 ⟨rfl, hb1⟩; replace hb1 := keep hb1)
    all_goals go_ret
    all_goals exact ⟨rfl, hb1.out⟩
  by_cases h1 : 1000 < bs.length
  · go_enter Tryz.func6, Tryz.ntmps6
    go_wp2_with (go_at_call 7; refine KA.out.mono ?_; rintro e w1 ⟨rfl, hb1⟩; replace hb1 := keep hb1)
    all_goals go_ret
    all_goals exact ⟨rfl, hb1.out⟩
  have hc1 : ((bs.length : Int) == 0) = false := beq_false_of_ne (by omega)
  have hc2 : decide ((1000 : Int) < (bs.length : Int)) = false := decide_eq_false (by omega)
  have hc3 : ¬ (bs.length : Int) = 0 := by omega
  have hc4 : ¬ (1000 : Int) < (bs.length : Int) := by omega
  have L0 := keep (show 0 < bs.length by omega)
  have L1 := keep (show bs.length ≤ 1000 by omega)
  have KSe := keep (fun W gx gy (H : YY w W gx gy (x0 a b 65536 4 1200 4) (x0 b a 65536 4 1200 4)) => (show Calls Tryz.prog 9 #[.pointer (some ⟨gx.b, 0, none⟩), .agg #[.int .u16 3, .bool false, .int .u32 7, .slice A bs.length c], .int .i64 (-1), .int .i64 (-1), .int .i64 now] W _ from s_send (s := 3) (pp := 7) HA.out H (by decide) (by decide) (HD.out.step H.be) L0.out L1.out now))
  go_enter Tryz.func6, Tryz.ntmps6
  go_wp2_with (first
    | (go_at_call 7; refine KA.out.mono ?_; rintro e w0 ⟨rfl, hb0⟩; replace hb0 := keep hb0)
    | (go_at_call 8; refine (KP.out _ hb0.out).mono ?_; rintro e w1 ⟨gx, gy, rfl, H1⟩)
    | (go_at_call 9
       refine (KSe.out _ _ _ H1.out).mono ?_; rintro e w2 ⟨rfl, gx2, x2, e0, hb2, H2⟩
       have KT2 := s_tell H2.out.1 H2.out.2 L0.out L1.out now
       rw [hb2] at KT2
       replace KT2 := keep KT2
       have HB2 := keep hb2
       clear hb2)
    | (go_at_call_of 10 gx; refine KT2.out.mono ?_; rintro e w3 ⟨A3, c3, y0, x3, rfl, H3⟩
       have hct : y0.ct = ctO a 3 7 bs := H3.out.2.2.1.trans H2.out.2.ct
       have KH := s_hear1 H3.out.1 (x0_y0 b a) H3.out.2.1 hct HA.out (by decide) L0.out L1.out now
       have ha0 : y0.a = a := congrArg Ct.a hct
       have HCT := keep hct
       have HA0 := keep ha0
       obtain ⟨g3, rfl, hg3, z0, z1, z2, z3, z4, z5, z6, z7, z8, z9, z10, z11⟩ := H3.out.2.1.open_
       dsimp only [CZ.cells] at KH
       rw [ha0] at KH z2
       replace KH := keep KH
       clear hct ha0)
    | (go_at_call_of 15 gy
       first
       | (have _ := H5
          refine KH5.out.mono ?_; rintro e w6 ⟨rfl, gy6, y6, hb6, H6⟩
          have KT6 := s_tellY H6.out.1 H6.out.2.1 now
          rw [hb6] at KT6
          replace KT6 := keep KT6
          have HB6 := keep hb6
          clear hb6 z0 z1 z2 z3 z4 z5 z6 z7 z8 z9 z10 z11)
       | (refine KH.out.mono ?_; rintro e w4 ⟨rfl, gy4, y4, hb4, H4⟩
          have KT4 := s_tellY H4.out.1 H4.out.2.1 now
          rw [hb4] at KT4
          replace KT4 := keep KT4
          have HB4 := keep hb4
          clear hb4 z0 z1 z2 z3 z4 z5 z6 z7 z8 z9 z10 z11))
    | (go_at_call_of 10 gy
       first
       | (have _ := H6
          refine KT6.out.mono ?_; rintro e w7 ⟨A7, c7, bl7, du7, gy7, y7, B7, rfl, hb7, H7⟩
          have KM := s_msgs H7.out.1 H7.out.2.1
          rw [hb7] at KM
          replace KM := keep KM
          have HB7 := keep hb7
          clear hb7)
       | (refine KT4.out.mono ?_; rintro e w5 ⟨A5, c5, bl5, du5, gy5, y5, B5, rfl, hb5, H5⟩
          have HB5 := keep hb5
          have H5R := keep ((H3.out.2.1.upY H4.out.2.2).upY H5.out.2.2.1)
          have KH5 := s_hear2 H5.out.1 H5.out.2.1 H5R.out HCT.out HA.out now
          rw [hb5] at KH5
          clear hb5
          obtain ⟨g3', hg3', hlt3, z0, z1, z2, z3, z4, z5, z6, z7, z8, z9, z10, z11⟩ := H5R.out.open_
          injection hg3' with hg3'
          injection hg3' with hg3'
          subst hg3'
          dsimp only [CZ.cells] at KH5
          rw [HA0.out] at KH5 z2
          replace KH5 := keep KH5))
    | (go_at_call 17; refine KM.out.mono ?_; rintro e w8 ⟨A8, n8, c8, l8, gy8, y8, rfl, hb8, H8⟩
       clear hb8
       obtain ⟨rfl, b8, o8, m8, rfl, hlt8, rfl, hm8, v0, v1, v2, v3⟩ := one_got H8.out.2.2.2.ms H8.out.2.2.2.is
       have hmv := H8.out.2.2.2.mv m8 (List.mem_cons_self ..)
       have hda : m8.bs = bs := congrArg Msg.da hm8
       have hbs8 := hmv.bs
       rw [hda] at hbs8
       have kc1 := conv_in_x w8 _ _ _ bs hbs8 _ rfl
       have kc2 := conv_in_x w8 _ _ _ bs (HD.out.step H8.out.1.be) _ rfl
       have S5 := ((H5.out.2.2.2.1.upY H6.out.2.2).upY H7.out.2.2.1).upY H8.out.2.2.1
       have S7 := H7.out.2.2.2.1.upY H8.out.2.2.1
       have hs5 : du5.2.1 = 0 := S5.dl
       obtain ⟨d7, hd7, hd71, hdl7, hd72⟩ := S7.dup
       obtain ⟨du71, du72, du73⟩ := du7
       obtain ⟨du51, du52, du53⟩ := du5
       dsimp only at hd7 hd71 hs5
       subst hd7 hd71 hs5
       obtain ⟨g5, rfl, hg5, t0, t1, t2, t3, t4, t5, t6, t7, t8, t9, t10, t11⟩ := S5.open_
       obtain ⟨g7, rfl, hg7, u0, u1, u2, u3, u4, u5, u6, u7, u8, u9, u10, u11⟩ := S7.open_
       have KC1 := keep hbs8
       have BL7 := keep S7.bl0
       clear hm8 hmv hda hbs8 S5 S7 kc1 kc2 v0 v1 v2 t0 t1 t2 t3 t4 t5 t6 t7 t9 t10 t11))
  dsimp only [List.append]
  have HY8 := keep (H8.out.1.step (Below.refl _ _).drew)
  have KS := s_sack HY8.out H3.out.2.2.2.1 H3.out.2.2.2.2.1 H2.out.2.sn H3.out.2.2.2.2.2 HA.out H7.out.2.2.2.2 ⟨BL7.out, Nat.zero_le _⟩ now (bd_in now).1 (Int.le_refl _) (bl := bl7) (du := (some ⟨d7, 0, none⟩, 1, du73))
  rw [HB2.out] at KS
  dsimp only [sackC] at KS
  replace KS := keep KS
  have kc1 := conv_in_x w8.drew _ _ _ bs (KC1.out.step (Below.refl _ _).drew) _ rfl
  have t8' : w8.drew.cell? ⟨g5, 8, none⟩ = _ := t8
  refine wp_region_held_drew (S := (fun w' => (convert 31 9 (.slice A bs.length c)).run Tryz.prog w' = .ok (.string ⟨bs.toArray⟩) w')) (by kernel_rfl) (conv_in_x w8.drew _ _ _ bs (HD.out.step (H8.out.1.be.trans ((Below.refl _ _).drew))) _ rfl) (fun hHeld => ?_)
  refine wT (i := 0) (oi := ⟨some 66, _, _, _, _, _⟩) (v := ?v1) rfl (by kernel_rfl) (by kernel_rfl) (by kernel_rfl) (fun _ _ _ h => h) (Or.inl ⟨by rfl, ?hy1⟩) (by assumption) ?r1
  case hy1 => (intro wz hSw; (try dsimp only at hSw); go_simp <;> try with_reducible rfl)
  try simp only [aP, lA, lZ, lS]
  refine wT (i := 1) (oi := ⟨some 67, _, _, _, _, _⟩) (v := ?v2) rfl (by kernel_rfl) (by kernel_rfl) (by kernel_rfl) (fun _ _ _ h => h) (Or.inl ⟨by rfl, ?hy2⟩) (by assumption) ?r2
  case hy2 => (intro wz hSw; (try dsimp only at hSw); go_simp <;> try with_reducible rfl)
  try simp only [aP, lA, lZ, lS]
  refine wT (i := 2) (oi := ⟨some 68, _, _, _, _, _⟩) (v := ?v3) rfl (by kernel_rfl) (by kernel_rfl) (by kernel_rfl) (fun _ _ _ h => h) (Or.inl ⟨by rfl, ?hy3⟩) (by assumption) ?r3
  case hy3 => (intro wz hSw; (try dsimp only at hSw); go_simp <;> try with_reducible rfl)
  try simp only [aP, lA, lZ, lS]
  refine wT (i := 3) (oi := ⟨some 69, _, _, _, _, _⟩) (v := ?v4) rfl (by kernel_rfl) (by kernel_rfl) (by kernel_rfl) (fun _ _ _ h => h) (Or.inl ⟨by rfl, ?hy4⟩) (by assumption) ?r4
  case hy4 => (intro wz hSw; (try dsimp only at hSw); go_simp <;> try with_reducible rfl)
  try simp only [aP, lA, lZ, lS]
  refine wT (i := 4) (oi := ⟨some 70, _, _, _, _, _⟩) (v := ?v5) rfl (by kernel_rfl) (by kernel_rfl) (by kernel_rfl) (fun _ _ _ h => h) (Or.inl ⟨by rfl, ?hy5⟩) (by assumption) ?r5
  case hy5 => (intro wz hSw; (try dsimp only at hSw); go_simp <;> try with_reducible rfl)
  try simp only [aP, lA, lZ, lS]
  refine wT (i := 5) (oi := ⟨some 71, _, _, _, _, _⟩) (v := ?v6) rfl (by kernel_rfl) (by kernel_rfl) (by kernel_rfl) (fun _ _ _ h => h) (Or.inl ⟨by rfl, ?hy6⟩) (by assumption) ?r6
  case hy6 => (intro wz hSw; (try dsimp only at hSw); go_simp <;> try with_reducible rfl)
  try simp only [aP, lA, lZ, lS]
  refine wT (i := 6) (oi := ⟨some 72, _, _, _, _, _⟩) (v := ?v7) rfl (by kernel_rfl) (by kernel_rfl) (by kernel_rfl) (fun _ _ _ h => h) (Or.inl ⟨by rfl, ?hy7⟩) (by assumption) ?r7
  case hy7 => (intro wz hSw; (try dsimp only at hSw); go_simp <;> try with_reducible rfl)
  try simp only [aP, lA, lZ, lS]
  refine wT (i := 7) (oi := ⟨some 73, _, _, _, _, _⟩) (v := ?v8) rfl (by kernel_rfl) (by kernel_rfl) (by kernel_rfl) (fun _ _ _ h => h) (Or.inl ⟨by rfl, ?hy8⟩) (by assumption) ?r8
  case hy8 => (intro wz hSw; (try dsimp only at hSw); go_simp <;> try with_reducible rfl)
  try simp only [aP, lA, lZ, lS]
  refine wT (i := 8) (oi := ⟨some 74, _, _, _, _, _⟩) (v := ?v9) rfl (by kernel_rfl) (by kernel_rfl) (by kernel_rfl) (fun _ _ _ h => h) (Or.inl ⟨by rfl, ?hy9⟩) (by assumption) ?r9
  case hy9 => (intro wz hSw; (try dsimp only at hSw); go_simp <;> try with_reducible rfl)
  try simp only [aP, lA, lZ, lS]
  refine wT (i := 9) (oi := ⟨some 75, _, _, _, _, _⟩) (v := ?v10) rfl (by kernel_rfl) (by kernel_rfl) (by kernel_rfl) (fun _ _ _ h => h) (Or.inl ⟨by rfl, ?hy10⟩) (by assumption) ?r10
  case hy10 => (intro wz hSw; (try dsimp only at hSw); go_simp <;> try with_reducible rfl)
  try simp only [aP, lA, lZ, lS]
  refine wT (i := 10) (oi := ⟨some 76, _, _, _, _, _⟩) (v := ?v11) rfl (by kernel_rfl) (by kernel_rfl) (by kernel_rfl) (fun _ _ _ h => h) (Or.inl ⟨by rfl, ?hy11⟩) (by assumption) ?r11
  case hy11 => (intro wz hSw; (try dsimp only at hSw); go_simp <;> try with_reducible rfl)
  try simp only [aP, lA, lZ, lS]
  refine wT (i := 11) (oi := ⟨some 77, _, _, _, _, _⟩) (v := ?v12) rfl (by kernel_rfl) (by kernel_rfl) (by kernel_rfl) (fun _ _ _ h => h) (Or.inl ⟨by rfl, ?hy12⟩) (by assumption) ?r12
  case hy12 => (intro wz hSw; (try dsimp only at hSw); go_simp <;> try with_reducible rfl)
  try simp only [aP, lA, lZ, lS]
  refine wT (i := 12) (oi := ⟨some 78, _, _, _, _, _⟩) (v := ?v13) rfl (by kernel_rfl) (by kernel_rfl) (by kernel_rfl) (fun _ _ _ h => h) (Or.inl ⟨by rfl, ?hy13⟩) (by assumption) ?r13
  case hy13 => (intro wz hSw; (try dsimp only at hSw); go_simp <;> try with_reducible rfl)
  try simp only [aP, lA, lZ, lS]
  refine wT (i := 13) (oi := ⟨some 79, _, _, _, _, _⟩) (v := ?v14) rfl (by kernel_rfl) (by kernel_rfl) (by kernel_rfl) (fun _ _ _ h => h) (Or.inl ⟨by rfl, ?hy14⟩) (by assumption) ?r14
  case hy14 => (intro wz hSw; (try dsimp only at hSw); go_simp <;> try with_reducible rfl)
  try simp only [aP, lA, lZ, lS]
  refine wT (i := 14) (oi := ⟨some 80, _, _, _, _, _⟩) (v := ?v15) rfl (by kernel_rfl) (by kernel_rfl) (by kernel_rfl) (fun _ _ _ h => h) (Or.inl ⟨by rfl, ?hy15⟩) (by assumption) ?r15
  case hy15 => (intro wz hSw; (try dsimp only at hSw); go_simp <;> try with_reducible rfl)
  try simp only [aP, lA, lZ, lS]
  refine wT (i := 15) (oi := ⟨some 81, _, _, _, _, _⟩) (v := ?v16) rfl (by kernel_rfl) (by kernel_rfl) (by kernel_rfl) (fun _ _ _ h => h) (Or.inl ⟨by rfl, ?hy16⟩) (by assumption) ?r16
  case hy16 => (intro wz hSw; (try dsimp only at hSw); go_simp <;> try with_reducible rfl)
  try simp only [aP, lA, lZ, lS]
  refine wT (i := 16) (oi := ⟨some 82, _, _, _, _, _⟩) (v := ?v17) rfl (by kernel_rfl) (by kernel_rfl) (by kernel_rfl) (fun _ _ _ h => h) (Or.inl ⟨by rfl, ?hy17⟩) (by assumption) ?r17
  case hy17 => (intro wz hSw; (try dsimp only at hSw); go_simp <;> try with_reducible rfl)
  try simp only [aP, lA, lZ, lS]
  refine wT (i := 17) (oi := ⟨some 83, _, _, _, _, _⟩) (v := ?v18) rfl (by kernel_rfl) (by kernel_rfl) (by kernel_rfl) (fun _ _ _ h => h) (Or.inl ⟨by rfl, ?hy18⟩) (by assumption) ?r18
  case hy18 => (intro wz hSw; (try dsimp only at hSw); go_simp <;> try with_reducible rfl)
  try simp only [aP, lA, lZ, lS]
  refine wT (i := 18) (oi := ⟨some 84, _, _, _, _, _⟩) (v := ?v19) rfl (by kernel_rfl) (by kernel_rfl) (by kernel_rfl) (fun _ _ _ h => h) (Or.inl ⟨by rfl, ?hy19⟩) (by assumption) ?r19
  case hy19 => (intro wz hSw; (try dsimp only at hSw); go_simp <;> try with_reducible rfl)
  try simp only [aP, lA, lZ, lS]
  refine wT (i := 19) (oi := ⟨some 85, _, _, _, _, _⟩) (v := ?v20) rfl (by kernel_rfl) (by kernel_rfl) (by kernel_rfl) (fun _ _ _ h => h) (Or.inl ⟨by rfl, ?hy20⟩) (by assumption) ?r20
  case hy20 => (intro wz hSw; (try dsimp only at hSw); go_simp <;> try with_reducible rfl)
  try simp only [aP, lA, lZ, lS]
  refine wT (i := 20) (oi := ⟨some 86, _, _, _, _, _⟩) (v := ?v21) rfl (by kernel_rfl) (by kernel_rfl) (by kernel_rfl) (fun _ _ _ h => h) (Or.inl ⟨by rfl, ?hy21⟩) (by assumption) ?r21
  case hy21 => (intro wz hSw; (try dsimp only at hSw); go_simp <;> try with_reducible rfl)
  try simp only [aP, lA, lZ, lS]
  refine wT (i := 21) (oi := ⟨some 87, _, _, _, _, _⟩) (v := ?v22) rfl (by kernel_rfl) (by kernel_rfl) (by kernel_rfl) (fun _ _ _ h => h) (Or.inl ⟨by rfl, ?hy22⟩) (by assumption) ?r22
  case hy22 => (intro wz hSw; (try dsimp only at hSw); go_simp <;> try with_reducible rfl)
  try simp only [aP, lA, lZ, lS]
  refine wT (i := 22) (oi := ⟨some 88, _, _, _, _, _⟩) (v := ?v23) rfl (by kernel_rfl) (by kernel_rfl) (by kernel_rfl) (fun _ _ _ h => h) (Or.inl ⟨by rfl, ?hy23⟩) (by assumption) ?r23
  case hy23 => (intro wz hSw; (try dsimp only at hSw); go_simp <;> try with_reducible rfl)
  try simp only [aP, lA, lZ, lS]
  refine wpAnyH_ready (rs := [23]) (by kernel_rfl) (by simp) (AllReadyH.cons (o := ⟨some 89, _, _, _, _, _⟩) rfl (fun K hK => ?_) AllReadyH.nil)
  go_simp
  refine hK.out _ _ (conv_in_x w8.drew _ _ _ bs (HD.out.step (H8.out.1.be.trans ((Below.refl _ _).drew))) _ rfl) (fun hHeld => ?_)
  clear hK K
  try simp only [aP, lA, lZ, lS]
  refine wT (i := 24) (oi := ⟨some 90, _, _, _, _, _⟩) (v := ?v24) rfl (by kernel_rfl) (by kernel_rfl) (by kernel_rfl) (fun _ _ _ h => h) (Or.inl ⟨by rfl, ?hy24⟩) (by assumption) ?r24
  case hy24 => (intro wz hSw; (try dsimp only at hSw); go_simp <;> try with_reducible rfl)
  try simp only [aP, lA, lZ, lS]
  refine wT (i := 25) (oi := ⟨some 91, _, _, _, _, _⟩) (v := ?v25) rfl (by kernel_rfl) (by kernel_rfl) (by kernel_rfl) (fun _ _ _ h => h) (Or.inl ⟨by rfl, ?hy25⟩) (by assumption) ?r25
  case hy25 => (intro wz hSw; (try dsimp only at hSw); go_simp <;> try with_reducible rfl)
  try simp only [aP, lA, lZ, lS]
  refine wT (i := 26) (oi := ⟨some 92, _, _, _, _, _⟩) (v := ?v26) rfl (by kernel_rfl) (by kernel_rfl) (by kernel_rfl) (fun _ _ _ h => h) (Or.inl ⟨by rfl, ?hy26⟩) (by assumption) ?r26
  case hy26 => (intro wz hSw; (try dsimp only at hSw); go_simp <;> try with_reducible rfl)
  try simp only [aP, lA, lZ, lS]
  refine wT (i := 27) (oi := ⟨some 93, _, _, _, _, _⟩) (v := ?v27) rfl (by kernel_rfl) (by kernel_rfl) (by kernel_rfl) (fun _ _ _ h => h) (Or.inl ⟨by rfl, ?hy27⟩) (by assumption) ?r27
  case hy27 => (intro wz hSw; (try dsimp only at hSw); go_simp <;> try with_reducible rfl)
  try simp only [aP, lA, lZ, lS]
  refine wT (i := 28) (oi := ⟨some 94, _, _, _, _, _⟩) (v := ?v28) rfl (by kernel_rfl) (by kernel_rfl) (by kernel_rfl) (fun _ _ _ h => h) (Or.inl ⟨by rfl, ?hy28⟩) (by assumption) ?r28
  case hy28 => (intro wz hSw; (try dsimp only at hSw); go_simp <;> try with_reducible rfl)
  try simp only [aP, lA, lZ, lS]
  refine wT (i := 29) (oi := ⟨some 95, _, _, _, _, _⟩) (v := ?v29) rfl (by kernel_rfl) (by kernel_rfl) (by kernel_rfl) (fun _ _ _ h => h) (Or.inl ⟨by rfl, ?hy29⟩) (by assumption) ?r29
  case hy29 => (intro wz hSw; (try dsimp only at hSw); go_simp <;> try with_reducible rfl)
  try simp only [aP, lA, lZ, lS]
  refine wT (i := 30) (oi := ⟨some 96, _, _, _, _, _⟩) (v := ?v30) rfl (by kernel_rfl) (by kernel_rfl) (by kernel_rfl) (fun _ _ _ h => h) (Or.inl ⟨by rfl, ?hy30⟩) (by assumption) ?r30
  case hy30 => (intro wz hSw; (try dsimp only at hSw); go_simp <;> try with_reducible rfl)
  try simp only [aP, lA, lZ, lS]
  refine wpAnyH_ready (rs := [31]) (by kernel_rfl) (by simp) (AllReadyH.cons (o := ⟨some 97, _, _, _, _, _⟩) rfl (fun K hK => ?_) AllReadyH.nil)
  go_simp
  refine hK.out _ _ (conv_in_x w8.drew _ _ _ bs (HD.out.step (H8.out.1.be.trans ((Below.refl _ _).drew))) _ rfl) (fun hHeld => ?_)
  clear hK K
  try simp only [aP, lA, lZ, lS]
  refine wT (i := 32) (oi := ⟨some 98, _, _, _, _, _⟩) (v := ?v31) rfl (by kernel_rfl) (by kernel_rfl) (by kernel_rfl) (fun _ _ _ h => h) (Or.inl ⟨by rfl, ?hy31⟩) (by assumption) ?r31
  case hy31 => (intro wz hSw; (try dsimp only at hSw); go_simp <;> try with_reducible rfl)
  try simp only [aP, lA, lZ, lS]
  refine wT (i := 33) (oi := ⟨some 99, _, _, _, _, _⟩) (v := ?v32) rfl (by kernel_rfl) (by kernel_rfl) (by kernel_rfl) (fun _ _ _ h => h) (Or.inl ⟨by rfl, ?hy32⟩) (by assumption) ?r32
  case hy32 => (intro wz hSw; (try dsimp only at hSw); go_simp <;> try with_reducible rfl)
  try simp only [aP, lA, lZ, lS]
  refine wT (i := 34) (oi := ⟨some 100, _, _, _, _, _⟩) (v := ?v33) rfl (by kernel_rfl) (by kernel_rfl) (by kernel_rfl) (fun _ _ _ h => h) (Or.inl ⟨by rfl, ?hy33⟩) (by assumption) ?r33
  case hy33 => (intro wz hSw; (try dsimp only at hSw); go_simp <;> try with_reducible rfl)
  try simp only [aP, lA, lZ, lS]
  refine wT (i := 35) (oi := ⟨some 101, _, _, _, _, _⟩) (v := ?v34) rfl (by kernel_rfl) (by kernel_rfl) (by kernel_rfl) (fun _ _ _ h => h) (Or.inl ⟨by rfl, ?hy34⟩) (by assumption) ?r34
  case hy34 => (intro wz hSw; (try dsimp only at hSw); go_simp <;> try with_reducible rfl)
  try simp only [aP, lA, lZ, lS]
  refine wT (i := 36) (oi := ⟨some 102, _, _, _, _, _⟩) (v := ?v35) rfl (by kernel_rfl) (by kernel_rfl) (by kernel_rfl) (fun _ _ _ h => h) (Or.inl ⟨by rfl, ?hy35⟩) (by assumption) ?r35
  case hy35 => (intro wz hSw; (try dsimp only at hSw); go_simp <;> try with_reducible rfl)
  try simp only [aP, lA, lZ, lS]
  refine wT (i := 37) (oi := ⟨some 103, _, _, _, _, _⟩) (v := ?v36) rfl (by kernel_rfl) (by kernel_rfl) (by kernel_rfl) (fun _ _ _ h => h) (Or.inl ⟨by rfl, ?hy36⟩) (by assumption) ?r36
  case hy36 => (intro wz hSw; (try dsimp only at hSw); go_simp <;> try with_reducible rfl)
  try simp only [aP, lA, lZ, lS]
  refine wT (i := 38) (oi := ⟨some 104, _, _, _, _, _⟩) (v := ?v37) rfl (by kernel_rfl) (by kernel_rfl) (by kernel_rfl) (fun _ _ _ h => h) (Or.inl ⟨by rfl, ?hy37⟩) (by assumption) ?r37
  case hy37 => (intro wz hSw; (try dsimp only at hSw); go_simp <;> try with_reducible rfl)
  try simp only [aP, lA, lZ, lS]
  refine wT (i := 42) (oi := ⟨some 108, _, _, _, _, _⟩) (v := ?v38) rfl (by kernel_rfl) (by kernel_rfl) (by kernel_rfl) (fun _ _ _ h => h) (Or.inl ⟨by rfl, ?hy38⟩) (by assumption) ?r38
  case hy38 => (intro wz hSw; (try dsimp only at hSw); go_simp <;> try with_reducible rfl)
  try simp only [aP, lA, lZ, lS]
  refine wpAnyH_ready (rs := [39]) (by kernel_rfl) (by simp) (AllReadyH.cons (o := ⟨some 105, _, _, _, _, _⟩) rfl (fun K hK => ?_) AllReadyH.nil)
  go_simp
  refine hK.out _ _ (conv_in_x w8.drew _ _ _ bs (HD.out.step (H8.out.1.be.trans ((Below.refl _ _).drew))) _ rfl) (fun hHeld => ?_)
  clear hK K
  try simp only [aP, lA, lZ, lS]
  refine wT (i := 40) (oi := ⟨some 106, _, _, _, _, _⟩) (v := ?v39) rfl (by kernel_rfl) (by kernel_rfl) (by kernel_rfl) (fun _ _ _ h => h) (Or.inl ⟨by rfl, ?hy39⟩) (by assumption) ?r39
  case hy39 => (intro wz hSw; (try dsimp only at hSw); go_simp <;> try with_reducible rfl)
  try simp only [aP, lA, lZ, lS]
  refine wpAnyH_ready (rs := [41]) (by kernel_rfl) (by simp) (AllReadyH.cons (o := ⟨some 107, _, _, _, _, _⟩) rfl (fun K hK => ?_) AllReadyH.nil)
  go_simp
  refine hK.out _ _ (conv_in_x w8.drew _ _ _ bs (HD.out.step (H8.out.1.be.trans ((Below.refl _ _).drew))) _ rfl) (fun hHeld => ?_)
  clear hK K
  try simp only [aP, lA, lZ, lS]
  refine wT (i := 43) (oi := ⟨some 109, _, _, _, _, _⟩) (v := ?v40) rfl (by kernel_rfl) (by kernel_rfl) (by kernel_rfl) (fun _ _ _ h => h) (Or.inl ⟨by rfl, ?hy40⟩) (by assumption) ?r40
  case hy40 => (intro wz hSw; (try dsimp only at hSw); go_simp <;> try with_reducible rfl)
  try simp only [aP, lA, lZ, lS]
  refine wT (i := 44) (oi := ⟨some 110, _, _, _, _, _⟩) (v := ?v41) rfl (by kernel_rfl) (by kernel_rfl) (by kernel_rfl) (fun _ _ _ h => h) (Or.inl ⟨by rfl, ?hy41⟩) (by assumption) ?r41
  case hy41 => (intro wz hSw; (try dsimp only at hSw); go_simp <;> try with_reducible rfl)
  try simp only [aP, lA, lZ, lS]
  refine wT (i := 45) (oi := ⟨some 111, _, _, _, _, _⟩) (v := ?v42) rfl (by kernel_rfl) (by kernel_rfl) (by kernel_rfl) (fun _ _ _ h => h) (Or.inl ⟨by rfl, ?hy42⟩) (by assumption) ?r42
  case hy42 => (intro wz hSw; (try dsimp only at hSw); go_simp <;> try with_reducible rfl)
  try simp only [aP, lA, lZ, lS]
  refine wT (i := 46) (oi := ⟨some 112, _, _, _, _, _⟩) (v := ?v43) rfl (by kernel_rfl) (by kernel_rfl) (by kernel_rfl) (fun _ _ _ h => h) (Or.inl ⟨by rfl, ?hy43⟩) (by assumption) ?r43
  case hy43 => (intro wz hSw; (try dsimp only at hSw); go_simp <;> try with_reducible rfl)
  try simp only [aP, lA, lZ, lS]
  refine wT (i := 47) (oi := ⟨some 113, _, _, _, _, _⟩) (v := ?v44) rfl (by kernel_rfl) (by kernel_rfl) (by kernel_rfl) (fun _ _ _ h => h) (Or.inl ⟨by rfl, ?hy44⟩) (by assumption) ?r44
  case hy44 => (intro wz hSw; (try dsimp only at hSw); go_simp <;> try with_reducible rfl)
  try simp only [aP, lA, lZ, lS]
  refine wT (i := 48) (oi := ⟨some 114, _, _, _, _, _⟩) (v := ?v45) rfl (by kernel_rfl) (by kernel_rfl) (by kernel_rfl) (fun _ _ _ h => h) (Or.inl ⟨by rfl, ?hy45⟩) (by assumption) ?r45
  case hy45 => (intro wz hSw; (try dsimp only at hSw); go_simp <;> try with_reducible rfl)
  try simp only [aP, lA, lZ, lS]
  refine wT (i := 49) (oi := ⟨some 115, _, _, _, _, _⟩) (v := ?v46) rfl (by kernel_rfl) (by kernel_rfl) (by kernel_rfl) (fun _ _ _ h => h) (Or.inl ⟨by rfl, ?hy46⟩) (by assumption) ?r46
  case hy46 => (intro wz hSw; (try dsimp only at hSw); go_simp <;> try with_reducible rfl)
  try simp only [aP, lA, lZ, lS]
  refine wT (i := 50) (oi := ⟨some 116, _, _, _, _, _⟩) (v := ?v47) rfl (by kernel_rfl) (by kernel_rfl) (by kernel_rfl) (fun _ _ _ h => h) (Or.inl ⟨by rfl, ?hy47⟩) (by assumption) ?r47
  case hy47 => (intro wz hSw; (try dsimp only at hSw); go_simp <;> try with_reducible rfl)
  try simp only [aP, lA, lZ, lS]
  refine wT (i := 51) (oi := ⟨some 117, _, _, _, _, _⟩) (v := ?v48) rfl (by kernel_rfl) (by kernel_rfl) (by kernel_rfl) (fun _ _ _ h => h) (Or.inl ⟨by rfl, ?hy48⟩) (by assumption) ?r48
  case hy48 => (intro wz hSw; (try dsimp only at hSw); go_simp <;> try with_reducible rfl)
  try simp only [aP, lA, lZ, lS]
  refine wT (i := 52) (oi := ⟨some 118, _, _, _, _, _⟩) (v := ?v49) rfl (by kernel_rfl) (by kernel_rfl) (by kernel_rfl) (fun _ _ _ h => h) (Or.inl ⟨by rfl, ?hy49⟩) (by assumption) ?r49
  case hy49 => (intro wz hSw; (try dsimp only at hSw); go_simp <;> try with_reducible rfl)
  try simp only [aP, lA, lZ, lS]
  refine wT (i := 53) (oi := ⟨some 119, _, _, _, _, _⟩) (v := ?v50) rfl (by kernel_rfl) (by kernel_rfl) (by kernel_rfl) (fun _ _ _ h => h) (Or.inl ⟨by rfl, ?hy50⟩) (by assumption) ?r50
  case hy50 => (intro wz hSw; (try dsimp only at hSw); go_simp <;> try with_reducible rfl)
  try simp only [aP, lA, lZ, lS]
  refine wT (i := 56) (oi := ⟨some 122, _, _, _, _, _⟩) (v := ?v51) rfl (by kernel_rfl) (by kernel_rfl) (by kernel_rfl) (fun _ _ _ h => h) (Or.inl ⟨by rfl, ?hy51⟩) (by assumption) ?r51
  case hy51 => (intro wz hSw; (try dsimp only at hSw); go_simp <;> try with_reducible rfl)
  try simp only [aP, lA, lZ, lS]
  refine wT (i := 57) (oi := ⟨some 123, _, _, _, _, _⟩) (v := ?v52) rfl (by kernel_rfl) (by kernel_rfl) (by kernel_rfl) (fun _ _ _ h => h) (Or.inl ⟨by rfl, ?hy52⟩) (by assumption) ?r52
  case hy52 => (intro wz hSw; (try dsimp only at hSw); go_simp <;> try with_reducible rfl)
  try simp only [aP, lA, lZ, lS]
  refine wpAnyH_ready (rs := [54]) (by kernel_rfl) (by simp) (AllReadyH.cons (o := ⟨some 120, _, _, _, _, _⟩) rfl (fun K hK => ?_) AllReadyH.nil)
  go_simp
  refine hK.out _ _ (conv_in_x w8.drew _ _ _ bs (HD.out.step (H8.out.1.be.trans ((Below.refl _ _).drew))) _ rfl) (fun hHeld => ?_)
  clear hK K
  try simp only [aP, lA, lZ, lS]
  refine wpAnyH_ready (rs := [55]) (by kernel_rfl) (by simp) (AllReadyH.cons (o := ⟨some 121, _, _, _, _, _⟩) rfl (fun K hK => ?_) AllReadyH.nil)
  go_simp
  refine hK.out _ _ (conv_in_x w8.drew _ _ _ bs (HD.out.step (H8.out.1.be.trans ((Below.refl _ _).drew))) _ rfl) (fun hHeld => ?_)
  clear hK K
  try simp only [aP, lA, lZ, lS]
  refine wT (i := 58) (oi := ⟨some 124, _, _, _, _, _⟩) (v := ?v53) rfl (by kernel_rfl) (by kernel_rfl) (by kernel_rfl) (fun _ _ _ h => h) (Or.inl ⟨by rfl, ?hy53⟩) (by assumption) ?r53
  case hy53 => (intro wz hSw; (try dsimp only at hSw); go_simp <;> try with_reducible rfl)
  try simp only [aP, lA, lZ, lS]
  refine wT (i := 59) (oi := ⟨some 125, _, _, _, _, _⟩) (v := ?v54) rfl (by kernel_rfl) (by kernel_rfl) (by kernel_rfl) (fun _ _ _ h => h) (Or.inl ⟨by rfl, ?hy54⟩) (by assumption) ?r54
  case hy54 => (intro wz hSw; (try dsimp only at hSw); go_simp <;> try with_reducible rfl)
  try simp only [aP, lA, lZ, lS]
  refine wT (i := 60) (oi := ⟨some 126, _, _, _, _, _⟩) (v := ?v55) rfl (by kernel_rfl) (by kernel_rfl) (by kernel_rfl) (fun _ _ _ h => h) (Or.inl ⟨by rfl, ?hy55⟩) (by assumption) ?r55
  case hy55 => (intro wz hSw; (try dsimp only at hSw); go_simp <;> try with_reducible rfl)
  try simp only [aP, lA, lZ, lS]
  refine wT (i := 61) (oi := ⟨some 127, _, _, _, _, _⟩) (v := ?v56) rfl (by kernel_rfl) (by kernel_rfl) (by kernel_rfl) (fun _ _ _ h => h) (Or.inl ⟨by rfl, ?hy56⟩) (by assumption) ?r56
  case hy56 => (intro wz hSw; (try dsimp only at hSw); go_simp <;> try with_reducible rfl)
  try simp only [aP, lA, lZ, lS]
  refine wT (i := 62) (oi := ⟨some 128, _, _, _, _, _⟩) (v := ?v57) rfl (by kernel_rfl) (by kernel_rfl) (by kernel_rfl) (fun _ _ _ h => h) (Or.inl ⟨by rfl, ?hy57⟩) (by assumption) ?r57
  case hy57 => (intro wz hSw; (try dsimp only at hSw); go_simp <;> try with_reducible rfl)
  try simp only [aP, lA, lZ, lS]
  refine wT (i := 63) (oi := ⟨some 129, _, _, _, _, _⟩) (v := ?v58) rfl (by kernel_rfl) (by kernel_rfl) (by kernel_rfl) (fun _ _ _ h => h) (Or.inl ⟨by rfl, ?hy58⟩) (by assumption) ?r58
  case hy58 => (intro wz hSw; (try dsimp only at hSw); go_simp <;> try with_reducible rfl)
  try simp only [aP, lA, lZ, lS]
  refine wT (i := 65) (oi := ⟨some 131, _, _, _, _, _⟩) (v := ?v59) rfl (by kernel_rfl) (by kernel_rfl) (by kernel_rfl) (fun _ _ _ h => h) (Or.inl ⟨by rfl, ?hy59⟩) (by assumption) ?r59
  case hy59 => (intro wz hSw; (try dsimp only at hSw); go_simp <;> try with_reducible rfl)
  try simp only [aP, lA, lZ, lS]
  refine wpAnyH_ready (rs := [64]) (by kernel_rfl) (by simp) (AllReadyH.cons (o := ⟨some 130, _, _, _, _, _⟩) rfl (fun K hK => ?_) AllReadyH.nil)
  go_simp
  refine hK.out _ _ (conv_in_x w8.drew _ _ _ bs (HD.out.step (H8.out.1.be.trans ((Below.refl _ _).drew))) _ rfl) (fun hHeld => ?_)
  clear hK K
  try simp only [aP, lA, lZ, lS]
  refine wpAnyH_ready (rs := [66]) (by kernel_rfl) (by simp) (AllReadyH.cons (o := ⟨some 132, _, _, _, _, _⟩) rfl (fun K hK => ?_) AllReadyH.nil)
  go_simp
  go_at_call 15
  refine KS.out.mono ?_
  rintro e w9 ⟨rfl, gx9, x9, hb9, H9⟩
  have KI := xIdle_yes H9.out.1.a H9.out.2.1 H9.out.2.2.1
  rw [hb9] at KI
  replace KI := keep KI
  clear hb9 kc1
  (try go_wp2_with fail)
  refine hK.out _ _ (conv_in_x w9 _ _ _ bs (HD.out.step H9.out.1.be) _ rfl) (fun hHeld => ?_)
  clear hK K
  try simp only [aP, lA, lZ, lS]
  refine wT (i := 67) (oi := ⟨some 133, _, _, _, _, _⟩) (v := ?v60) rfl (by kernel_rfl) (by kernel_rfl) (by kernel_rfl) (fun _ _ _ h => h) (Or.inl ⟨by rfl, ?hy60⟩) (by assumption) ?r60
  case hy60 => (intro wz hSw; (try dsimp only at hSw); go_simp <;> try with_reducible rfl)
  try simp only [aP, lA, lZ, lS]
  refine wT (i := 68) (oi := ⟨some 134, _, _, _, _, _⟩) (v := ?v61) rfl (by kernel_rfl) (by kernel_rfl) (by kernel_rfl) (fun _ _ _ h => h) (Or.inl ⟨by rfl, ?hy61⟩) (by assumption) ?r61
  case hy61 => (intro wz hSw; (try dsimp only at hSw); go_simp <;> try with_reducible rfl)
  try simp only [aP, lA, lZ, lS]
  refine wT (i := 69) (oi := ⟨some 135, _, _, _, _, _⟩) (v := ?v62) rfl (by kernel_rfl) (by kernel_rfl) (by kernel_rfl) (fun _ _ _ h => h) (Or.inl ⟨by rfl, ?hy62⟩) (by assumption) ?r62
  case hy62 => (intro wz hSw; (try dsimp only at hSw); go_simp <;> try with_reducible rfl)
  try simp only [aP, lA, lZ, lS]
  refine wT (i := 70) (oi := ⟨some 136, _, _, _, _, _⟩) (v := ?v63) rfl (by kernel_rfl) (by kernel_rfl) (by kernel_rfl) (fun _ _ _ h => h) (Or.inl ⟨by rfl, ?hy63⟩) (by assumption) ?r63
  case hy63 => (intro wz hSw; (try dsimp only at hSw); go_simp <;> try with_reducible rfl)
  try simp only [aP, lA, lZ, lS]
  refine wpAnyH_ready (rs := [71]) (by kernel_rfl) (by simp) (AllReadyH.cons (o := ⟨some 137, _, _, _, _, _⟩) rfl (fun K hK => ?_) AllReadyH.nil)
  go_simp
  go_at_call 18
  refine KI.out.mono ?_
  rintro e w' ⟨rfl, rfl⟩
  (try go_wp2_with fail)
  refine hK.out _ _ (conv_in_x w9 _ _ _ bs (HD.out.step H9.out.1.be) _ rfl) (fun hHeld => ?_)
  clear hK K
  try simp only [aP, lA, lZ, lS]
  refine wT (i := 72) (oi := ⟨some 138, _, _, _, _, _⟩) (v := ?v64) rfl (by kernel_rfl) (by kernel_rfl) (by kernel_rfl) (fun _ _ _ h => h) (Or.inl ⟨by rfl, ?hy64⟩) (by assumption) ?r64
  case hy64 => (intro wz hSw; (try dsimp only at hSw); go_simp <;> try with_reducible rfl)
  try simp only [aP, lA, lZ, lS]
  refine wT (i := 73) (oi := ⟨some 8, _, _, _, _, _⟩) (v := ?v65) rfl (by kernel_rfl) (by kernel_rfl) (by kernel_rfl) (fun _ _ _ h => h) (Or.inl ⟨by rfl, ?hy65⟩) (by assumption) ?r65
  case hy65 => (intro wz hSw; (try dsimp only at hSw); go_simp <;> try with_reducible rfl)
  try simp only [aP, lA, lZ, lS]
  refine wpAnyH_done (by kernel_rfl) ?_ _
  all_goals go_wp2_with fail
  all_goals go_ret
  all_goals exact ⟨rfl, H9.out.1.be⟩
end Go.Proofs.YtikiooofoaclmaaGreat
