/- The walk of CookieCodes. -/
import Derived.Test.YtbkcjpimjipnfaaK7
import Derived.Test.YtbkcjpimjipnfaaRow
import Derived.Test.YtbkcjpimjipnfaaBits
import Derived.OpenShut
namespace Go.Proofs.Ytbkcjpimjipnfaa
open Go.RowKit
set_option linter.unusedVariables false

theorem CB.drawn {w : World} {g : Nat} {s : CS} (h : CB w g s) : CB w.drew g s := h
set_option maxRecDepth 100000 in
set_option maxHeartbeats 1000000 in
theorem codes_none (s : CS) (hm : ¬ s.may) (at_ : Int) (by_ : Int) (w : World) :
    Calls Try.prog 7 #[.agg s.cells, .int .i64 at_, .int .u8 by_] w fun e w' => e = .returned (.bool true) ∧ Below w.heap.size w w' := by
  have C0 := keep (CB.new w s)
  have l1 := keep (below_lay w (.cells s.cells 27))
  have KE := keep (fun A c w => encode_not A c s hm w)
  obtain ⟨made, life, tag, peer, fst, pf, room, out, inn, t0, t1⟩ := s
  dsimp only [CS.cells] at l1 KE ⊢
  clear hm
  go_enter Try.func7, Try.ntmps7
  go_wp2_with (go_at_call 9; refine (awake_any _).mono ?_; rintro e w1 ⟨rfl, hb1⟩; have H1 := keep (And.intro (C0.out.step hb1) (up l1.out hb1)); clear hb1 C0)
  have L0 := keep H1.out.2
  obtain ⟨q0, q1, q2, q3, q4, q5, q6, q7, q8, q9, q10⟩ := H1.out.1.all
  go_cut [8, 9] from 18 to 25 (fun x y wx => x = .slice none 0 0 ∧ y = .bool false ∧ Hid (Below w.heap.size w wx))
  case first =>
    go_region_with (first
      | (go_at_call 19; refine (key_any _).mono ?_; rintro e w2 ⟨A2, c2, rfl, s2, b2⟩
         have C2 := (CB.drawn H1.out.1).step b2
         obtain ⟨p0, p1, p2, p3, p4, p5, p6, p7, p8, p9, p10⟩ := C2.all
         have H2 := keep (L0.out.drew.trans (b2.mono L0.out.drew.size))
         clear C2 s2 b2)
      | (go_at_call 10; refine (KE.out _ _ _).mono ?_; rintro e w3 ⟨rfl, b3⟩
         have H3 := keep (H2.out.trans (b3.mono H2.out.size))
         clear b3))
    all_goals (try go_wp2_with fail)
    all_goals go_meet
    all_goals exact ⟨rfl, rfl, H3⟩
  case rest =>
    obtain ⟨rfl, rfl, HB⟩ := hcut
    go_wp2_with fail
    go_ret
    exact ⟨rfl, HB.out⟩

theorem short_c (K : Option Addr) (ck : Nat) (A : Option Addr) (n c : Nat) (hn : n < 60) (w : World) :
    Calls Try.prog 14 #[.slice K 16 ck, .slice A n c] w fun e w' => e = .returned (.tuple #[.agg zeroC, .int .i64 2]) ∧ Below w.heap.size w w' := decode_short K ck A n c hn w
theorem long_c (K : Option Addr) (ck : Nat) (A : Option Addr) (n c : Nat) (hn : 60 < n) (w : World) :
    Calls Try.prog 14 #[.slice K 16 ck, .slice A n c] w fun e w' => e = .returned (.tuple #[.agg zeroC, .int .i64 3]) ∧ Below w.heap.size w w' := decode_long K ck A n c hn w
theorem dec_short (key b : List UInt8) (hk : key.length = 16) (h : b.length < 60) : dec key b = (.zero, 2) := by
  unfold dec
  rw [if_neg (by simp [hk]), if_pos h]
theorem dec_long (key b : List UInt8) (hk : key.length = 16) (h : 60 < b.length) : dec key b = (.zero, 3) := by
  unfold dec
  rw [if_neg (by simp [hk]), if_neg (by omega), if_pos (.inl h)]
theorem dec_turned (key : List UInt8) (s : CS) (hk : key.length = 16) (j : Nat) (h0 : 48 ≤ j) (h1 : j < 56) (y : UInt8) (hy : y ≠ 0) : dec key ((enc key s).set j ((enc key s).getD j 0 ^^^ y)) = (.zero, 6) := by
  have hne := set_ne (enc key s) j (by rw [enc_length]; omega) y hy
  unfold dec
  rw [if_neg (by simp [hk]), if_neg (by rw [List.length_set, enc_length]; omega)]
  rw [if_neg (by rw [List.length_set, enc_length, List.drop_set_of_lt h1, enc_drop]; simp)]
  rw [List.take_set, List.set_eq_of_length_le (by rw [List.length_take, enc_length]; omega), enc_take]
  rw [if_pos (fun h => hne h.symm)]
theorem and7 (i : Int) : ∃ k : Nat, bits .and .i64 i 7 = (k : Int) ∧ k < 8 := by
  have h := and_i64 i 3 (by decide)
  refine ⟨(i % 8).toNat, h.trans ?_, by omega⟩
  show i % 8 = _
  omega

set_option maxRecDepth 100000 in
set_option maxHeartbeats 4000000 in
theorem codes_of (s sx : CS) (hs : s.ok) (hm : s.may) (at_ : Int) (z : UInt8) (x : Int) (hx : ((z.toNat : Int) = 0 ∧ x = 0) ∨ (0 < (z.toNat : Int) ∧ x = 6))
    (hx3 : ∀ j, 48 ≤ j → j < 56 → dec (cnt 16) ((enc (cnt 16) s).set j ((enc (cnt 16) s).getD j 0 ^^^ z)) = (sx, x)) (w : World) :
    Calls Try.prog 7 #[.agg s.cells, .int .i64 at_, .int .u8 (z.toNat : Int)] w fun e w' => e = .returned (.bool true) ∧ Below w.heap.size w w' := by
  obtain ⟨i0, hi0, hz0, hz1, hz2⟩ := info_parts u8_info
  have C0 := keep (CB.new w s)
  have l1 := keep (below_lay w (.cells s.cells 27))
  have KE := keep (fun A c w h => encode_some A c (cnt 16) s hs hm w h)
  have hlen := enc_length (cnt 16) s
  obtain ⟨bs, hbs⟩ : ∃ bs, enc (cnt 16) s = bs := ⟨_, rfl⟩
  rw [hbs] at KE hlen hx3
  obtain ⟨q, hq, hq1⟩ := and7 at_
  obtain ⟨t, ht, ht1⟩ := and65535 at_
  obtain ⟨r, hr⟩ : ∃ r : Nat, (t : Int) % 60 = (r : Int) := ⟨t % 60, rfl⟩
  have hr1 : (r : Int) < 60 := hr ▸ Int.emod_lt_of_pos _ (by decide)
  have hrt : ((t : Int)).tmod 60 = (r : Int) := by rw [Int.tmod_eq_emod_of_nonneg (by omega)]; exact hr
  obtain ⟨j, hj⟩ : ∃ j : Nat, (48 : Int) + (q : Int) = (j : Int) := ⟨48 + q, by omega⟩
  have hj1 : (j : Int) < 60 := by omega
  have HJ := keep (show 48 ≤ j ∧ j < 56 by omega)
  have HX3 := keep (hx3 j HJ.out.1 HJ.out.2)
  obtain ⟨v, hv⟩ : ∃ v, bs.getD j 0 = v := ⟨_, rfl⟩
  have hxz : bits .xor .u8 (v.toNat : Int) (z.toNat : Int) = ((v ^^^ z).toNat : Int) := by
    rw [xor_u8 _ _ v.toNat_lt z.toNat_lt, UInt8.toNat_xor]
  obtain ⟨p, hp⟩ : ∃ p : UInt8, v ^^^ z = p := ⟨_, rfl⟩
  rw [hp] at hxz
  rw [hv, hp] at HX3
  have HV := keep hv
  have HXX := keep hx
  clear hx
  have HL := keep hlen
  have HK16 := keep (cnt_length 16)
  obtain ⟨made, life, tag, peer, fst, pf, room, out, inn, t0, t1⟩ := s
  obtain ⟨sm, sl, st, sp, sf, sq, sr, so, si, su, sv⟩ := sx
  dsimp only [CS.cells] at l1 KE ⊢
  clear hs hm hlen hbs hx3 hv hp
  go_enter Try.func7, Try.ntmps7
  go_wp2_with (go_at_call 9; refine (awake_any _).mono ?_; rintro e w1 ⟨rfl, hb1⟩; have H1 := keep (And.intro (C0.out.step hb1) (up l1.out hb1)); clear hb1 C0)
  have L0 := keep H1.out.2
  obtain ⟨q0, q1, q2, q3, q4, q5, q6, q7, q8, q9, q10⟩ := H1.out.1.all
  go_cut [8, 9] from 18 to 105 (fun x y wx => ∃ A c, x = .slice A 60 c ∧ y = .bool true ∧ Hid (BS wx A 60 c bs ∧ Below w.heap.size w wx))
  case first =>
    go_region_with (first
      | (go_at_call 19; refine (key_any _).mono ?_; rintro e w2 ⟨A2, c2, rfl, s2, b2⟩
         have C2 := (CB.drawn H1.out.1).step b2
         obtain ⟨p0, p1, p2, p3, p4, p5, p6, p7, p8, p9, p10⟩ := C2.all
         have H2 := keep (And.intro s2 (L0.out.drew.trans (b2.mono L0.out.drew.size)))
         clear C2 s2 b2)
      | (go_at_call 10; refine (KE.out _ _ _ H2.out.1).mono ?_; rintro e w3 ⟨A3, n3, c3, rfl, s3, b3, _⟩
         obtain rfl : n3 = 60 := by rw [s3.len, HL.out]
         have H3 := keep (And.intro s3 (H2.out.2.trans (b3.mono H2.out.2.size)))
         clear b3 s3))
    all_goals (try go_wp2_with fail)
    all_goals go_meet
    all_goals exact ⟨A3, c3, rfl, rfl, H3⟩
  case rest =>
    obtain ⟨A3, c3, rfl, rfl, HB⟩ := hcut
    have hc30 : ¬ c3 = 0 := by have := HB.out.1.cap; omega
    obtain ⟨b3, o3b, rfl, _⟩ := HB.out.1.place (by decide)
    clear H1 L0 q0 q1 q2 q3 q4 q5 q6 q7 q8 q9 q10 KE l1
    have l3 := below_lay wc (.cells #[] 5)
    have o3 := keep (show (wc.alloc (.cells #[] 5)).ownsRow wc.heap.size 5 1 (.slice (some ⟨wc.heap.size, 0, none⟩) 0 0) 0 [] from own_row (heap_alloc_new wc _) 0 rfl (by decide))
    have hB3 := keep (HB.out.1.step l3)
    replace l3 := keep l3
    go_wp2_with (at_builtin; refine wpl_append rfl _ _ 22 rfl wc.heap.size 5 i0 (.int .u8 0) Try.underlying22 hi0 hz0 hz1 rfl _ 0 [] rfl o3.out (some ⟨b3, o3b, none⟩) 60 c3 (bc bs) rfl (by rw [bc_length]; exact HL.out.symm) hB3.out.br.sr (bc_one _) (by unfold maxLen; omega) (by rw [hz2]; omega) (by simp) ?_
                 intro A4 c4 w4 ho4 hb4
                 simp only [Nat.zero_add, List.nil_append] at ho4
                 replace hb4 := l3.out.trans hb4
                 obtain ⟨g, rfl, hg, hrow, hcap⟩ := own_row_of ho4.out (by decide)
                 have hc5 := hrow.cell j (by have := HJ.out; omega)
                 rw [HV.out] at hc5
                 have hf5 := hrow.frozen j
                 have hr5 := hrow.set j p
                 have hB5 := (HB.out.1.step hb4)
                 have hb5 := HB.out.2.trans ((hb4.setCell (p := ⟨g, j, none⟩) hg (.int .u8 (p.toNat : Int))).mono HB.out.2.size)
                 have hB5' := hB5.step ((Below.refl w4.heap.size w4))
                 replace hr5 := keep hr5
                 replace hb5 := keep hb5
                 replace hcap := keep hcap
                 have hB6 := keep (HB.out.1.step (hb4.setCell (p := ⟨g, j, none⟩) hg (.int .u8 (p.toNat : Int))))
                 clear ho4 hb4 hrow o3 l3 hB3 hB5 hB5')
    have K4 := keep (key_any (w4.setCell ⟨g, j, none⟩ (.int .u8 (p.toNat : Int))))
    clear hc5 hf5
    refine K4.out.mono ?_
    rintro e w5 ⟨A5, c5, rfl, s5, b5⟩
    have K5 := decode_any A5 16 c5 (cnt 16) _ 60 c4 _ w5 s5 ((hr5.out.step b5).bs hcap.out)
    rw [HX3.out] at K5
    dsimp only [DecPost, CS.cells] at K5
    replace K5 := keep K5
    have H5 := keep (And.intro (hB6.out.step b5) (hb5.out.trans (b5.mono hb5.out.size)))
    clear hr5 hb5 hB6 s5 b5 K4
    go_wp2_with fail
    refine K5.out.mono ?_
    rintro e w6 ⟨rfl, b6⟩
    have l6 := below_lay w6 (.cells (CS.cells ⟨sm, sl, st, sp, sf, sq, sr, so, si, su, sv⟩) 27)
    have hb6 := H5.out.2.trans ((up b6 l6).mono H5.out.2.size)
    have H6 := keep (And.intro (H5.out.1.step (up b6 l6)) hb6)
    clear b6 l6 hb6 H5 K5
    go_wp2_with fail
    obtain ⟨w7, hw7⟩ : ∃ w7, w6.alloc (.cells (CS.cells ⟨sm, sl, st, sp, sf, sq, sr, so, si, su, sv⟩) 27) = w7 := ⟨_, rfl⟩
    rw [hw7] at H6
    dsimp only [CS.cells] at hw7
    rw [hw7]
    clear hw7
    have hc3 : (60 : Int) ≤ (c3 : Int) := by have := H6.out.1.cap; omega
    have hrc : (r : Int) ≤ (c3 : Int) := by omega
    have hrn : r ≤ c3 := by omega
    have hr60 : r ≤ 60 := by omega
    have HR := keep hr1
    have HT := keep (H6.out.1.take r c3 (by omega) (by omega))
    have hrr : r < 60 := by omega
    clear HT HR
    go_cut [15] from 18 to 105 (fun y wx => y = .int .i64 2 ∧ Hid (Below w7.heap.size w7 wx))
    case first =>
      go_region_with (first
        | (go_at_call 19; refine (key_any _).mono ?_; rintro e w8 ⟨A8, c8, rfl, _, b8⟩
           first
             | (with_reducible have hbb : Below w7.drew.heap.size w7.drew w8 := b8
                have H8 := keep ((Below.refl w7.heap.size w7).drew.trans (Below.mono hbb (Nat.le_refl w7.heap.size)))
                clear hbb)
             | (have hz8 : SB w8 w7.heap.size CS.zero.cells := (zero_new w7.drew).step b8
                obtain ⟨⟨r0, r1, r2, r3, r4, r5, r6, r7, r8, r9, r10⟩, y0, y1, y2, y3, y4, y5, y6, y7, y8, y9, y10⟩ := hz8.all
                have H8 := keep ((((Below.refl w7.heap.size w7).drew.alloc (Nat.le_refl _) (.cells zeroC 27))).trans (Below.mono b8 (by simp)))
                replace hz8 := keep hz8)
           clear b8)
        | (go_at_call 14; refine (short_c A8 c8 _ r c3 hrr _).mono ?_; rintro e w9 ⟨rfl, b9⟩
           first
             | (with_reducible have hbb : Below w8.heap.size w8 w9 := b9
                have H9 := keep (H8.out.trans (Below.mono hbb H8.out.size))
                clear hbb
                first
                  | (have hz9 := hz8.out.step b9
                     clear r0 r1 r2 r3 r4 r5 r6 r7 r8 r9 r10 y0 y1 y2 y3 y4 y5 y6 y7 y8 y9 y10
                     obtain ⟨⟨r0, r1, r2, r3, r4, r5, r6, r7, r8, r9, r10⟩, y0, y1, y2, y3, y4, y5, y6, y7, y8, y9, y10⟩ := hz9.all
                     clear hz9)
                  | skip)
             | (have hz9 : SB w9 w8.heap.size CS.zero.cells := (zero_new w8).step b9
                obtain ⟨⟨r0, r1, r2, r3, r4, r5, r6, r7, r8, r9, r10⟩, y0, y1, y2, y3, y4, y5, y6, y7, y8, y9, y10⟩ := hz9.all
                have H9 := keep ((H8.out.alloc H8.out.size (.cells zeroC 27)).trans (Below.mono b9 (by have := H8.out.size; simp; omega)))
                clear hz9)
           clear b9))
      all_goals (try go_wp2_with fail)
      all_goals go_meet
      all_goals first
        | with_reducible exact ⟨rfl, keep (H9.out.alloc H9.out.size _)⟩
        | with_reducible exact ⟨rfl, keep (below11 H9.out (Nat.le_refl _) _ _ _ _ _ _ _ _ _ _ _)⟩
        | with_reducible exact ⟨rfl, keep (below11 H9.out H8.out.size _ _ _ _ _ _ _ _ _ _ _)⟩
    case rest =>
      obtain ⟨rfl, H9⟩ := hcut
      have hB10 := keep (H6.out.1.step H9.out)
      have hL10 := keep (H6.out.2.trans (H9.out.mono H6.out.2.size))
      have K10 := keep (key_any wc)
      clear H9 H6
      go_wp2_with fail
      refine K10.out.mono ?_
      rintro e w11 ⟨A11, c11, rfl, _, b11⟩
      have l12 := below_lay w11 (.cells #[] 5)
      have o12 := keep (show (w11.alloc (.cells #[] 5)).ownsRow w11.heap.size 5 1 (.slice (some ⟨w11.heap.size, 0, none⟩) 0 0) 0 [] from own_row (heap_alloc_new w11 _) 0 rfl (by decide))
      have hB12 := keep ((hB10.out.step b11).step l12)
      have hL11 := keep (hL10.out.trans (b11.mono hL10.out.size))
      replace l12 := keep l12
      clear hB10 hL10 b11 K10
      have hxc : ((((z.toNat : Int) == 0) = true ∧ ((z.toNat : Int) != 0) = false) ∧ x = 0) ∨ ((((z.toNat : Int) == 0) = false ∧ ((z.toNat : Int) != 0) = true) ∧ x = 6) := by
        rcases HXX.out with ⟨h1, h2⟩ | ⟨h1, h2⟩
        · exact .inl ⟨⟨by simp [h1], by simp [h1]⟩, h2⟩
        · exact .inr ⟨⟨by simp; omega, by simp; omega⟩, h2⟩
      clear HXX HX3
      rcases hxc with ⟨⟨hz1', hz2'⟩, rfl⟩ | ⟨⟨hz1', hz2'⟩, rfl⟩
      all_goals go_wp2_with (first
        | (at_builtin; refine wpl_append rfl (.tmp 71) (.tmp 72) 22 rfl w11.heap.size 5 i0 (.int .u8 0) Try.underlying22 hi0 hz0 hz1 rfl _ 0 [] rfl o12.out (some ⟨b3, o3b, none⟩) 60 c3 (bc bs) rfl (by rw [bc_length]; exact HL.out.symm) hB12.out.br.sr (bc_one _) (by unfold maxLen; omega) (by rw [hz2]; omega) (by simp) ?_
           intro A13 c13 w13 ho13 hb13
           simp only [Nat.zero_add, List.nil_append] at ho13
           have hb14 := keep (l12.out.trans hb13)
           have o14 := keep (ho13.out.alloc (.cells #[.int .u8 (z.toNat : Int)] 5))
           have l14 := keep (below_lay w13 (.cells #[.int .u8 (z.toNat : Int)] 5))
           have sr14 := keep (SR.row (heap_alloc_new w13 (.cells #[.int .u8 (z.toNat : Int)] 5)))
           clear ho13 hb13 o12 hB12 l12)
        | (at_builtin; refine wpl_append rfl (.tmp 73) (.tmp 75) 22 rfl w11.heap.size 5 i0 (.int .u8 0) Try.underlying22 hi0 hz0 hz1 rfl _ 60 (bc bs) rfl o14.out (some ⟨w13.heap.size, 0, none⟩) 1 1 [.int .u8 (z.toNat : Int)] rfl rfl sr14.out (by simp [Value.oneCell']) (by unfold maxLen; omega) (by rw [hz2]; omega) (Nat.le_trans hb14.out.size l14.out.size) ?_
           intro A15 c15 w15 ho15 hb15
           have hb16 := keep (hb14.out.trans ((l14.out.mono hb14.out.size).trans hb15))
           clear ho15 hb15 o14 sr14 l14 hb14)
        | (go_at_call 14; refine (long_c A11 c11 _ 61 c15 (by decide) _).mono ?_; rintro e w17 ⟨rfl, b17⟩
           have hL17 := keep (hL11.out.trans ((hb16.out.trans (Below.mono b17 hb16.out.size)).mono hL11.out.size))
           clear b17 hb16 hL11))
      all_goals go_ret
      all_goals exact ⟨rfl, hL17.out.alloc hL17.out.size _⟩

theorem cookieCodes_walk (s : CS) (at_ y : Int) (w : World) (hs : s.ok) (hat : (Lit.int .i64 at_).wf = true) (hy : (Lit.int .u8 y).wf = true) :
    Calls Try.prog 7 #[.agg s.cells, .int .i64 at_, .int .u8 y] w fun e w' => e = .returned (.bool true) ∧ Below w.heap.size w w' := by
  by_cases hm : s.may
  · obtain ⟨y0, y1⟩ := bounds_u8 hy
    obtain ⟨z, rfl⟩ : ∃ z : UInt8, y = (z.toNat : Int) := ⟨b8 y, (b8_of y y0 (by omega)).symm⟩
    by_cases hz : z = 0
    · subst hz
      refine codes_of s s hs hm at_ 0 0 (.inl ⟨rfl, rfl⟩) (fun j h0 h1 => ?_) w
      rw [set_same _ _ (by rw [enc_length]; omega)]
      exact dec_enc _ s (cnt_length 16) hs hm
    · have hzi : 0 < (z.toNat : Int) := by
        have : z.toNat ≠ 0 := fun h => hz (UInt8.toNat_inj.1 h)
        omega
      exact codes_of s .zero hs hm at_ z 6 (.inr ⟨hzi, rfl⟩) (fun j h0 h1 => dec_turned _ s (cnt_length 16) j h0 h1 z hz) w
  · exact codes_none s hm at_ y w
end Go.Proofs.Ytbkcjpimjipnfaa
