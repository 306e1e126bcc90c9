/- The walk of CookieKeys. -/
import Derived.Test.YtbkcjpimjipnfaaK7
import Derived.Test.YtbkcjpimjipnfaaRow
import Derived.Test.YtbkcjpimjipnfaaBits
import Derived.Deep.RegionHeld3
namespace Go.Proofs.Ytbkcjpimjipnfaa
open Go.RowKit
set_option linter.unusedVariables false

theorem and127 (i : Int) : ∃ k : Nat, bits .and .i64 i 127 = (k : Int) ∧ k < 128 := by
  have h := and_i64 i 7 (by decide)
  refine ⟨(i % 128).toNat, h.trans ?_, by omega⟩
  show i % 128 = _
  omega
theorem xor8_some (a b : Int) : ∃ p : UInt8, bits .xor .u8 a b = (p.toNat : Int) :=
  ⟨b8 ((BitVec.ofInt 8 a ^^^ BitVec.ofInt 8 b).toNat : Int), by show IntKind.u8.wrap ((BitVec.ofInt 8 a ^^^ BitVec.ofInt 8 b).toNat : Int) = _; rw [wrap_u8, b8_toNat]⟩
theorem dec_keys (key js : List UInt8) (s : CS) (hk : key.length = 16) (h : s.ok) (hm : s.may) : (enc key s = enc js s ∧ dec key (enc js s) = (s, 0)) ∨ (enc key s ≠ enc js s ∧ dec key (enc js s) = (.zero, 6)) := by
  by_cases he : enc key s = enc js s
  · exact .inl ⟨he, by rw [← he]; exact dec_enc key s hk h hm⟩
  · refine .inr ⟨he, ?_⟩
    unfold dec
    rw [if_neg (by simp [hk]), if_neg (by rw [enc_length]; omega), if_neg (by rw [enc_length, enc_drop]; simp), enc_take]
    exact if_pos he
theorem keys_len (A : Option Addr) (n c : Nat) (s : CS) (hn : n ≠ 16) (at_ : Int) (w : World) :
    Calls Try.prog 8 #[.slice A n c, .agg s.cells, .int .i64 at_] w fun e w' => e = .returned (.bool true) ∧ Below w.heap.size w w' := by
  have hn' : ((n : Int) != 16) = true := by simp; omega
  have l1 := keep (below_lay w (.cells s.cells 27))
  clear hn
  go_enter Try.func8, Try.ntmps8
  go_wp2_with (go_at_call 9; refine (awake_any _).mono ?_; rintro e w1 ⟨rfl, hb1⟩; have H1 := keep (up l1.out hb1); clear hb1)
  go_ret
  exact ⟨rfl, H1.out⟩

set_option maxRecDepth 100000 in
set_option maxHeartbeats 2000000 in
theorem keys_some (A : Option Addr) (c : Nat) (ks : List UInt8) (s : CS) (hs : s.ok) (hm : s.may) (at_ : Int) (w : World) (hk : BS w A 16 c ks) :
    Calls Try.prog 8 #[.slice A 16 c, .agg s.cells, .int .i64 at_] w fun e w' => e = .returned (.bool true) ∧ Below w.heap.size w w' := by
  obtain ⟨i0, hi0, hz0, hz1, hz2⟩ := info_parts u8_info
  have HK := keep hk
  have HL := keep hk.len
  have C0 := keep (CB.new w s)
  have l1 := keep (below_lay w (.cells s.cells 27))
  have KE := keep (fun A c key w h => encode_some A c key s hs hm w h)
  obtain ⟨q, hq, hq1⟩ := and127 at_
  obtain ⟨i, hi⟩ : ∃ i : Nat, (q : Int) / 8 = (i : Int) := ⟨q / 8, rfl⟩
  have hit : ((q : Int)).tdiv 8 = (i : Int) := by rw [Int.tdiv_eq_ediv_of_nonneg (by omega)]; exact hi
  obtain ⟨r, hr⟩ : ∃ r : Nat, (q : Int) % 8 = (r : Int) := ⟨q % 8, rfl⟩
  have hrt : ((q : Int)).tmod 8 = (r : Int) := by rw [Int.tmod_eq_emod_of_nonneg (by omega)]; exact hr
  have hr8 : r < 8 := by omega
  have hi16 : (i : Int) < 16 := by omega
  obtain ⟨v, hv⟩ : ∃ v, ks.getD i 0 = v := ⟨_, rfl⟩
  have HV := keep hv
  have HI := keep hi16
  obtain ⟨p, hp⟩ := xor8_some (v.toNat : Int) (2 ^ r % 256)
  have hjl : (ks.set i p).length = 16 := by rw [List.length_set]; exact hk.len.symm
  obtain ⟨js, hjs⟩ : ∃ js, ks.set i p = js := ⟨_, rfl⟩
  rw [hjs] at hjl
  have HD := keep (dec_keys ks js s hk.len.symm hs hm)
  have HT := keep (And.intro (show (enc ks s).take 48 = (enc js s).take 48 by rw [enc_take, enc_take]) (show (enc ks s).drop 56 = (enc js s).drop 56 by rw [enc_drop, enc_drop]))
  have HLE := keep (And.intro (enc_length ks s) (enc_length js s))
  obtain ⟨ea, hea⟩ : ∃ ea, enc ks s = ea := ⟨_, rfl⟩
  obtain ⟨eb, heb⟩ : ∃ eb, enc js s = eb := ⟨_, rfl⟩
  rw [hea, heb] at HD HT HLE
  replace hjs := keep hjs
  replace hea := keep hea
  replace heb := keep heb
  obtain ⟨made, life, tag, peer, fst, pf, room, out, inn, t0, t1⟩ := s
  dsimp only [CS.cells] at l1 KE ⊢
  clear hs hm hk hv
  go_enter Try.func8, Try.ntmps8
  go_wp2_with (first
    | (go_at_call 9; refine (awake_any _).mono ?_; rintro e w1 ⟨rfl, hb1⟩
       have L1 := up l1.out hb1
       have l2 := below_lay w1 (.cells #[] 5)
       have o2 := keep (show (w1.alloc (.cells #[] 5)).ownsRow w1.heap.size 5 1 (.slice (some ⟨w1.heap.size, 0, none⟩) 0 0) 0 [] from own_row (heap_alloc_new w1 _) 0 rfl (by decide))
       have hB2 := keep ((HK.out.step L1).step l2)
       have H1 := keep (And.intro (C0.out.step hb1) L1)
       replace l2 := keep l2
       clear hb1 C0 L1)
    | (at_builtin; refine wpl_append rfl (.tmp 21) (.tmp 22) 22 rfl w1.heap.size 5 i0 (.int .u8 0) Try.underlying22 hi0 hz0 hz1 rfl _ 0 [] rfl o2.out A 16 c (bc ks) rfl (by rw [bc_length]; exact HL.out) hB2.out.br.sr (bc_one _) (by unfold maxLen; omega) (by rw [hz2]; omega) (by simp) ?_
       intro A4 c4 w4 ho4 hb4
       simp only [Nat.zero_add, List.nil_append] at ho4
       replace hb4 := l2.out.trans hb4
       obtain ⟨g, rfl, hg, hrow, hcap⟩ := own_row_of ho4.out (by decide)
       have hc5 := hrow.cell i (by have := HI.out; omega)
       rw [HV.out] at hc5
       have hf5 := hrow.frozen i
       have hr5 := hrow.set i p
       rw [hjs.out] at hr5
       have hb5 := hb4.setCell (p := ⟨g, i, none⟩) hg (.int .u8 (p.toNat : Int))
       have C5 := H1.out.1.step hb5
       obtain ⟨q0, q1, q2, q3, q4, q5, q6, q7, q8, q9, q10⟩ := C5.all
       have H5 := keep (And.intro C5 (And.intro hr5 (And.intro hcap (H1.out.2.trans (hb5.mono H1.out.2.size)))))
       clear ho4 o2 l2 hB2 hg hcap hb4 hrow hr5 hb5 C5 H1))
  have K5 := KE.out A c ks _ (HK.out.step H5.out.2.2.2)
  rw [hea.out] at K5
  clear hc5 hf5
  refine K5.mono ?_
  rintro e w6 ⟨A6, n6, c6, rfl, s6, hb6, _⟩
  obtain rfl : n6 = 60 := by rw [s6.len, HLE.out.1]
  have C6 := H5.out.1.step hb6
  clear q0 q1 q2 q3 q4 q5 q6 q7 q8 q9 q10 K5
  obtain ⟨q0, q1, q2, q3, q4, q5, q6, q7, q8, q9, q10⟩ := C6.all
  have K6 := KE.out _ c4 js w6 ((H5.out.2.1.step hb6).bs H5.out.2.2.1)
  rw [heb.out] at K6
  replace K6 := keep K6
  have H6 := keep (And.intro s6 (H5.out.2.2.2.trans (hb6.mono H5.out.2.2.2.size)))
  clear s6 hb6 C6 H5
  go_wp2_with fail
  refine K6.out.mono ?_
  rintro e w7 ⟨A7, n7, c7, rfl, s7, hb7, _⟩
  obtain rfl : n7 = 60 := by rw [s7.len, HLE.out.2]
  have L7 := H6.out.2.trans (hb7.mono H6.out.2.size)
  have K7 := decode_any A 16 c ks A7 60 c7 eb w7 (HK.out.step L7) s7
  have H7 := keep (And.intro (H6.out.1.step hb7) (And.intro s7 L7))
  clear s7 hb7 L7 K6 H6 q0 q1 q2 q3 q4 q5 q6 q7 q8 q9 q10
  obtain ⟨sx, x, hdx, hxe⟩ : ∃ sx x, dec ks eb = (sx, x) ∧ ((x == 0) = (ea == eb)) := by
    rcases HD.out with ⟨h1, h2⟩ | ⟨h1, h2⟩
    · exact ⟨_, _, h2, by simp [h1]⟩
    · exact ⟨_, _, h2, by simp [h1]⟩
  rw [hdx] at K7
  obtain ⟨sm, sl, st, sp, sf, sq, sr, so, si, su, sv⟩ := sx
  dsimp only [DecPost, CS.cells] at K7
  replace K7 := keep K7
  clear hdx HD
  go_wp2_with fail
  refine K7.out.mono ?_
  rintro e w8 ⟨rfl, hb8⟩
  have l9 := below_lay w8 (.cells (CS.cells ⟨sm, sl, st, sp, sf, sq, sr, so, si, su, sv⟩) 27)
  have hb9 := up hb8 l9
  have H9 := keep (And.intro (H7.out.1.step hb9) (And.intro (H7.out.2.1.step hb9) (H7.out.2.2.trans (hb9.mono H7.out.2.2.size))))
  clear hb8 l9 hb9 K7 H7
  go_wp2_with fail
  obtain ⟨w9, hw9⟩ : ∃ w9, w8.alloc (.cells (CS.cells ⟨sm, sl, st, sp, sf, sq, sr, so, si, su, sv⟩) 27) = w9 := ⟨_, rfl⟩
  rw [hw9] at H9
  dsimp only [CS.cells] at hw9
  rw [hw9]
  clear hw9
  obtain ⟨b, hb⟩ : ∃ b, (ea == eb) = b := ⟨_, rfl⟩
  rw [hb] at hxe
  have hc6 : (60 : Int) ≤ (c6 : Int) := by have := H9.out.1.cap; omega
  have hc7 : (60 : Int) ≤ (c7 : Int) := by have := H9.out.2.1.cap; omega
  have g6 : ¬ c6 = 56 := by omega
  have g7 : ¬ c7 = 56 := by omega
  have g60 : ¬ c6 = 0 := by omega
  have g70 : ¬ c7 = 0 := by omega
  obtain ⟨b6, o6, rfl, s6⟩ := H9.out.1.part 56 4 (by decide) (by decide)
  obtain ⟨b7, o7, rfl, s7⟩ := H9.out.2.1.part 56 4 (by decide) (by decide)
  have t6 := H9.out.1.take 48 c6 (by decide) (by omega)
  have t7 := H9.out.2.1.take 48 c7 (by decide) (by omega)
  rw [List.take_of_length_le (by rw [List.length_drop]; have := HLE.out.1; omega)] at s6
  rw [List.take_of_length_le (by rw [List.length_drop]; have := HLE.out.2; omega)] at s7
  have hall : ∀ (k : Nat) (X Y : Option Addr) (n m cp dp : Nat) (z : Bool), ((X = some ⟨b6, o6, none⟩ ∧ Y = some ⟨b7, o7, none⟩ ∧ n = 48 ∧ m = 48 ∧ cp = c6 ∧ dp = c7 ∧ z = true) ∨ (X = some ⟨b6, o6 + 56, none⟩ ∧ Y = some ⟨b7, o7 + 56, none⟩ ∧ n = 4 ∧ m = 4 ∧ cp = c6 - 56 ∧ dp = c7 - 56 ∧ z = true) ∨ (X = some ⟨b6, o6, none⟩ ∧ Y = some ⟨b7, o7, none⟩ ∧ n = 60 ∧ m = 60 ∧ cp = c6 ∧ dp = c7 ∧ z = b)) →
      Calls Try.prog 13 #[.slice X n cp, .slice Y m dp] (w9.drewN k) fun e w' => e = .returned (.bool z) ∧ w' = w9.drewN k := by
    rintro k X Y n m cp dp z (⟨rfl, rfl, rfl, rfl, rfl, rfl, rfl⟩ | ⟨rfl, rfl, rfl, rfl, rfl, rfl, rfl⟩ | ⟨rfl, rfl, rfl, rfl, rfl, rfl, rfl⟩)
    · have h := same_ret _ _ 48 48 cp dp _ _ (w9.drewN k) (t6.drewN k) (t7.drewN k)
      rw [show (ea.take 48 == eb.take 48) = true by simp [HT.out.1]] at h
      exact h.mono fun _ _ h => ⟨h.1, h.2.symm⟩
    · have h := same_ret _ _ 4 4 _ _ _ _ (w9.drewN k) (s6.drewN k) (s7.drewN k)
      rw [show (ea.drop 56 == eb.drop 56) = true by simp [HT.out.2]] at h
      exact h.mono fun _ _ h => ⟨h.1, h.2.symm⟩
    · have h := same_ret _ _ 60 60 cp dp _ _ (w9.drewN k) (H9.out.1.drewN k) (H9.out.2.1.drewN k)
      rw [hb] at h
      exact h.mono fun _ _ h => ⟨h.1, h.2.symm⟩
  replace hall := keep hall
  clear s6 s7 t6 t7 hb
  go_quiet ((go_at_call 13; exact Calls.quiet_of_same (hall.out _ _ _ _ _ _ _ _ (by first | exact .inl ⟨rfl, rfl, rfl, rfl, rfl, rfl, rfl⟩ | exact .inr (.inl ⟨rfl, rfl, rfl, rfl, rfl, rfl, rfl⟩) | exact .inr (.inr ⟨rfl, rfl, rfl, rfl, rfl, rfl, rfl⟩)))))
  go_wp2_with fail
  go_ret
  exact ⟨by simp, below_drew_more H9.out.2.2 _⟩

set_option maxRecDepth 100000 in
set_option maxHeartbeats 2000000 in
theorem keys_none (A : Option Addr) (c : Nat) (ks : List UInt8) (s : CS) (hm : ¬ s.may) (at_ : Int) (w : World) (hk : BS w A 16 c ks) :
    Calls Try.prog 8 #[.slice A 16 c, .agg s.cells, .int .i64 at_] w fun e w' => e = .returned (.bool true) ∧ Below w.heap.size w w' := by
  obtain ⟨i0, hi0, hz0, hz1, hz2⟩ := info_parts u8_info
  have HK := keep hk
  have HL := keep hk.len
  have C0 := keep (CB.new w s)
  have l1 := keep (below_lay w (.cells s.cells 27))
  have KE := keep (fun A c w => encode_not A c s hm w)
  obtain ⟨q, hq, hq1⟩ := and127 at_
  obtain ⟨i, hi⟩ : ∃ i : Nat, (q : Int) / 8 = (i : Int) := ⟨q / 8, rfl⟩
  have hit : ((q : Int)).tdiv 8 = (i : Int) := by rw [Int.tdiv_eq_ediv_of_nonneg (by omega)]; exact hi
  obtain ⟨r, hr⟩ : ∃ r : Nat, (q : Int) % 8 = (r : Int) := ⟨q % 8, rfl⟩
  have hrt : ((q : Int)).tmod 8 = (r : Int) := by rw [Int.tmod_eq_emod_of_nonneg (by omega)]; exact hr
  have hr8 : r < 8 := by omega
  have hi16 : (i : Int) < 16 := by omega
  obtain ⟨v, hv⟩ : ∃ v, ks.getD i 0 = v := ⟨_, rfl⟩
  have HV := keep hv
  have HI := keep hi16
  obtain ⟨p, hp⟩ := xor8_some (v.toNat : Int) (2 ^ r % 256)
  obtain ⟨made, life, tag, peer, fst, pf, room, out, inn, t0, t1⟩ := s
  dsimp only [CS.cells] at l1 KE ⊢
  clear hm hk hv
  go_enter Try.func8, Try.ntmps8
  go_wp2_with (first
    | (go_at_call 9; refine (awake_any _).mono ?_; rintro e w1 ⟨rfl, hb1⟩
       have L1 := up l1.out hb1
       have l2 := below_lay w1 (.cells #[] 5)
       have o2 := keep (show (w1.alloc (.cells #[] 5)).ownsRow w1.heap.size 5 1 (.slice (some ⟨w1.heap.size, 0, none⟩) 0 0) 0 [] from own_row (heap_alloc_new w1 _) 0 rfl (by decide))
       have hB2 := keep ((HK.out.step L1).step l2)
       have H1 := keep (And.intro (C0.out.step hb1) L1)
       replace l2 := keep l2
       clear hb1 C0 L1)
    | (at_builtin; refine wpl_append rfl (.tmp 21) (.tmp 22) 22 rfl w1.heap.size 5 i0 (.int .u8 0) Try.underlying22 hi0 hz0 hz1 rfl _ 0 [] rfl o2.out A 16 c (bc ks) rfl (by rw [bc_length]; exact HL.out) hB2.out.br.sr (bc_one _) (by unfold maxLen; omega) (by rw [hz2]; omega) (by simp) ?_
       intro A4 c4 w4 ho4 hb4
       simp only [Nat.zero_add, List.nil_append] at ho4
       replace hb4 := l2.out.trans hb4
       obtain ⟨g, rfl, hg, hrow, hcap⟩ := own_row_of ho4.out (by decide)
       have hc5 := hrow.cell i (by have := HI.out; omega)
       rw [HV.out] at hc5
       have hf5 := hrow.frozen i
       have hb5 := hb4.setCell (p := ⟨g, i, none⟩) hg (.int .u8 (p.toNat : Int))
       have C5 := H1.out.1.step hb5
       obtain ⟨q0, q1, q2, q3, q4, q5, q6, q7, q8, q9, q10⟩ := C5.all
       have H5 := keep (And.intro C5 (H1.out.2.trans (hb5.mono H1.out.2.size)))
       clear ho4 o2 l2 hB2 hg hcap hb4 hrow hb5 C5 H1))
  clear hc5 hf5
  refine (KE.out A c _).mono ?_
  rintro e w6 ⟨rfl, hb6⟩
  have C6 := H5.out.1.step hb6
  clear q0 q1 q2 q3 q4 q5 q6 q7 q8 q9 q10
  obtain ⟨q0, q1, q2, q3, q4, q5, q6, q7, q8, q9, q10⟩ := C6.all
  have H6 := keep (H5.out.2.trans (hb6.mono H5.out.2.size))
  clear hb6 C6 H5
  go_wp2_with fail
  refine (KE.out _ c4 _).mono ?_
  rintro e w7 ⟨rfl, hb7⟩
  have H7 := keep (H6.out.trans (hb7.mono H6.out.size))
  clear hb7 H6 q0 q1 q2 q3 q4 q5 q6 q7 q8 q9 q10
  go_wp2_with fail
  go_ret
  exact ⟨rfl, H7.out⟩
theorem cookieKeys_walk (A : Option Addr) (n c : Nat) (ks : List UInt8) (s : CS) (at_ : Int) (w : World) (hk : BS w A n c ks) (hs : s.ok) (hat : (Lit.int .i64 at_).wf = true) :
    Calls Try.prog 8 #[.slice A n c, .agg s.cells, .int .i64 at_] w fun e w' => e = .returned (.bool true) ∧ Below w.heap.size w w' := by
  by_cases h : n = 16
  · subst h
    by_cases hm : s.may
    · exact keys_some A c ks s hs hm at_ w hk
    · exact keys_none A c ks s hm at_ w hk
  · exact keys_len A n c s h at_ w
end Go.Proofs.Ytbkcjpimjipnfaa
