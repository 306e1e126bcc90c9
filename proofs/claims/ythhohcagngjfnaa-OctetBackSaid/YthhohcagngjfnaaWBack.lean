/- The walk of the law OctetBack. -/
import Derived.Test.YthhohcagngjfnaaGets
namespace Go.Proofs.Ythhohcagngjfnaa
open Go.RowKit
set_option linter.unusedVariables false

theorem back_list (x : UInt8) (y z p q r s : UInt8) (ds : List UInt8) :
    padB (([] ++ [x] ++ [y, z] ++ [p, q, r, s]) ++ ds) = x :: y :: z :: p :: q :: r :: s :: (ds ++ List.replicate ((4 - (7 + ds.length) % 4) % 4) 0) := by
  simp only [padB, List.nil_append, List.cons_append, List.length_cons]
  rw [show ds.length + 1 + 1 + 1 + 1 + 1 + 1 + 1 = 7 + ds.length by omega]

theorem octetBack_walk (a b v : Int) (A : Option Addr) (n c : Nat) (ds : List UInt8) (w : World) (wa : (Lit.int .u8 a).wf = true) (wb : (Lit.int .u16 b).wf = true) (wv : (Lit.int .u32 v).wf = true) (ha : BS w A n c ds) :
    Calls Try.prog 5 #[.int .u8 a, .int .u16 b, .int .u32 v, .slice A n c] w fun e w' => e = .returned (.bool true) ∧ Below w.heap.size w w' := by
  have ⟨a0, a1⟩ := bounds_u8 wa
  have ⟨b0, b1⟩ := bounds_u16 wb
  have ⟨v0, v1⟩ := bounds_u32 wv
  by_cases hn : n ≤ 2000
  · obtain ⟨i0, hi0, hz0, hz1, hz2⟩ := info_parts u8_info
    have hl : n = (bc ds).length := by rw [bc_length, ha.len]
    have HL := keep hl
    clear hl
    go_enter Try.func5, Try.ntmps5
    go_wp2_with (go_at_call 9; refine (awake_any w).mono ?_; rintro e w1 ⟨rfl, hb1⟩)
    refine (put8_any none 0 0 [] a (by omega) (by omega) w1 (BS.nil w1) (by omega)).mono ?_
    rintro e w2 ⟨A2, n2, c2, rfl, hs2, hb2, ho2⟩
    have hn2 : n2 ≤ 10 := by have := hs2.len; simp at this; omega
    have hB2 := up hb1 hb2
    go_wp2_with fail
    refine (put16_any A2 n2 c2 _ b (by omega) (by omega) w2 hs2 (by omega)).mono ?_
    rintro e w3 ⟨A3, n3, c3, rfl, hs3, hb3, ho3⟩
    have hn3 : n3 ≤ 10 := by have := hs3.len; simp at this; omega
    have hB3 := up hB2 hb3
    go_wp2_with fail
    refine (put32_any A3 n3 c3 _ v (by omega) (by omega) w3 hs3 (by omega)).mono ?_
    rintro e w4 ⟨A4, n4, c4, rfl, hs4, hb4, ho4⟩
    have hn4 : n4 ≤ 10 := by have := hs4.len; simp at this; omega
    have hB4 := up hB3 hb4
    have ha4 := ha.step hB4
    clear hb1 hb2 hs2 ho2 hn2 hB2 hb3 hs3 ho3 hn3
    go_wp2_with (at_builtin; refine wpl_append rfl (.tmp 31) (.tmp 32) 22 rfl w3.heap.size 5 i0 (.int .u8 0) Try.underlying22 hi0 hz0 hz1 rfl _ n4 _ rfl ho4.out A n c (bc ds) rfl HL.out ha4.br.sr (bc_one ds) (by unfold maxLen; omega) (by rw [hz2]; omega) hb4.size ?_; intro A5 c5 w5 ho5 hb5)
    have hs5 : BS w5 A5 (n4 + n) c5 _ := BS.of_own (by rw [bc_append]; exact ho5.out)
    have hB5 : Below w.heap.size w w5 := hB4.trans (hb5.mono hB3.size)
    clear ho4 hb4 hs4 hB4 ha4 ho5 hb5 hB3
    refine (pad_any A5 (n4 + n) c5 _ w5 hs5 (by omega)).mono ?_
    rintro e w6 ⟨A6, n6, c6, rfl, hs6, hb6, ho6⟩
    rw [back_list] at hs6
    have hB6 := up hB5 hb6
    have hn6 : n6 ≤ 3000 := by have := hs6.len; simp at this; rw [← ha.len] at this; omega
    have hm6 : (n6 : Int) % 4 = 0 := by have := hs6.len; simp at this; rw [← ha.len] at this; omega
    clear hs5 hB5 hb6 ho6
    go_wp2_with fail
    refine (new_any A6 n6 c6 _ w6 hs6 (by omega)).mono ?_
    rintro e w7 ⟨g, A7, n7, c7, rfl, hr7, hg7, hb7⟩
    have hgw : w.heap.size ≤ g := Nat.le_trans hB6.size hg7
    have hB7 := up hB6 hb7
    clear hs6 hB6 hb7 hg7
    go_wp2_with fail
    refine (get8_put g A7 n7 c7 a _ (by omega) (by omega) w7 hr7).mono ?_
    rintro e w8 ⟨rfl, A8, n8, c8, hr8, hg8⟩
    have hB8 := hB7.trans (grown_below hg8 hgw hr7.lt)
    clear hr7 hg8 hB7
    go_wp2_with fail
    refine (get16_put g A8 n8 c8 b _ (by omega) (by omega) w8 hr8).mono ?_
    rintro e w9 ⟨rfl, A9, n9, c9, hr9, hg9⟩
    have hB9 := hB8.trans (grown_below hg9 hgw hr8.lt)
    clear hr8 hg9 hB8
    go_wp2_with fail
    refine (get32_put g A9 n9 c9 v _ (by omega) (by omega) w9 hr9).mono ?_
    rintro e w10 ⟨rfl, A10, n10, c10, hr10, hg10⟩
    have hB10 := hB9.trans (grown_below hg10 hgw hr9.lt)
    clear hr9 hg10 hB9
    have hn10 := hr10.2.len
    have hN10 : n ≤ n10 ∧ n10 ≤ 3000 := by simp at hn10; rw [← ha.len] at hn10; omega
    clear hn10
    go_wp2_with fail
    refine (bytes_some g A10 n10 c10 _ n (by omega) (by omega) w10 hr10).mono ?_
    rintro e w11 ⟨A11, c11, rfl, hs11, A12, n12, c12, hr12, hg12⟩
    rw [List.take_left' (show ds.length = n from ha.len.symm)] at hs11
    rw [List.drop_left' (show ds.length = n from ha.len.symm)] at hr12
    have hB12 := hB10.trans (grown_below hg12 hgw hr10.lt)
    clear hr10 hg12 hB10 hN10
    have hn12 := hr12.2.len
    rw [List.length_replicate, ← ha.len] at hn12
    rw [← ha.len] at hr12
    have hsz := hB12.size
    obtain ⟨m, hm⟩ : ∃ m, m = (4 - (7 + n) % 4) % 4 := ⟨_, rfl⟩
    rw [← hm] at hn12 hr12
    have K := rpad_some g A12 n12 c12 _ (7 + n) m (by omega) hm (by omega) w11 hr12
    rw [show ((7 + n : Nat) : Int) = 7 + (n : Int) by omega] at K
    replace K := keep K
    clear hm
    have ha11 := ha.step hB12
    go_wp2_with fail
    refine K.out.mono ?_
    rintro e w13 (⟨_, rfl, A13, n13, c13, hr13, hg13⟩ | ⟨hno, _⟩)
    · rw [List.drop_replicate, Nat.sub_self, List.replicate_zero] at hr13
      have hn13 : n13 = 0 := hr13.2.len
      subst hn13
      have hs13 := hs11.past hr12 hg13
      have hB13 := hB12.trans (grown_below hg13 hgw hr12.lt)
      have K13 := keep (same_eq A11 A n n c11 c _ _ w13 hs13 (ha.step hB13) rfl)
      clear hr12 hg13 hB12 K hs11 hn12 ha11
      go_wp2_with (go_at_call 10; refine K13.out.mono ?_; rintro e w14 ⟨rfl, hb14⟩)
      have hr14 := hr13.step hb14
      refine (left_any g A13 0 c13 _ w14 hr14).mono ?_
      rintro e w15 ⟨rfl, rfl⟩
      go_wp2_with fail
      go_ret
      exact ⟨rfl, up hB13 hb14⟩
    · exact absurd (by simp) hno
  · have hn' : 2000 < (n : Int) := by omega
    go_enter Try.func5, Try.ntmps5
    go_wp2_with (go_at_call 9; refine (awake_any w).mono ?_; rintro e w1 ⟨rfl, hb1⟩)
    go_ret
    exact ⟨rfl, hb1⟩
end Go.Proofs.Ythhohcagngjfnaa
