/- The walk of the law OctetCuts. -/
import Derived.Test.YthhohcagngjfnaaGets
namespace Go.Proofs.Ythhohcagngjfnaa
open Go.RowKit
set_option linter.unusedVariables false

theorem and_low (a : Int) (m : Nat) (hm : m < 9223372036854775808) : ∃ r : Nat, r ≤ m ∧ bits .and .i64 a (m : Int) = (r : Int) := by
  refine ⟨((BitVec.ofInt 64 a).toNat &&& m), Nat.and_le_right, ?_⟩
  show IntKind.i64.wrap ((BitVec.ofInt 64 a &&& BitVec.ofInt 64 (m : Int)).toNat : Int) = _
  have e : (BitVec.ofInt 64 (m : Int)).toNat = m := by
    rw [BitVec.ofInt_natCast, BitVec.toNat_ofNat]
    exact Nat.mod_eq_of_lt (by omega)
  have hle : (BitVec.ofInt 64 a).toNat &&& m ≤ m := Nat.and_le_right
  rw [BitVec.toNat_and, e, IntKind.wrap_i64]
  omega

theorem octetCuts_walk (A : Option Addr) (n c : Nat) (bs : List UInt8) (v : Int) (w : World) (ha : BS w A n c bs) (hv : (Lit.int .i64 v).wf = true) :
    Calls Try.prog 8 #[.slice A n c, .int .i64 v] w fun e w' => e = .returned (.bool true) ∧ Below w.heap.size w w' := by
  by_cases hn : n ≤ 1000
  · obtain ⟨i0, hi0, hz0, hz1, hz2⟩ := info_parts u8_info
    obtain ⟨r, hr, hand⟩ := and_low v 65535 (by omega)
    have hand : bits BinOp.and IntKind.i64 v 65535 = (r : Int) := hand
    obtain ⟨k, hk⟩ : ∃ k, k = r % (n + 1) := ⟨_, rfl⟩
    have hkn : k ≤ n := by rw [hk]; have := Nat.mod_lt r (show 0 < n + 1 by omega); omega
    have hk' : (r : Int) % ((n : Int) + 1) = (k : Int) := by rw [hk]; exact (Int.natCast_emod r (n + 1)).symm
    clear hk
    go_enter Try.func8, Try.ntmps8
    go_wp2_with (go_at_call 9; refine (awake_any w).mono ?_; rintro e w1 ⟨rfl, hb1⟩)
    clear hand
    refine (new_any A n c _ w1 (ha.step hb1) (by omega)).mono ?_
    rintro e w2 ⟨g, A2, n2, c2, rfl, hr2, hg2, hb2⟩
    have hgw : w.heap.size ≤ g := Nat.le_trans hb1.size hg2
    have hB2 := up hb1 hb2
    have hn2 : n2 = n := by rw [hr2.2.len, ha.len]
    rw [hn2] at hr2
    clear hn2 hg2 hb1 hb2
    go_wp2_with fail
    clear hk' hr
    refine (bytes_some g A2 n c2 _ k hkn (by omega) w2 hr2).mono ?_
    rintro e w3 ⟨A3, c3, rfl, hs3, A4, n4, c4, hr4, hg4⟩
    have hB3 := hB2.trans (grown_below hg4 hgw hr2.lt)
    have hn4 : n4 = n - k := by rw [hr4.2.len, List.length_drop, ha.len]
    rw [hn4] at hr4
    clear hn4 hr2 hg4 hB2
    have K5 := left_any g A4 (n - k) c4 _ w3 hr4
    rw [show ((n - k : Nat) : Int) = (n : Int) - (k : Int) by omega] at K5
    replace K5 := keep K5
    go_wp2_with (go_at_call 26; refine K5.out.mono ?_; rintro e w5 ⟨rfl, rfl⟩)
    clear K5
    have K6 := bytes_some g A4 (n - k) c4 _ (n - k) (Nat.le_refl _) (by omega) w3 hr4
    rw [show ((n - k : Nat) : Int) = (n : Int) - (k : Int) by omega] at K6
    refine K6.mono ?_
    rintro e w6 ⟨A6, c6, rfl, hs6, A7, n7, c7, hr7, hg7⟩
    have hB6 := hB3.trans (grown_below hg7 hgw hr4.lt)
    have hs3' := hs3.past hr4 hg7
    rw [List.take_of_length_le (by rw [List.length_drop, ← ha.len]; omega)] at hs6
    have hn7 : n7 = 0 := by rw [hr7.2.len, List.length_drop, List.length_drop, ha.len]; omega
    subst hn7
    clear K6 hr4 hs3 hg7 hB3
    have K8 := keep (bytes_short g A7 0 c7 _ 1 (by omega) (by omega) w6 hr7)
    have K9 := keep (bytes_some g A7 0 c7 _ 0 (by omega) (by omega) w6 hr7)
    go_wp2_with fail
    refine K8.out.mono ?_
    rintro e w8 ⟨rfl, rfl⟩
    go_wp2_with fail
    refine K9.out.mono ?_
    rintro e w9 ⟨A9, c9, rfl, hs9, A10, n10, c10, hr10, hg10⟩
    have hB9 := hB6.trans (grown_below hg10 hgw hr7.lt)
    have h3 := hs3'.past hr7 hg10
    have h6 := hs6.past hr7 hg10
    have ha9 := ha.step hB9
    clear K8 K9 hr7 hs3' hs6 hg10 hB6 hs9 hr10
    have l9 := below_lay w9 (.cells #[] 5)
    have o9 : Hid ((w9.alloc (.cells #[] 5)).ownsRow w9.heap.size 5 1 (.slice (some ⟨w9.heap.size, 0, none⟩) 0 0) 0 []) := own_row (xs := []) (heap_alloc_new w9 _) 0 rfl (by unfold maxLen; omega)
    have L3 := keep (show k = (bc (bs.take k)).length by rw [bc_length, List.length_take, ← ha.len]; omega)
    have L6 := keep (show n - k = (bc (bs.drop k)).length by rw [bc_length, List.length_drop, ← ha.len])
    have hK : k + (n - k) = n := by omega
    replace hK := keep hK
    go_wp2_with (first
      | (at_builtin; refine wpl_append rfl (.tmp 67) (.tmp 68) 22 rfl w9.heap.size 5 i0 (.int .u8 0) Try.underlying22 hi0 hz0 hz1 rfl _ 0 [] rfl o9.out A3 k c3 (bc (bs.take k)) rfl L3.out (h3.step l9).br.sr (bc_one _) (by unfold maxLen; omega) (by rw [hz2]; omega) l9.size ?_; intro A11 c11 w11 ho11 hb11; simp only [Nat.zero_add, List.nil_append] at ho11)
      | (at_builtin; refine wpl_append rfl (.tmp 69) (.tmp 70) 22 rfl w9.heap.size 5 i0 (.int .u8 0) Try.underlying22 hi0 hz0 hz1 rfl _ k _ rfl ho11.out A6 (n - k) c6 (bc (bs.drop k)) rfl L6.out (h6.step (l9.trans hb11)).br.sr (bc_one _) (by unfold maxLen; omega) (by rw [hz2]; omega) (Nat.le_trans l9.size hb11.size) ?_; intro A12 c12 w12 ho12 hb12))
    have h12 := ho12.out
    rw [hK.out, ← bc_append, List.take_append_drop] at h12
    have hb12' : Below w9.heap.size w9 w12 := (l9.trans hb11).trans hb12
    have K12 := keep (same_eq A12 A n n c12 c _ _ w12 (BS.of_own h12) (ha9.step hb12') rfl)
    go_wp2_with (go_at_call 10; refine K12.out.mono ?_; rintro e w13 ⟨rfl, hb13⟩)
    go_ret
    exact ⟨rfl, up (up hB9 hb12') hb13⟩
  · have hn' : 1000 < (n : Int) := by omega
    go_enter Try.func8, Try.ntmps8
    go_wp2_with (go_at_call 9; refine (awake_any w).mono ?_; rintro e w1 ⟨rfl, hb1⟩)
    go_ret
    exact ⟨rfl, hb1⟩
end Go.Proofs.Ythhohcagngjfnaa
