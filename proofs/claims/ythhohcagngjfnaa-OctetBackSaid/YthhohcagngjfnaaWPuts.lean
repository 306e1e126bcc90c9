/- The walk of the law OctetPuts. -/
import Derived.Test.YthhohcagngjfnaaAwake
import Derived.OpenShut
namespace Go.Proofs.Ythhohcagngjfnaa
open Go.RowKit
set_option linter.unusedVariables false

theorem octs1 (v : Int) : octs v 1 1 = [b8 v] := by simp [octs, List.range_succ]
theorem octs2 (v : Int) : octs v 2 2 = [b8 (v / 256), b8 v] := by simp [octs, List.range_succ]
theorem octs4 (v : Int) : octs v 4 4 = [b8 (v / 16777216), b8 (v / 65536), b8 (v / 256), b8 v] := by simp [octs, List.range_succ]
theorem b8_congr (a b : Int) (h : a % 256 = b % 256) : b8 a = b8 b := by unfold b8; rw [h]

theorem octetPuts_walk (A : Option Addr) (n c : Nat) (bs : List UInt8) (v : Int) (w : World) (ha : BS w A n c bs) (hv : (Lit.int .u32 v).wf = true) :
    Calls Try.prog 3 #[.slice A n c, .int .u32 v] w fun e w' => e = .returned (.bool true) ∧ Below w.heap.size w w' := by
  have hb := bounds_u32 hv
  have h0 : 0 ≤ v := hb.1
  have h1 : v < 4294967296 := by omega
  clear hb
  by_cases hn : n ≤ 2000
  · go_enter Try.func3, Try.ntmps3
    go_wp2_with (go_at_call 9; refine (awake_any w).mono ?_; rintro e w1 ⟨rfl, hb1⟩)
    have ha1 := ha.step hb1
    -- one octet
    refine (put8_any A n c bs (v % 256) (by omega) (by omega) w1 ha1 (by omega)).mono ?_
    rintro e w2 ⟨A2, n2, c2, rfl, hs2, hb2, ho2⟩
    go_wp2_with fail
    refine (refput_any A n c bs v h0 h1 1 (by omega) w2 (ha1.step hb2) (by omega)).mono ?_
    rintro e w3 ⟨A3, n3, c3, rfl, hs3, hb3, ho3⟩
    have K3 := keep (same_eq A2 A3 n2 n3 c2 c3 _ _ w3 (hs2.step hb3) hs3 (by rw [octs1, b8_mod]))
    go_wp2_with (go_at_call 10; refine K3.out.mono ?_; rintro e w4 ⟨rfl, hb4⟩)
    have hB4 := up (up (up hb1 hb2) hb3) hb4
    have ha4 := ((ha1.step hb2).step hb3).step hb4
    clear K3 hs2 hs3 hb1 hb2 hb3 hb4 ha1
    -- two
    refine (put16_any A n c bs (v % 65536) (by omega) (by omega) w4 ha4 (by omega)).mono ?_
    rintro e w5 ⟨A5, n5, c5, rfl, hs5, hb5, ho5⟩
    go_wp2_with fail
    refine (refput_any A n c bs v h0 h1 2 (by omega) w5 (ha4.step hb5) (by omega)).mono ?_
    rintro e w6 ⟨A6, n6, c6, rfl, hs6, hb6, ho6⟩
    have K6 := keep (same_eq A5 A6 n5 n6 c5 c6 _ _ w6 (hs5.step hb6) hs6 (by rw [octs2, b8_congr (v % 65536) v (by omega), b8_congr (v % 65536 / 256) (v / 256) (by omega)]))
    go_wp2_with (go_at_call 10; refine K6.out.mono ?_; rintro e w7 ⟨rfl, hb7⟩)
    have hB7 := up (up (up hB4 hb5) hb6) hb7
    have ha7 := ((ha4.step hb5).step hb6).step hb7
    clear K6 hs5 hs6 hb5 hb6 hb7 ha4 hB4
    -- four
    refine (put32_any A n c bs v (by omega) (by omega) w7 ha7 (by omega)).mono ?_
    rintro e w8 ⟨A8, n8, c8, rfl, hs8, hb8, ho8⟩
    go_wp2_with fail
    refine (refput_any A n c bs v h0 h1 4 (by omega) w8 (ha7.step hb8) (by omega)).mono ?_
    rintro e w9 ⟨A9, n9, c9, rfl, hs9, hb9, ho9⟩
    have K9 := keep (same_eq A8 A9 n8 n9 c8 c9 _ _ w9 (hs8.step hb9) hs9 (by rw [octs4]))
    go_wp2_with (go_at_call 10; refine K9.out.mono ?_; rintro e w10 ⟨rfl, hb10⟩)
    have hB10 := up (up (up hB7 hb8) hb9) hb10
    have ha10 := ((ha7.step hb8).step hb9).step hb10
    clear K9 hs8 hs9 hb8 hb9 hb10 ha7 hB7
    -- filled up
    refine (pad_any A n c bs w10 ha10 (by omega)).mono ?_
    rintro e w11 ⟨A11, n11, c11, rfl, hs11, hb11, ho11⟩
    go_wp2_with fail
    refine (refpad_any A n c bs w11 (ha10.step hb11) (by omega)).mono ?_
    rintro e w12 ⟨A12, n12, c12, rfl, hs12, hb12, ho12⟩
    have K12 := keep (same_eq A11 A12 n11 n12 c11 c12 _ _ w12 (hs11.step hb12) hs12 rfl)
    go_wp2_with (go_at_call 10; refine K12.out.mono ?_; rintro e w13 ⟨rfl, hb13⟩)
    go_ret
    exact ⟨rfl, up (up (up hB10 hb11) hb12) hb13⟩
  · have hn' : 2000 < (n : Int) := by omega
    go_enter Try.func3, Try.ntmps3
    go_wp2_with (go_at_call 9; refine (awake_any w).mono ?_; rintro e w1 ⟨rfl, hb1⟩)
    go_ret
    exact ⟨rfl, hb1⟩
end Go.Proofs.Ythhohcagngjfnaa
