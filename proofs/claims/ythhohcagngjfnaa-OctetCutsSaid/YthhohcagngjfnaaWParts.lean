/- The walk of the law OctetParts. -/
import Derived.Test.YthhohcagngjfnaaWPuts
namespace Go.Proofs.Ythhohcagngjfnaa
open Go.RowKit
set_option linter.unusedVariables false

theorem padB_length (bs : List UInt8) : (padB bs).length = bs.length + (4 - bs.length % 4) % 4 := by simp [padB]
theorem padB_full (bs : List UInt8) (h : bs.length % 4 = 0) : padB bs = bs := by
  have : (4 - bs.length % 4) % 4 = 0 := by omega
  simp [padB, this]
theorem padB_padB (bs : List UInt8) : padB (padB bs) = padB bs := padB_full _ (by rw [padB_length]; omega)

theorem octetParts_walk (A : Option Addr) (n c : Nat) (bs : List UInt8) (v : Int) (w : World) (ha : BS w A n c bs) (hv : (Lit.int .u32 v).wf = true) :
    Calls Try.prog 7 #[.slice A n c, .int .u32 v] w fun e w' => e = .returned (.bool true) ∧ Below w.heap.size w w' := by
  have hb := bounds_u32 hv
  have h0 : 0 ≤ v := hb.1
  have h1 : v < 4294967296 := by omega
  clear hb
  by_cases hn : n ≤ 2000
  · go_enter Try.func7, Try.ntmps7
    go_wp2_with (go_at_call 9; refine (awake_any w).mono ?_; rintro e w1 ⟨rfl, hb1⟩)
    have ha1 := ha.step hb1
    refine (pad_any A n c bs w1 ha1 (by omega)).mono ?_
    rintro e w2 ⟨A2, n2, c2, rfl, hs2, hb2, ho2⟩
    have hn2 : n ≤ n2 ∧ n2 < n + 4 := by have := hs2.len; rw [padB_length, ← ha.len] at this; omega
    obtain ⟨hn2a, hn2b⟩ := hn2
    have hn2c : (n2 : Int) < (n : Int) + 4 := by omega
    have hB2 := up hb1 hb2
    have ha2 := ha1.step hb2
    clear hb1 hb2 ha1
    go_wp2_with fail
    refine (put32_any A n c bs v h0 h1 w2 ha2 (by omega)).mono ?_
    rintro e w3 ⟨A3, n3, c3, rfl, hs3, hb3, ho3⟩
    go_wp2_with fail
    refine (put16_any A n c bs (v / 65536) (by omega) (by omega) w3 (ha2.step hb3) (by omega)).mono ?_
    rintro e w4 ⟨A4, n4, c4, rfl, hs4, hb4, ho4⟩
    have hn4 : n4 ≤ 3000 := by have := hs4.len; rw [List.length_append, ← ha.len] at this; simp at this; omega
    go_wp2_with fail
    refine (put16_any A4 n4 c4 _ (v % 65536) (by omega) (by omega) w4 hs4 (by omega)).mono ?_
    rintro e w5 ⟨A5, n5, c5, rfl, hs5, hb5, ho5⟩
    have K5 := keep (same_eq A3 A5 n3 n5 c3 c5 _ _ w5 ((hs3.step hb4).step hb5) hs5 (by rw [List.append_assoc, b8_congr (v % 65536) v (by omega), b8_congr (v % 65536 / 256) (v / 256) (by omega), show v / 65536 / 256 = v / 16777216 by omega]; rfl))
    go_wp2_with (go_at_call 10; refine K5.out.mono ?_; rintro e w6 ⟨rfl, hb6⟩)
    have hB6 := up (up (up (up hB2 hb3) hb4) hb5) hb6
    have ha6 := (((ha2.step hb3).step hb4).step hb5).step hb6
    have hs6 := (((hs2.step hb3).step hb4).step hb5).step hb6
    clear K5 hs2 hs3 hs4 hs5 hb3 hb4 hb5 hb6 ha2 hB2 hn4
    refine (put16_any A n c bs (v % 65536) (by omega) (by omega) w6 ha6 (by omega)).mono ?_
    rintro e w7 ⟨A7, n7, c7, rfl, hs7, hb7, ho7⟩
    go_wp2_with fail
    refine (put8_any A n c bs (v / 256 % 256) (by omega) (by omega) w7 (ha6.step hb7) (by omega)).mono ?_
    rintro e w8 ⟨A8, n8, c8, rfl, hs8, hb8, ho8⟩
    have hn8 : n8 ≤ 3000 := by have := hs8.len; rw [List.length_append, ← ha.len] at this; simp at this; omega
    go_wp2_with fail
    refine (put8_any A8 n8 c8 _ (v % 256) (by omega) (by omega) w8 hs8 (by omega)).mono ?_
    rintro e w9 ⟨A9, n9, c9, rfl, hs9, hb9, ho9⟩
    have K9 := keep (same_eq A7 A9 n7 n9 c7 c9 _ _ w9 ((hs7.step hb8).step hb9) hs9 (by rw [List.append_assoc, b8_mod, b8_mod, b8_congr (v % 65536) v (by omega), b8_congr (v % 65536 / 256) (v / 256) (by omega)]; rfl))
    go_wp2_with (go_at_call 10; refine K9.out.mono ?_; rintro e w10 ⟨rfl, hb10⟩)
    have hB10 := up (up (up (up hB6 hb7) hb8) hb9) hb10
    have hs10 := (((hs6.step hb7).step hb8).step hb9).step hb10
    clear K9 hs6 hs7 hs8 hs9 hb7 hb8 hb9 hb10 ha6 hB6 hn8
    refine (pad_any A2 n2 c2 _ w10 hs10 (by omega)).mono ?_
    rintro e w11 ⟨A11, n11, c11, rfl, hs11, hb11, ho11⟩
    have K11 := keep (same_eq A11 A2 n11 n2 c11 c2 _ _ w11 hs11 (hs10.step hb11) (padB_padB bs))
    go_wp2_with (go_at_call 10; refine K11.out.mono ?_; rintro e w12 ⟨rfl, hb12⟩)
    go_ret
    exact ⟨rfl, up (up hB10 hb11) hb12⟩
  · have hn' : 2000 < (n : Int) := by omega
    go_enter Try.func7, Try.ntmps7
    go_wp2_with (go_at_call 9; refine (awake_any w).mono ?_; rintro e w1 ⟨rfl, hb1⟩)
    go_ret
    exact ⟨rfl, hb1⟩
end Go.Proofs.Ythhohcagngjfnaa
