/- The walk of the law OctetNone. -/
import Derived.Test.YthhohcagngjfnaaWParts
namespace Go.Proofs.Ythhohcagngjfnaa
open Go.RowKit
set_option linter.unusedVariables false

theorem make16 (w : World) : (Instr.makeSlice 22 (.int .i64 0) (.int .i64 16)).run Try.prog w = .ok (.slice (some ⟨w.heap.size, 0, none⟩) 0 16) (w.alloc (.cells (List.replicate 16 (.int .u8 0)).toArray 5)) := by
  obtain ⟨i0, hi0, hz0, hz1, hz2⟩ := info_parts u8_info
  have h := run_make (P := Try.prog) w 22 5 i0 (.int .u8 0) Try.underlying22 hi0 hz0 .i64 .i64 0 16 (by omega) (by omega) (by rw [hz2]; omega) (by omega)
  rw [hz1] at h
  simpa [cells_made (.int .u8 0) rfl] using h

theorem one_row (w : World) : BS ((w.alloc (.cells #[.int .u8 7, .int .u8 0, .int .u8 0, .int .u8 0, .int .u8 0, .int .u8 0, .int .u8 0, .int .u8 0, .int .u8 0, .int .u8 0, .int .u8 0, .int .u8 0, .int .u8 0, .int .u8 0, .int .u8 0, .int .u8 0] 5)).alloc (.cells #[.int .u8 7] 5)) (some ⟨w.heap.size, 0, none⟩) 1 16 [b8 7] := by
  refine BS.step ?_ (below_lay _ _)
  exact ⟨rfl, by omega, (SR.row (heap_alloc_new w _)).take 1⟩

theorem octetNone_walk (k : Int) (A : Option Addr) (n c : Nat) (bs : List UInt8) (w : World) (hk : (Lit.int .i64 k).wf = true) (ha : BS w A n c bs) (hr : c ≤ 140737488351232) :
    Calls Try.prog 6 #[.int .i64 k, .slice A n c] w fun e w' => e = .returned (.bool true) ∧ Below w.heap.size w w' := by
  have hm := make16
  have hcap := ha.cap
  have hbk := bounds_i64 hk
  have HP : ∀ W, Hid (Calls Try.prog 24 #[.pointer none, .int .i64 k] W fun e w' => e = .returned (.int .i64 1) ∧ W = w') := by
    intro W
    show Calls _ _ _ _ _
    by_cases h : k < 0
    · exact rpad_neg _ k h W
    · obtain ⟨m, rfl⟩ : ∃ m : Nat, k = m := ⟨k.toNat, by omega⟩
      exact rpad_nil m (by omega) W
  go_enter Try.func6, Try.ntmps6
  go_wp2_with (first
    | (go_at_call 9; refine (awake_any w).mono ?_; rintro e w1 ⟨rfl, hb1⟩)
    | (go_at_call 18; refine (get8_nil _).mono ?_; rintro e w2 ⟨rfl, rfl⟩)
    | (go_at_call 20; refine (get16_nil _).mono ?_; rintro e w2 ⟨rfl, rfl⟩)
    | (go_at_call 21; refine (get32_nil _).mono ?_; rintro e w2 ⟨rfl, rfl⟩)
    | (go_at_call 22; refine (bytes_nil k _).mono ?_; rintro e w2 ⟨rfl, rfl⟩))
  have h1 := one_row w1
  refine (put32_any _ 1 16 [b8 7] 5 (by omega) (by omega) _ h1 (by omega)).mono ?_
  rintro e w2 ⟨A2, n2, c2, rfl, _, hb2, ho2⟩
  have h2 := h1.step hb2
  have hB2 := up (up hb1 (up (below_lay w1 _) (below_lay _ _))) hb2
  have ha2 := ha.step hB2
  clear h1 hb1 hb2 hm
  go_wp2_with fail
  refine (pad_any _ 1 16 [b8 7] _ h2 (by omega)).mono ?_
  rintro e w3 ⟨A3, n3, c3, rfl, _, hb3, ho3⟩
  have h3 := h2.step hb3
  go_wp2_with fail
  refine (put8_any _ 1 16 [b8 7] 9 (by omega) (by omega) _ h3 (by omega)).mono ?_
  rintro e w4 ⟨A4, n4, c4, rfl, hs4, hb4, ho4⟩
  have h4 := h3.step hb4
  go_wp2_with fail
  refine (put8_any _ 1 16 [b8 7] 8 (by omega) (by omega) _ h4 (by omega)).mono ?_
  rintro e w5 ⟨A5, n5, c5, rfl, _, hb5, ho5⟩
  have h5 := h4.step hb5
  have hs5 := hs4.step hb5
  have ha5 := ((ha2.step hb3).step hb4).step hb5
  have hB5 := up (up (up hB2 hb3) hb4) hb5
  clear h2 h3 h4 hs4 ha2 hb3 hb4 hb5 hB2
  have l6 := below_lay w5 (.cells #[.int .u8 7] 5)
  have K6 := keep (same_eq _ _ 1 1 16 1 _ _ _ (h5.step l6) (BS.laid w5 5 [7] (by simp)) (by decide))
  go_wp2_with (first
    | (go_at_call 26; refine (left_nil _).mono ?_; rintro e w2 ⟨rfl, rfl⟩)
    | (go_at_call 24; refine (HP _).out.mono ?_; rintro e w2 ⟨rfl, rfl⟩)
    | (go_at_call 10; refine K6.out.mono ?_; rintro e w6 ⟨rfl, hb6⟩; have hB6 := up (up hB5 l6) hb6; have hs6 := (hs5.step l6).step hb6; have ha6 := (ha5.step l6).step hb6; clear K6 l6 hb6 hs5 h5 ha5 hB5; have l7 := below_lay w6 (.cells #[.int .u8 7, .int .u8 9] 5); have K7 := keep (same_eq A4 _ n4 2 c4 2 _ _ _ (hs6.step l7) (BS.laid w6 5 [7, 9] (by simp)) (by decide)))
    | (go_at_call 10; refine K7.out.mono ?_; rintro e w7 ⟨rfl, hb7⟩; have hB7 := up (up hB6 l7) hb7; have ha7 := (ha6.step l7).step hb7; clear K7 l7 hb7 hs6 ha6 hB6))
  refine (put8_any A n c bs 1 (by omega) (by omega) w7 ha7 (by omega)).mono ?_
  rintro e w8 ⟨A8, n8, c8, rfl, hs8, hb8, ho8⟩
  go_wp2_with fail
  refine (refput_any A n c bs 1 (by omega) (by omega) 1 (by omega) w8 (ha7.step hb8) (by omega)).mono ?_
  rintro e w9 ⟨A9, n9, c9, rfl, hs9, hb9, ho9⟩
  have K9 := keep (same_eq A8 A9 n8 n9 c8 c9 _ _ w9 (hs8.step hb9) hs9 (by rw [octs1]))
  go_wp2_with (go_at_call 10; refine K9.out.mono ?_; rintro e w10 ⟨rfl, hb10⟩)
  go_ret
  exact ⟨rfl, up (up (up hB7 hb8) hb9) hb10⟩
end Go.Proofs.Ythhohcagngjfnaa
