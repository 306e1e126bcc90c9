/- The reference's Encode. -/
import Derived.Test.YtaifigmbjcebeaaVSame
import Derived.Deep.RegionHeld3
namespace Go.Proofs.Ytaifigmbjcebeaa
open Go.RowKit
set_option linter.unusedVariables false

theorem octs_two (v : Int) : octs v 2 2 = [b8 (v / 256), b8 v] := by
  simp [octs, List.range_succ]
theorem u32_wrap (x : Int) : IntKind.u32.wrap x = x % 4294967296 := by simp [IntKind.wrap, IntKind.signed, IntKind.bits]
theorem i64_small (x : Int) (h0 : 0 ≤ x) (h1 : x < 9223372036854775808) : IntKind.i64.wrap x = x := by
  simp [IntKind.wrap, IntKind.signed, IntKind.bits]
  omega
theorem padB_app (L X : List UInt8) (h : L.length % 4 = 0) : padB (L ++ X) = L ++ padB X := by
  unfold padB
  rw [List.length_append, show (L.length + X.length) % 4 = X.length % 4 by omega, List.append_assoc]

theorem renc_many (A : Option Addr) (n c : Nat) (w : World) (hn : 32 < n) :
    Calls Try.prog 13 #[.slice A n c] w fun e w' => e = .returned (.tuple #[.slice none 0 0, .int .i64 10]) ∧ Below w.heap.size w w' := by
  have hn' : 32 < (n : Int) := by omega
  clear hn
  go_enter Try.func13, Try.ntmps13
  go_wp2_with fail
  go_ret2
  exact ⟨rfl, Below.refl _ _⟩

set_option maxHeartbeats 1000000 in
theorem renc_few (A : Option Addr) (n c : Nat) (l : List PX) (w : World) (h : PS w A n c l) (hn : n ≤ 32) :
    Calls Try.prog 13 #[.slice A n c] w (EncPost w (l.map pm)) := by
  obtain ⟨i0, hi0, hz0, hz1, hz2⟩ := info_parts u8_info
  have hn' : ¬ 32 < (n : Int) := by omega
  have HL := keep h.len
  have H := keep h
  clear h
  go_enter Try.func13, Try.ntmps13
  go_wp2_with fail
  go_loopw [4, 5] (fun out i wr => ∃ (j : Nat) (A' : Option Addr) (m c' : Nat), j ≤ n ∧ i = .int .i64 j ∧ out = .slice A' m c' ∧ m ≤ 1300 * j ∧ Hid (BS wr A' m c' (encL ((l.take j).map pm))) ∧ Hid (∀ y ∈ l.take j, y.2.2.1 ≤ 1200) ∧ Below w.heap.size w wr)
    (fun _ i _ => n - (intOf i).toNat)
  case atStart => exact ⟨0, none, 0, 0, Nat.zero_le _, rfl, rfl, Nat.zero_le _, BS.nil _, keep (by simp), Below.refl _ _⟩
  case round =>
    obtain ⟨j, A', m, c', hj, rfl, rfl, hm, ho, hno, hb⟩ := hrel
    by_cases hlt : j < n
    · obtain ⟨b, o, ⟨xk, xa, xn, xc, xv⟩, rfl, hbl, hc0, hc1, hlj, hvp⟩ := (H.out.step hb).at_ hlt
      replace hc0 : wr.cell? ⟨b, o + j * 2, none⟩ = some (.int .u16 xk) := hc0
      replace hc1 : wr.cell? ⟨b, o + j * 2 + 1, none⟩ = some (.slice xa xn xc) := hc1
      have HJ := keep hlj
      have HV := keep hvp
      have HB := keep hb
      clear hlj hvp hb
      by_cases hx : 1200 < xn
      · have hx' : 1200 < (xn : Int) := by omega
        have HX := keep hx
        go_wp2_with fail
        go_ret2
        refine ⟨HB.out, .inl ⟨tooL_true.2 (.inr ⟨_, List.mem_map.2 ⟨_, List.mem_of_getElem? HJ.out, rfl⟩, ?_⟩), rfl⟩⟩
        have h1 : xn = xv.length := HV.out.2.2.len
        have h2 := HX.out
        show 1200 < xv.length
        omega
      · have hx' : ¬ 1200 < (xn : Int) := by omega
        have HX := keep hx
        have k0 := HV.out.1
        have k1 := HV.out.2.1
        simp only at k0 k1
        have hwk : IntKind.u32.wrap xk = xk := by rw [u32_wrap]; omega
        have K1 : Hid (Calls Try.prog 26 #[.slice A' m c', .int .u32 (IntKind.u32.wrap xk), .int .i64 2] wr.drew (RetB wr.drew (encL ((l.take j).map pm) ++ [b8 (xk / 256), b8 xk]))) := by
          rw [hwk, ← octs_two]
          exact refput_any A' m c' _ xk k0 (by omega) 2 (by omega) wr.drew ho.out (by omega)
        have HW4 : Hid (IntKind.u32.wrap (IntKind.i64.wrap (4 + (xn : Int))) = ((4 + xn : Nat) : Int)) := by
          show _ = _
          rw [i64_small _ (by omega) (by omega), u32_wrap]
          omega
        clear hwk
        have HC0 := keep hc0
        have HC1 := keep hc1
        have HBL := keep hbl
        clear hx
        go_wp2_with fail
        go_region_held3 (fun w' => w'.cell? ⟨b, o + j * 2, none⟩ = some (.int .u16 xk) ∧ w'.cell? ⟨b, o + j * 2 + 1, none⟩ = some (.slice xa xn xc))
          (first
            | go_keep
            | (exact ⟨(hB2.cell (p := ⟨b, o + j * 2, none⟩) HBL.out).trans HC0.out, (hB2.cell (p := ⟨b, o + j * 2 + 1, none⟩) HBL.out).trans HC1.out⟩)
            | (exact ⟨(hB1.cell (p := ⟨b, o + j * 2, none⟩) HBL.out).trans HC0.out, (hB1.cell (p := ⟨b, o + j * 2 + 1, none⟩) HBL.out).trans HC1.out⟩))
          (first
            | (go_at_call 26; refine K2.out.mono ?_; rintro e w2 ⟨A2, n2, c2, rfl, hs2, hb2, ho2⟩
               have hB2 := hB1.trans (hb2.mono hB1.size)
               have HO2 := keep (own_mono ho2.out hB1.size)
               have hn2 : n2 = m + 4 := by
                 have h1 := hs2.len
                 have h2 := ho.out.len
                 rw [List.length_append, List.length_append, ← h2] at h1
                 simp at h1
                 omega
               subst hn2
               clear K2 hs2 hb2 ho2)
            | (go_at_call 26; refine K1.out.mono ?_; rintro e w1 ⟨A1, n1, c1, rfl, hs1, hb1, _⟩
               have hB1 : Below wr.heap.size wr w1 := ⟨hb1.os, hb1.tape, hb1.output, hb1.size, hb1.block⟩
               have hn1 : n1 ≤ 100000 := by
                 have h1 := hs1.len
                 have h2 := ho.out.len
                 rw [List.length_append, ← h2] at h1
                 simp at h1
                 omega
               have K2 : Hid (Calls Try.prog 26 #[.slice A1 n1 c1, .int .u32 (IntKind.u32.wrap (IntKind.i64.wrap (4 + (xn : Int)))), .int .i64 2] w1 (RetB w1 (encL ((l.take j).map pm) ++ [b8 (xk / 256), b8 xk] ++ [b8 (((4 + xn : Nat) : Int) / 256), b8 ((4 + xn : Nat) : Int)]))) := by
                 rw [HW4.out, ← octs_two ((4 + xn : Nat) : Int)]
                 exact refput_any A1 n1 c1 _ ((4 + xn : Nat) : Int) (by omega) (by omega) 2 (by omega) w1 hs1 (by omega)
               clear K1 hs1 hb1))
        have HB2 := keep hB2
        have hl4 : xn = (bc xv).length := by rw [bc_length]; exact HV.out.2.2.len
        have HLV := keep hl4
        have HVV := keep (HV.out.2.2.step hB2)
        have hd1 : w2.cell? ⟨b, o + j * 2 + 1, none⟩ = some (.slice xa xn xc) := (hB2.cell (p := ⟨b, o + j * 2 + 1, none⟩) HBL.out).trans HC1.out
        have hsz2 := hB2.size
        clear hl4 hB2 hB1 hc0 hc1
        go_wp2_with (first
          | (at_builtin; refine wpl_append rfl (.tmp 39) (.tmp 44) 26 rfl wr.heap.size 5 i0 (.int .u8 0) Try.underlying26 hi0 hz0 hz1 rfl _ (m + 4) _ rfl HO2.out xa xn xc (bc xv) rfl HLV.out HVV.out.br.sr (bc_one _) (by unfold maxLen; omega) (by rw [hz2]; omega) hsz2 ?_
             intro A3 c3 w3 ho3 hb3
             have hb4 := HB2.out.trans hb3
             have h3 := ho3.out
             rw [← bc_append] at h3
             have KP := keep (refpad_any A3 (m + 4 + xn) c3 _ w3 (BS.of_own h3) (by omega))
             have HB4 := keep hb4
             clear ho3 hb3 hb4 h3)
          | (go_at_call 27; refine KP.out.mono ?_; rintro e w5 ⟨A5, n5, c5, rfl, hs5, hb5, _⟩
             replace hs5 := keep hs5
             replace hb5 := keep (HB4.out.trans (hb5.mono HB4.out.size))))
        have htk : encL ((l.take (j + 1)).map pm) = encL ((l.take j).map pm) ++ enc1 (xk, xv) := by
          rw [List.take_add_one, HJ.out, List.map_append, encL_append]
          simp [encL, pm]
        have hxl : xn = xv.length := HV.out.2.2.len
        have hpd : padB (encL ((l.take j).map pm) ++ [b8 (xk / 256), b8 xk] ++ [b8 (((4 + xn : Nat) : Int) / 256), b8 ((4 + xn : Nat) : Int)] ++ xv) = encL ((l.take (j + 1)).map pm) := by
          rw [htk, List.append_assoc, List.append_assoc, padB_app _ _ (encL_mod _), hxl]
          unfold enc1
          rw [List.append_assoc]
        have hs6 := hs5.out
        rw [hpd] at hs6
        have hn5 : n5 ≤ 1300 * (j + 1) := by
          have h1 := hs6.len
          have h2 := enc1_len (xk, xv)
          have h3 := ho.out.len
          rw [htk, List.length_append, h2] at h1
          simp only at h1
          omega
        have HS6 := keep hs6
        clear htk hpd hs5 hs6 hxl
        go_roundw
        case rel =>
          refine ⟨j + 1, A5, n5, c5, by omega, by go_num, rfl, hn5, HS6, keep fun y hy => ?_, HB.out.trans (hb5.out.mono HB.out.size)⟩
          rw [List.take_add_one, HJ.out] at hy
          rcases List.mem_append.1 hy with hy | hy
          · exact hno.out y hy
          · simp at hy
            rw [hy]
            have := HX.out
            simp only
            omega
        case measure => simp [intOf]; omega
    · obtain rfl : n = j := by omega
      have ho2 := ho.out
      have hno2 := hno.out
      rw [List.take_of_length_le (by have := HL.out; omega)] at ho2 hno2
      have HO := keep ho2
      have ht : tooL (l.map pm) = false := tooL_false.2 ⟨by rw [List.length_map, ← HL.out]; exact hn, fun p hp => by
        obtain ⟨x, hx, rfl⟩ := List.mem_map.1 hp
        have h1 := hno2 x hx
        have h2 := (H.out.2.2.2 x hx).len
        omega⟩
      have HT := keep ht
      have HB := keep hb
      clear ho ho2 hno hno2 ht hb
      go_wp2_with fail
      go_ret2
      exact ⟨HB.out, .inr ⟨HT.out, A', m, c', rfl, HO.out⟩⟩

theorem renc_any (A : Option Addr) (n c : Nat) (l : List PX) (w : World) (h : PS w A n c l) :
    Calls Try.prog 13 #[.slice A n c] w (EncPost w (l.map pm)) := by
  by_cases hn : 32 < n
  · exact (renc_many A n c w hn).mono fun e w' ⟨he, hb⟩ => ⟨hb, .inl ⟨tooL_true.2 (.inl (by rw [List.length_map, ← h.len]; exact hn)), he⟩⟩
  · exact renc_few A n c l w h (by omega)
end Go.Proofs.Ytaifigmbjcebeaa
