/- The walk of the law CrcParts. -/
import Derived.Test.YtbjmihinmnjanaaCrc4
import Derived.Test.YtbjmihinmnjanaaFrame
namespace Go.Proofs.Ytbjmihinmnjanaa
open Go.RowKit
set_option linter.unusedVariables false

theorem u8_info : (Try.prog.info? 5).map (fun i => (i.zero, i.size, i.bytes)) = some (some (.int .u8 0), 1, 1) := by kernel_rfl

set_option maxRecDepth 100000 in
theorem crcParts_walk (v : Int) (A : Option Addr) (n c : Nat) (xs : List UInt8) (B : Option Addr) (m d : Nat) (bs : List UInt8) (w : World) (hv : (Lit.int .u32 v).wf = true) (ha : BS w A n c xs) (hb : BS w B m d bs) :
    Calls Try.prog 6 #[.int .u32 v, .slice A n c, .slice B m d] w fun e w' => e = .returned (.bool true) ∧ Below w.heap.size w w' := by
  obtain ⟨v0, v1⟩ := bounds_u32 hv
  obtain ⟨s, rfl⟩ : ∃ s : Nat, v = (s : Int) := ⟨v.toNat, by omega⟩
  have hs : s < 4294967296 := by omega
  obtain ⟨i0, hi0, hz0, hz1, hz2⟩ := info_parts u8_info
  clear v0 v1 hv
  by_cases hn : n ≤ 2000
  · have hn' : (n : Int) ≤ 2000 := by omega
    by_cases hm : m ≤ 2000
    · have hm' : (m : Int) ≤ 2000 := by omega
      have HA := keep ha
      have HB := keep hb
      have HN := keep hn
      have HM := keep hm
      have HS := keep hs
      clear hn hm hs ha hb
      go_enter Try.func6, Try.ntmps6
      go_wp2_with (first
        | (go_at_call 10; refine (awake_any _).mono ?_; rintro e w1 ⟨rfl, hb1⟩; replace hb1 := keep hb1)
        | (go_at_call 11; refine (Table_any _).mono ?_
           rintro e w2 ⟨rfl, hb2, ht2⟩
           have hB2 := hb1.out.trans (hb2.mono hb1.out.size)
           have h1 := Step_any _ 256 256 entries _ _ _ _ s _ ht2.reads (HA.out.step hB2) HS.out (by have := HN.out; omega)
           rw [stp_entries] at h1
           have h2 := Step_any _ 256 256 entries _ _ _ _ (octs s xs) _ ht2.reads (HB.out.step hB2) (octs_lt _ _ HS.out) (by have := HM.out; omega)
           rw [stp_entries, ← octs_append] at h2
           replace h1 := keep h1
           replace h2 := keep h2
           replace hB2 := keep hB2
           have l3 := below_lay w2 (.cells #[] 5)
           have o3 : (w2.alloc (.cells #[] 5)).ownsRow w2.heap.size 5 1 (.slice (some ⟨w2.heap.size, 0, none⟩) 0 0) 0 [] := own_row (heap_alloc_new w2 _) 0 rfl (by decide)
           have hA3 := (HA.out.step hB2).step l3
           have hB3 := (HB.out.step hB2).step l3
           have HL1 := keep hA3.len
           have HL2 := keep hB3.len
           replace hA3 := keep hA3
           replace hB3 := keep hB3
           replace l3 := keep l3
           replace o3 := keep o3
           replace ht2 := keep ht2
           clear hb2)
        | (go_at_call 15; refine h1.out.mono ?_; rintro e w' ⟨rfl, rfl⟩; clear h1)
        | (go_at_call 15; refine h2.out.mono ?_; rintro e w' ⟨rfl, rfl⟩; clear h2)
        | (at_builtin; refine wpl_append rfl (.tmp 31) (.tmp 32) 28 rfl w2.heap.size 5 i0 (.int .u8 0) Try.underlying28 hi0 hz0 hz1 rfl _ 0 [] rfl o3.out A n c (bc xs) rfl (by rw [bc_length]; exact HL1.out) hA3.out.br.sr (bc_one _) (by have := HN.out; unfold maxLen; omega) (by have := HN.out; rw [hz2]; omega) (by simp) ?_
           intro A4 c4 w4 ho4 hb4
           simp only [Nat.zero_add, List.nil_append] at ho4
           replace hb4 := l3.out.trans hb4
           have hB4 := (HB.out.step hB2.out).step hb4
           replace hb4 := keep hb4
           replace hB4 := keep hB4
           clear o3 l3 hA3 hB3)
        | (at_builtin; refine wpl_append rfl (.tmp 33) (.tmp 34) 28 rfl w2.heap.size 5 i0 (.int .u8 0) Try.underlying28 hi0 hz0 hz1 rfl _ n (bc xs) rfl ho4.out B m d (bc bs) rfl (by rw [bc_length]; exact HL2.out) hB4.out.br.sr (bc_one _) (by have := HN.out; have := HM.out; unfold maxLen; omega) (by have := HN.out; have := HM.out; rw [hz2]; omega) hb4.out.size ?_
           intro A5 c5 w5 ho5 hb5
           have ho5' := ho5.out
           rw [← bc_append] at ho5'
           replace hb5 := hb4.out.trans hb5
           have h3 := Step_any _ 256 256 entries _ _ _ _ s _ (ht2.out.step hb5).reads (BS.of_own ho5') HS.out (by have := HN.out; have := HM.out; omega)
           rw [stp_entries] at h3
           replace h3 := keep h3
           replace hb5 := keep hb5
           clear ho4 hb4 hB4 ho5 ho5')
        | (go_at_call 15; refine h3.out.mono ?_; rintro e w' ⟨rfl, rfl⟩; clear h3))
      go_ret
      exact ⟨rfl, hB2.out.trans (hb5.out.mono hB2.out.size)⟩
    · have hm' : 2000 < (m : Int) := by omega
      clear hn hm ha hb
      go_enter Try.func6, Try.ntmps6
      go_wp2_with (go_at_call 10; refine (awake_any _).mono ?_; rintro e w1 ⟨rfl, hb1⟩)
      go_ret
      exact ⟨rfl, hb1⟩
  · have hn' : 2000 < (n : Int) := by omega
    clear hn ha hb
    go_enter Try.func6, Try.ntmps6
    go_wp2_with (go_at_call 10; refine (awake_any _).mono ?_; rintro e w1 ⟨rfl, hb1⟩)
    go_ret
    exact ⟨rfl, hb1⟩
end Go.Proofs.Ytbjmihinmnjanaa
