/- The walk of the law CrcBursts. -/
import Derived.Test.YtbjmihinmnjanaaCRow
import Derived.Test.YtbjmihinmnjanaaCWTables
import Derived.Test.YtbjmihinmnjanaaCWParts
namespace Go.Proofs.Ytbjmihinmnjanaa
open Go.RowKit
set_option linter.unusedVariables false

theorem xor_ob (x : UInt8) (y j : Nat) : bits .xor .u8 (x.toNat : Int) ((y : Int) / 2 ^ (8 * j) % 256) = ((x ^^^ ob y j).toNat : Int) := by
  have e : (y : Int) / 2 ^ (8 * j) % 256 = (((ob y j).toNat : Nat) : Int) := by
    unfold ob
    rw [UInt8.toNat_ofNat', show (256 : Nat) ^ j = 2 ^ (8 * j) from (Nat.pow_mul 2 8 j).symm]
    have : ((y / 2 ^ (8 * j) % 256 : Nat) : Int) = (y : Int) / 2 ^ (8 * j) % 256 := by simp
    rw [← this]
    omega
  rw [e, xor_u8 _ _ x.toNat_lt (ob y j).toNat_lt, UInt8.toNat_xor]
set_option maxRecDepth 100000 in
theorem crcBursts_some (B : Option Addr) (m d : Nat) (bs : List UInt8) (at_ : Int) (y : Nat) (w : World) (hb : BS w B m d bs) (hy : y < 4294967296) (hm3 : 4 ≤ m) (hm : m ≤ 2000) (hy0 : y ≠ 0) :
    Calls Try.prog 8 #[.slice B m d, .int .i64 at_, .int .u32 y] w fun e w' => e = .returned (.bool true) ∧ Below w.heap.size w w' := by
  obtain ⟨i0, hi0, hz0, hz1, hz2⟩ := info_parts u8_info
  have hm1 : 4 ≤ (m : Int) := by omega
  have hm' : (m : Int) ≤ 2000 := by omega
  have hyi : 0 < (y : Int) := by omega
  have hyi2 : (y : Int) < 4294967296 := by omega
  obtain ⟨q, hq, hq1⟩ := and65535 at_
  obtain ⟨r, hr0, hr1⟩ : ∃ r : Nat, (m : Int) - 3 = (r : Int) ∧ r + 3 = m := ⟨m - 3, by omega, by omega⟩
  obtain ⟨k, hk⟩ : ∃ k : Nat, (q : Int) % (r : Int) = (k : Int) := ⟨q % r, rfl⟩
  have hk1 : (k : Int) < (r : Int) := hk ▸ Int.emod_lt_of_pos _ (by omega)
  have hr2 : 0 < (r : Int) := by omega
  have hlen := hb.len
  have hne := sumOf_ne (octs_burst4 bs k y (by omega) hy hy0)
  have HB := keep hb
  have HM := keep hm
  have HM0 := keep hm3
  have HL := keep hlen
  have HK := keep (show k + 3 < m by omega)
  have HY := keep hy
  replace hne := keep hne
  clear hm hb hlen hm3 hy hy0 hk1 hr1 hq1 hyi2
  go_enter Try.func8, Try.ntmps8
  go_wp2_with (first
    | (go_at_call 10; refine (awake_any _).mono ?_
       rintro e w2 ⟨rfl, hb2⟩
       have l3 := below_lay w2 (.cells #[] 5)
       have o3 : (w2.alloc (.cells #[] 5)).ownsRow w2.heap.size 5 1 (.slice (some ⟨w2.heap.size, 0, none⟩) 0 0) 0 [] := own_row (heap_alloc_new w2 _) 0 rfl (by decide)
       have hB3 := (HB.out.step hb2).step l3
       replace hb2 := keep hb2
       replace hB3 := keep hB3
       replace l3 := keep l3
       replace o3 := keep o3)
    | (at_builtin; refine wpl_append rfl (.tmp 32) (.tmp 33) 28 rfl w2.heap.size 5 i0 (.int .u8 0) Try.underlying28 hi0 hz0 hz1 rfl _ 0 [] rfl o3.out B m d (bc bs) rfl (by rw [bc_length]; exact HL.out) hB3.out.br.sr (bc_one _) (by have := HM.out; unfold maxLen; omega) (by have := HM.out; rw [hz2]; omega) (by simp) ?_
       intro A4 c4 w4 ho4 hb4
       simp only [Nat.zero_add, List.nil_append] at ho4
       replace hb4 := l3.out.trans hb4
       obtain ⟨g, rfl, hg, hrow, hcap⟩ := own_row_of ho4.out (by have := HM0.out; omega)
       have hb5 := hb2.out.trans (hb4.mono hb2.out.size)
       have hg' := Nat.le_trans hb2.out.size hg
       replace hg' := keep hg'
       replace hb5 := keep hb5
       replace hcap := keep hcap
       replace hrow := keep hrow
       clear ho4 hb4 o3 l3 hB3 hg hb2))
  · go_ret
    exact ⟨rfl, hb2.out⟩
  go_loopw [10] (fun i wr => ∃ j : Nat, j ≤ 4 ∧ i = .int .i64 j ∧ Hid (Row wr g m (burst bs k y j)) ∧ Hid (Below w.heap.size w wr)) (fun i _ => 4 - (intOf i).toNat)
  case atStart => exact ⟨0, Nat.zero_le _, rfl, hrow, hb5⟩
  case round =>
    obtain ⟨j, hj, rfl, hr, hbw⟩ := hrel
    by_cases hlt : j < 4
    · obtain ⟨x, hx⟩ : ∃ x, (burst bs k y j).getD (k + j) 0 = x := ⟨_, rfl⟩
      obtain ⟨p, hp⟩ : ∃ p : UInt8, x ^^^ ob y j = p := ⟨_, rfl⟩
      obtain ⟨t, ht⟩ : ∃ t, k + j = t := ⟨_, rfl⟩
      have ht1 : (k : Int) + (j : Int) = (t : Int) := by omega
      have ht2 : (t : Int) < (m : Int) := by have := HK.out; omega
      have hc5 := hr.out.cell t (by omega)
      rw [ht] at hx
      rw [hx] at hc5
      have hf5 := hr.out.frozen t
      have hlti : (j : Int) < 4 := by omega
      have hxo := keep (xor_ob x y j)
      rw [hp] at hxo
      have hJ := keep hlt
      go_wp2_with fail
      go_roundw
      case rel =>
        rw [hxo.out]
        have h1 := hr.out.set t p
        refine ⟨j + 1, by have := hJ.out; omega, by go_num, ?_, ?_⟩
        · show Row _ g m (burst bs k y (j + 1))
          rw [burst, ht, hx, hp]
          exact h1
        · exact hbw.out.setCell (p := ⟨g, t, none⟩) hg'.out _
      case measure => simp [intOf]; have := hJ.out; omega
    · obtain rfl : j = 4 := by omega
      go_wp2_with (first
        | (go_at_call 11; refine (Table_any _).mono ?_
           rintro e w6 ⟨rfl, hb6, ht6⟩
           have hb7 := hbw.out.trans (hb6.mono hbw.out.size)
           have h1 := Sum_any _ 256 256 entries _ _ _ _ _ ht6.reads (HB.out.step hb7) (by have := HM.out; omega)
           have h2 := Sum_any _ 256 256 entries _ _ _ _ _ ht6.reads ((hr.out.step hb6).bs hcap.out) (by have := HM.out; omega)
           rw [summ_entries] at h1 h2
           have hne' := hne.out
           revert h1 h2 hne'
           generalize sumOf bs = s1
           generalize sumOf (burst bs k y 4) = s2
           intro h1 h2 hne'
           replace h1 := keep h1
           replace h2 := keep h2
           replace hb7 := keep hb7
           clear ht6 hb6 hr hbw)
        | (go_at_call 13; refine h1.out.mono ?_; rintro e w' ⟨rfl, rfl⟩; clear h1)
        | (go_at_call 13; refine h2.out.mono ?_; rintro e w' ⟨rfl, rfl⟩; clear h2))
      go_ret
      exact ⟨ret_bool (bne_iff_ne.2 hne'), hb7.out⟩
theorem crcBursts_walk (B : Option Addr) (m d : Nat) (bs : List UInt8) (at_ y : Int) (w : World) (hb : BS w B m d bs) (hat : (Lit.int .i64 at_).wf = true) (hy : (Lit.int .u32 y).wf = true) :
    Calls Try.prog 8 #[.slice B m d, .int .i64 at_, .int .u32 y] w fun e w' => e = .returned (.bool true) ∧ Below w.heap.size w w' := by
  obtain ⟨y0, y1⟩ := bounds_u32 hy
  obtain ⟨z, rfl⟩ : ∃ z : Nat, y = (z : Int) := ⟨y.toNat, by omega⟩
  have hz : z < 4294967296 := by omega
  clear y0 y1 hy hat
  by_cases h1 : 4 ≤ m
  · by_cases h2 : m ≤ 2000
    · by_cases h3 : z = 0
      · subst h3
        have h1' : 4 ≤ (m : Int) := by omega
        have h2' : (m : Int) ≤ 2000 := by omega
        clear h1 h2 hb hz
        go_enter Try.func8, Try.ntmps8
        go_wp2_with (go_at_call 10; refine (awake_any _).mono ?_; rintro e w1 ⟨rfl, hb1⟩)
        go_ret
        exact ⟨rfl, hb1⟩
      · exact crcBursts_some B m d bs at_ z w hb hz h1 h2 h3
    · have h2' : 2000 < (m : Int) := by omega
      have h1' : 4 ≤ (m : Int) := by omega
      clear h1 h2 hb hz
      go_enter Try.func8, Try.ntmps8
      go_wp2_with (go_at_call 10; refine (awake_any _).mono ?_; rintro e w1 ⟨rfl, hb1⟩)
      go_ret
      exact ⟨rfl, hb1⟩
  · have h1' : (m : Int) < 4 := by omega
    clear h1 hb hz
    go_enter Try.func8, Try.ntmps8
    go_wp2_with (go_at_call 10; refine (awake_any _).mono ?_; rintro e w1 ⟨rfl, hb1⟩)
    go_ret
    exact ⟨rfl, hb1⟩
end Go.Proofs.Ytbjmihinmnjanaa
