/- The walk of the law CrcBytes. -/
import Derived.Test.YtbjmihinmnjanaaCRow
import Derived.Test.YtbjmihinmnjanaaCWTables
import Derived.Test.YtbjmihinmnjanaaCWParts
namespace Go.Proofs.Ytbjmihinmnjanaa
open Go.RowKit
set_option linter.unusedVariables false

set_option maxRecDepth 100000 in
theorem crcBytes_walk (B : Option Addr) (m d : Nat) (bs : List UInt8) (at_ y : Int) (w : World) (hb : BS w B m d bs) (hat : (Lit.int .i64 at_).wf = true) (hy : (Lit.int .u8 y).wf = true) :
    Calls Try.prog 9 #[.slice B m d, .int .i64 at_, .int .u8 y] w fun e w' => e = .returned (.bool true) ∧ Below w.heap.size w w' := by
  obtain ⟨y0, y1⟩ := bounds_u8 hy
  obtain ⟨z, rfl⟩ : ∃ z : UInt8, y = (z.toNat : Int) := ⟨b8 y, (b8_of y y0 (by omega)).symm⟩
  obtain ⟨i0, hi0, hz0, hz1, hz2⟩ := info_parts u8_info
  clear y0 y1 hy hat
  by_cases hm0 : m = 0
  · subst hm0
    clear hb
    go_enter Try.func9, Try.ntmps9
    go_wp2_with (go_at_call 10; refine (awake_any _).mono ?_; rintro e w1 ⟨rfl, hb1⟩)
    go_ret
    exact ⟨rfl, hb1⟩
  by_cases hm : m ≤ 2000
  · have hm' : (m : Int) ≤ 2000 := by omega
    have hm1 : 0 < (m : Int) := by omega
    by_cases hz : z = 0
    · subst hz
      clear hm hb hm0
      go_enter Try.func9, Try.ntmps9
      go_wp2_with (go_at_call 10; refine (awake_any _).mono ?_; rintro e w1 ⟨rfl, hb1⟩)
      go_ret
      exact ⟨rfl, hb1⟩
    · obtain ⟨q, hq, hq1⟩ := and65535 at_
      obtain ⟨k, hk⟩ : ∃ k : Nat, (q : Int) % (m : Int) = (k : Int) := ⟨q % m, rfl⟩
      have hk1 : (k : Int) < (m : Int) := hk ▸ Int.emod_lt_of_pos _ hm1
      have hzi : 0 < (z.toNat : Int) := by
        have : z.toNat ≠ 0 := fun h => hz (UInt8.toNat_inj.1 h)
        omega
      obtain ⟨x, hx⟩ : ∃ x, bs.getD k 0 = x := ⟨_, rfl⟩
      have hxz : bits .xor .u8 (x.toNat : Int) (z.toNat : Int) = ((x ^^^ z).toNat : Int) := by
        rw [xor_u8 _ _ x.toNat_lt z.toNat_lt, UInt8.toNat_xor]
      have hlen := hb.len
      have hne := sumOf_ne (octs_set bs k (by omega) z hz)
      rw [hx] at hne
      obtain ⟨p, hp⟩ : ∃ p : UInt8, x ^^^ z = p := ⟨_, rfl⟩
      rw [hp] at hne hxz
      have HX := keep hx
      have HB := keep hb
      have HM := keep hm
      have HM0 := keep hm0
      have HL := keep hlen
      have HK := keep hk1
      replace hne := keep hne
      clear hm hb hx hm0 hz hlen hp
      go_enter Try.func9, Try.ntmps9
      go_wp2_with (first
        | (go_at_call 10; refine (awake_any _).mono ?_
           rintro e w2 ⟨rfl, hb2⟩
           have l3 := below_lay w2 (.cells #[] 5)
           have o3 : (w2.alloc (.cells #[] 5)).ownsRow w2.heap.size 5 1 (.slice (some ⟨w2.heap.size, 0, none⟩) 0 0) 0 [] := own_row (heap_alloc_new w2 _) 0 rfl (by decide)
           have hB3 := (HB.out.step hb2).step l3
           replace hb2 := keep hb2
           replace hB3 := keep hB3
           replace l3 := keep l3
           replace o3 := keep o3)
        | (at_builtin; refine wpl_append rfl (.tmp 25) (.tmp 26) 28 rfl w2.heap.size 5 i0 (.int .u8 0) Try.underlying28 hi0 hz0 hz1 rfl _ 0 [] rfl o3.out B m d (bc bs) rfl (by rw [bc_length]; exact HL.out) hB3.out.br.sr (bc_one _) (by have := HM.out; unfold maxLen; omega) (by have := HM.out; rw [hz2]; omega) (by simp) ?_
           intro A4 c4 w4 ho4 hb4
           simp only [Nat.zero_add, List.nil_append] at ho4
           replace hb4 := l3.out.trans hb4
           obtain ⟨g, rfl, hg, hrow, hcap⟩ := own_row_of ho4.out (by have := HM0.out; omega)
           have hc5 := hrow.cell k (by have := HK.out; omega)
           rw [HX.out] at hc5
           have hf5 := hrow.frozen k
           have hr5 := hrow.set k p
           have hb5 := hb2.out.trans ((hb4.setCell (p := ⟨g, k, none⟩) hg (.int .u8 (p.toNat : Int))).mono hb2.out.size)
           replace hg := keep hg
           replace hr5 := keep hr5
           replace hb5 := keep hb5
           replace hcap := keep hcap
           clear ho4 hb4 hrow o3 l3 hB3)
        | (go_at_call 11; refine (Table_any _).mono ?_
           rintro e w6 ⟨rfl, hb6, ht6⟩
           have hb7 := hb5.out.trans (hb6.mono hb5.out.size)
           have hsz : (w4.setCell ⟨g, k, none⟩ (.int .u8 (p.toNat : Int))).heap.size = w4.heap.size := by simp [World.setCell]
           rw [hsz] at ht6
           have h1 := Sum_any _ 256 256 entries _ _ _ _ _ ht6.reads (HB.out.step hb7) (by have := HM.out; omega)
           have h2 := Sum_any _ 256 256 entries _ _ _ _ _ ht6.reads ((hr5.out.step hb6).bs hcap.out) (by have := HM.out; omega)
           rw [summ_entries] at h1 h2
           have hne' := hne.out
           revert h1 h2 hne'
           generalize sumOf bs = s1
           generalize sumOf (bs.set k p) = s2
           intro h1 h2 hne'
           replace h1 := keep h1
           replace h2 := keep h2
           replace hb7 := keep hb7
           clear ht6 hb6 hr5 hsz)
        | (go_at_call 13; refine h1.out.mono ?_; rintro e w' ⟨rfl, rfl⟩; clear h1)
        | (go_at_call 13; refine h2.out.mono ?_; rintro e w' ⟨rfl, rfl⟩; clear h2))
      · go_ret
        exact ⟨rfl, hb2.out⟩
      · go_ret
        exact ⟨ret_bool (bne_iff_ne.2 hne'), hb7.out⟩
  · have hm' : 2000 < (m : Int) := by omega
    clear hm hb hm0
    go_enter Try.func9, Try.ntmps9
    go_wp2_with (go_at_call 10; refine (awake_any _).mono ?_; rintro e w1 ⟨rfl, hb1⟩)
    go_ret
    exact ⟨rfl, hb1⟩
end Go.Proofs.Ytbjmihinmnjanaa
