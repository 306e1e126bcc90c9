/- The walk of the law SipKeeps. -/
import Derived.Test.YtacjbfmmjcfomaaSipWCodes
namespace Go.Proofs.Ytacjbfmmjcfomaa
open Go.RowKit
set_option linter.unusedVariables false

theorem run_bytes_at {P : Program} (w : World) (src e : TypeId) (hs : P.underlying src = some (.slice e)) (he : P.underlying e = some (.int .u8)) (A : Option Addr) (bs : List UInt8) (n c : Nat) (h : BS w A n c bs) (S : ByteArray) (hS : S = ⟨bs.toArray⟩) :
    ∀ dst, P.underlying dst = some .string → (convert src dst (.slice A n c)).run P w = .ok (.string S) w := by
  have := run_bytes_str (P := P) w src e hs he A bs c h.br
  rw [← h.len, ← hS] at this
  exact this

set_option maxRecDepth 100000 in
set_option maxHeartbeats 1000000 in
theorem sipKeeps_some (K : Option Addr) (ck : Nat) (key : List UInt8) (A : Option Addr) (n c : Nat) (xs : List UInt8) (B : Option Addr) (m d : Nat) (bs : List UInt8) (w : World) (hk : BS w K 16 ck key) (ha : BS w A n c xs) (hb : BS w B m d bs) (hn : n ≤ 1000) (hm : m ≤ 1000) :
    Calls Try.prog 5 #[.slice K 16 ck, .slice A n c, .slice B m d] w fun e w' => e = .returned (.bool true) ∧ Below w.heap.size w w' := by
  have HQ := keep (show (16 : Nat) ≤ 300 by decide)
  obtain ⟨i0, hi0, hz0, hz1, hz2⟩ := info_parts u8_info
  have hn' : ¬ 1000 < (n : Int) := by omega
  have hm' : ¬ 1000 < (m : Int) := by omega
  have HK := keep hk
  have HA := keep ha
  have HB := keep hb
  have HN := keep hn
  have HM := keep hm
  obtain ⟨S, hS⟩ : ∃ S : ByteArray, S = ⟨(xs ++ bs).toArray⟩ := ⟨_, rfl⟩
  obtain ⟨T, hT⟩ : ∃ T : ByteArray, T = ⟨key.toArray⟩ := ⟨_, rfl⟩
  have HS := keep hS
  have HT := keep hT
  clear hS hT hk ha hb hn hm
  go_enter Try.func5, Try.ntmps5
  go_wp2_with (first
    | (go_at_call 7; refine (awake_any _).mono ?_; rintro e w1 ⟨rfl, hb1⟩
       have l1 := below_lay w1 (.cells #[] 5)
       have o1 : (w1.alloc (.cells #[] 5)).ownsRow w1.heap.size 5 1 (.slice (some ⟨w1.heap.size, 0, none⟩) 0 0) 0 [] := own_row (heap_alloc_new w1 _) 0 rfl (by decide)
       have hA1 := (HA.out.step hb1).step l1
       have HL1 := keep hA1.len
       replace hA1 := keep hA1
       replace l1 := keep l1
       replace o1 := keep o1
       replace hb1 := keep hb1)
    | (at_builtin; refine wpl_append rfl (.tmp 30) (.tmp 31) 29 rfl w1.heap.size 5 i0 (.int .u8 0) Try.underlying29 hi0 hz0 hz1 rfl _ 0 [] rfl o1.out A n c (bc xs) rfl (by rw [bc_length]; exact HL1.out) hA1.out.br.sr (bc_one _) (by have := HN.out; unfold maxLen; omega) (by have := HN.out; rw [hz2]; omega) (by simp) ?_
       intro A4 c4 w4 ho4 hb4
       simp only [Nat.zero_add, List.nil_append] at ho4
       replace hb4 := l1.out.trans hb4
       have hB4 := (HB.out.step hb1.out).step hb4
       have HL2 := keep hB4.len
       replace hb4 := keep hb4
       replace hB4 := keep hB4
       clear o1 l1 hA1)
    | (at_builtin; refine wpl_append rfl (.tmp 32) (.tmp 33) 29 rfl w1.heap.size 5 i0 (.int .u8 0) Try.underlying29 hi0 hz0 hz1 rfl _ n (bc xs) rfl ho4.out B m d (bc bs) rfl (by rw [bc_length]; exact HL2.out) hB4.out.br.sr (bc_one _) (by have := HN.out; have := HM.out; unfold maxLen; omega) (by have := HN.out; have := HM.out; rw [hz2]; omega) hb4.out.size ?_
       intro A5 c5 w5 ho5 hb5
       have ho5' := ho5.out
       rw [← bc_append] at ho5'
       have hall := BS.of_own ho5'
       replace hb5 := hb1.out.trans ((hb4.out.trans hb5).mono hb1.out.size)
       have k1 := run_bytes_at (P := Try.prog) w5 29 5 Try.underlying29 Try.underlying5 A5 _ (n + m) c5 hall S HS.out 9 Try.underlying9
       have k2 := run_bytes_at (P := Try.prog) w5 29 5 Try.underlying29 Try.underlying5 K _ 16 ck (HK.out.step hb5) T HT.out 9 Try.underlying9
       have hle : (n : Int) ≤ (c5 : Int) := by have := hall.cap; omega
       replace hall := keep hall
       replace hb5 := keep hb5
       clear ho4 hb4 hB4 ho5 ho5'))
  case inl =>
    have hcn : c5 = n := by omega
    subst c5
    have hsub : BS w5 A5 m 0 bs := by
      have h0 := hall.out
      have hm0 : m = 0 := by have := h0.cap; omega
      have hl := HB.out.len
      have hbs : bs = [] := List.eq_nil_of_length_eq_zero (by omega)
      subst hm0 hbs
      exact ⟨rfl, Nat.le_refl _, BR.nil _ _⟩
    clear hle
    have K1 := Code_some K ck key A5 m 0 bs w5 (HK.out.step hb5.out) hsub (by have := HM.out; omega)
    obtain ⟨x, hx⟩ : ∃ x, code key bs = x := ⟨_, rfl⟩
    rw [hx] at K1
    have HX := keep hx
    clear hx
    replace K1 := keep K1
    clear hsub k1 k2
    go_wp2_with (first
      | (go_at_call 10; refine K1.out.mono ?_; rintro e w6 ⟨rfl, hb6⟩
         have hb7 := hb5.out.trans (hb6.mono hb5.out.size)
         have hall6 := keep (hall.out.step hb6)
         have K2 := Code_some K ck key B m d bs w6 (HK.out.step hb7) (HB.out.step hb7) (by have := HM.out; omega)
         rw [HX.out] at K2
         replace K2 := keep K2
         replace hb7 := keep hb7
         clear K1 hb5 hb6 hall)
      | (go_at_call 10; refine K2.out.mono ?_; rintro e w8 ⟨rfl, hb8⟩
         have hb9 := hb7.out.trans (hb8.mono hb7.out.size)
         have k1 := run_bytes_at (P := Try.prog) w8 29 5 Try.underlying29 Try.underlying5 A5 _ (n + m) n (hall6.out.step hb8) S HS.out 9 Try.underlying9
         have k2 := run_bytes_at (P := Try.prog) w8 29 5 Try.underlying29 Try.underlying5 K _ 16 ck (HK.out.step hb9) T HT.out 9 Try.underlying9
         replace hb9 := keep hb9
         clear K2 hb7 hb8 hall6))
    go_ret
    exact ⟨rfl, hb9.out⟩
  case inr =>
    have hsub : BS w5 (A5.map (·.add n)) m (c5 - n) bs := by
      have h0 := hall.out
      have h1 := h0.br.drop (k := n) (cap := c5) (by have := h0.len; have := h0.cap; omega)
      rw [if_neg (by omega), List.drop_append_of_le_length (by have := HA.out.len; omega), List.drop_eq_nil_of_le (by have := HA.out.len; omega), List.nil_append] at h1
      exact ⟨HB.out.len, by have := h0.cap; omega, h1⟩
    clear hle
    have K1 := Code_some K ck key (A5.map (·.add n)) m (c5 - n) bs w5 (HK.out.step hb5.out) hsub (by have := HM.out; omega)
    obtain ⟨x, hx⟩ : ∃ x, code key bs = x := ⟨_, rfl⟩
    rw [hx] at K1
    have HX := keep hx
    clear hx
    replace K1 := keep K1
    clear hsub k1 k2
    go_wp2_with (first
      | (go_at_call 10; refine K1.out.mono ?_; rintro e w6 ⟨rfl, hb6⟩
         have hb7 := hb5.out.trans (hb6.mono hb5.out.size)
         have hall6 := keep (hall.out.step hb6)
         have K2 := Code_some K ck key B m d bs w6 (HK.out.step hb7) (HB.out.step hb7) (by have := HM.out; omega)
         rw [HX.out] at K2
         replace K2 := keep K2
         replace hb7 := keep hb7
         clear K1 hb5 hb6 hall)
      | (go_at_call 10; refine K2.out.mono ?_; rintro e w8 ⟨rfl, hb8⟩
         have hb9 := hb7.out.trans (hb8.mono hb7.out.size)
         have k1 := run_bytes_at (P := Try.prog) w8 29 5 Try.underlying29 Try.underlying5 A5 _ (n + m) c5 (hall6.out.step hb8) S HS.out 9 Try.underlying9
         have k2 := run_bytes_at (P := Try.prog) w8 29 5 Try.underlying29 Try.underlying5 K _ 16 ck (HK.out.step hb9) T HT.out 9 Try.underlying9
         replace hb9 := keep hb9
         clear K2 hb7 hb8 hall6))
    go_ret
    exact ⟨rfl, hb9.out⟩
set_option maxRecDepth 100000 in
set_option maxHeartbeats 1000000 in
theorem sipKeeps_none (K : Option Addr) (q ck : Nat) (hq : q ≠ 16) (hq3 : q ≤ 300) (key : List UInt8) (A : Option Addr) (n c : Nat) (xs : List UInt8) (B : Option Addr) (m d : Nat) (bs : List UInt8) (w : World) (hk : BS w K q ck key) (ha : BS w A n c xs) (hb : BS w B m d bs) (hn : n ≤ 1000) (hm : m ≤ 1000) :
    Calls Try.prog 5 #[.slice K q ck, .slice A n c, .slice B m d] w fun e w' => e = .returned (.bool true) ∧ Below w.heap.size w w' := by
  have hqi : ((q : Int) == 16) = false := by simp; omega
  have hq3' : ¬ 300 < (q : Int) := by omega
  have HQ := keep hq3
  have HQ6 := keep hq
  obtain ⟨i0, hi0, hz0, hz1, hz2⟩ := info_parts u8_info
  have hn' : ¬ 1000 < (n : Int) := by omega
  have hm' : ¬ 1000 < (m : Int) := by omega
  have HK := keep hk
  have HA := keep ha
  have HB := keep hb
  have HN := keep hn
  have HM := keep hm
  obtain ⟨S, hS⟩ : ∃ S : ByteArray, S = ⟨(xs ++ bs).toArray⟩ := ⟨_, rfl⟩
  obtain ⟨T, hT⟩ : ∃ T : ByteArray, T = ⟨key.toArray⟩ := ⟨_, rfl⟩
  have HS := keep hS
  have HT := keep hT
  clear hS hT hk ha hb hn hm hq hq3
  go_enter Try.func5, Try.ntmps5
  go_wp2_with (first
    | (go_at_call 7; refine (awake_any _).mono ?_; rintro e w1 ⟨rfl, hb1⟩
       have l1 := below_lay w1 (.cells #[] 5)
       have o1 : (w1.alloc (.cells #[] 5)).ownsRow w1.heap.size 5 1 (.slice (some ⟨w1.heap.size, 0, none⟩) 0 0) 0 [] := own_row (heap_alloc_new w1 _) 0 rfl (by decide)
       have hA1 := (HA.out.step hb1).step l1
       have HL1 := keep hA1.len
       replace hA1 := keep hA1
       replace l1 := keep l1
       replace o1 := keep o1
       replace hb1 := keep hb1)
    | (at_builtin; refine wpl_append rfl (.tmp 30) (.tmp 31) 29 rfl w1.heap.size 5 i0 (.int .u8 0) Try.underlying29 hi0 hz0 hz1 rfl _ 0 [] rfl o1.out A n c (bc xs) rfl (by rw [bc_length]; exact HL1.out) hA1.out.br.sr (bc_one _) (by have := HN.out; unfold maxLen; omega) (by have := HN.out; rw [hz2]; omega) (by simp) ?_
       intro A4 c4 w4 ho4 hb4
       simp only [Nat.zero_add, List.nil_append] at ho4
       replace hb4 := l1.out.trans hb4
       have hB4 := (HB.out.step hb1.out).step hb4
       have HL2 := keep hB4.len
       replace hb4 := keep hb4
       replace hB4 := keep hB4
       clear o1 l1 hA1)
    | (at_builtin; refine wpl_append rfl (.tmp 32) (.tmp 33) 29 rfl w1.heap.size 5 i0 (.int .u8 0) Try.underlying29 hi0 hz0 hz1 rfl _ n (bc xs) rfl ho4.out B m d (bc bs) rfl (by rw [bc_length]; exact HL2.out) hB4.out.br.sr (bc_one _) (by have := HN.out; have := HM.out; unfold maxLen; omega) (by have := HN.out; have := HM.out; rw [hz2]; omega) hb4.out.size ?_
       intro A5 c5 w5 ho5 hb5
       have ho5' := ho5.out
       rw [← bc_append] at ho5'
       have hall := BS.of_own ho5'
       replace hb5 := hb1.out.trans ((hb4.out.trans hb5).mono hb1.out.size)
       have k1 := run_bytes_at (P := Try.prog) w5 29 5 Try.underlying29 Try.underlying5 A5 _ (n + m) c5 hall S HS.out 9 Try.underlying9
       have k2 := run_bytes_at (P := Try.prog) w5 29 5 Try.underlying29 Try.underlying5 K _ q ck (HK.out.step hb5) T HT.out 9 Try.underlying9
       have hle : (n : Int) ≤ (c5 : Int) := by have := hall.cap; omega
       replace hall := keep hall
       replace hb5 := keep hb5
       clear ho4 hb4 hB4 ho5 ho5'))
  case inl =>
    have hcn : c5 = n := by omega
    subst c5
    have hsub : BS w5 A5 m 0 bs := by
      have h0 := hall.out
      have hm0 : m = 0 := by have := h0.cap; omega
      have hl := HB.out.len
      have hbs : bs = [] := List.eq_nil_of_length_eq_zero (by omega)
      subst hm0 hbs
      exact ⟨rfl, Nat.le_refl _, BR.nil _ _⟩
    clear hle
    have K1 := (Code_none K q ck A5 m 0 HQ6.out w5).mono fun e w' h => (⟨h.1, by rw [h.2]; exact Below.refl _ _⟩ : _ ∧ Below w5.heap.size w5 w')
    replace K1 := keep K1
    clear hsub k1 k2
    go_wp2_with (first
      | (go_at_call 10; refine K1.out.mono ?_; rintro e w6 ⟨rfl, hb6⟩
         have hb7 := hb5.out.trans (hb6.mono hb5.out.size)
         have hall6 := keep (hall.out.step hb6)
         have K2 := (Code_none K q ck B m d HQ6.out w6).mono fun e w' h => (⟨h.1, by rw [h.2]; exact Below.refl _ _⟩ : _ ∧ Below w6.heap.size w6 w')
         replace K2 := keep K2
         replace hb7 := keep hb7
         clear K1 hb5 hb6 hall)
      | (go_at_call 10; refine K2.out.mono ?_; rintro e w8 ⟨rfl, hb8⟩
         have hb9 := hb7.out.trans (hb8.mono hb7.out.size)
         have k1 := run_bytes_at (P := Try.prog) w8 29 5 Try.underlying29 Try.underlying5 A5 _ (n + m) n (hall6.out.step hb8) S HS.out 9 Try.underlying9
         have k2 := run_bytes_at (P := Try.prog) w8 29 5 Try.underlying29 Try.underlying5 K _ q ck (HK.out.step hb9) T HT.out 9 Try.underlying9
         replace hb9 := keep hb9
         clear K2 hb7 hb8 hall6))
    go_ret
    exact ⟨rfl, hb9.out⟩
  case inr =>
    have hsub : BS w5 (A5.map (·.add n)) m (c5 - n) bs := by
      have h0 := hall.out
      have h1 := h0.br.drop (k := n) (cap := c5) (by have := h0.len; have := h0.cap; omega)
      rw [if_neg (by omega), List.drop_append_of_le_length (by have := HA.out.len; omega), List.drop_eq_nil_of_le (by have := HA.out.len; omega), List.nil_append] at h1
      exact ⟨HB.out.len, by have := h0.cap; omega, h1⟩
    clear hle
    have K1 := (Code_none K q ck (A5.map (·.add n)) m (c5 - n) HQ6.out w5).mono fun e w' h => (⟨h.1, by rw [h.2]; exact Below.refl _ _⟩ : _ ∧ Below w5.heap.size w5 w')
    replace K1 := keep K1
    clear hsub k1 k2
    go_wp2_with (first
      | (go_at_call 10; refine K1.out.mono ?_; rintro e w6 ⟨rfl, hb6⟩
         have hb7 := hb5.out.trans (hb6.mono hb5.out.size)
         have hall6 := keep (hall.out.step hb6)
         have K2 := (Code_none K q ck B m d HQ6.out w6).mono fun e w' h => (⟨h.1, by rw [h.2]; exact Below.refl _ _⟩ : _ ∧ Below w6.heap.size w6 w')
         replace K2 := keep K2
         replace hb7 := keep hb7
         clear K1 hb5 hb6 hall)
      | (go_at_call 10; refine K2.out.mono ?_; rintro e w8 ⟨rfl, hb8⟩
         have hb9 := hb7.out.trans (hb8.mono hb7.out.size)
         have k1 := run_bytes_at (P := Try.prog) w8 29 5 Try.underlying29 Try.underlying5 A5 _ (n + m) c5 (hall6.out.step hb8) S HS.out 9 Try.underlying9
         have k2 := run_bytes_at (P := Try.prog) w8 29 5 Try.underlying29 Try.underlying5 K _ q ck (HK.out.step hb9) T HT.out 9 Try.underlying9
         replace hb9 := keep hb9
         clear K2 hb7 hb8 hall6))
    go_ret
    exact ⟨rfl, hb9.out⟩

theorem sipKeeps_walk (K : Option Addr) (q ck : Nat) (key : List UInt8) (A : Option Addr) (n c : Nat) (xs : List UInt8) (B : Option Addr) (m d : Nat) (bs : List UInt8) (w : World) (hk : BS w K q ck key) (ha : BS w A n c xs) (hb : BS w B m d bs) :
    Calls Try.prog 5 #[.slice K q ck, .slice A n c, .slice B m d] w fun e w' => e = .returned (.bool true) ∧ Below w.heap.size w w' := by
  by_cases hn : n ≤ 1000
  · by_cases hm : m ≤ 1000
    · by_cases hq : q ≤ 300
      · by_cases h16 : q = 16
        · subst h16
          exact sipKeeps_some K ck key A n c xs B m d bs w hk ha hb hn hm
        · exact sipKeeps_none K q ck h16 hq key A n c xs B m d bs w hk ha hb hn hm
      · have hq' : 300 < (q : Int) := by omega
        have hn' : ¬ 1000 < (n : Int) := by omega
        have hm' : ¬ 1000 < (m : Int) := by omega
        clear hn hm hq hk ha hb
        go_enter Try.func5, Try.ntmps5
        go_wp2_with (go_at_call 7; refine (awake_any _).mono ?_; rintro e w1 ⟨rfl, hb1⟩; replace hb1 := keep hb1)
        go_ret
        exact ⟨rfl, hb1.out⟩
    · have hm' : 1000 < (m : Int) := by omega
      have hn' : ¬ 1000 < (n : Int) := by omega
      clear hn hm hk ha hb
      go_enter Try.func5, Try.ntmps5
      go_wp2_with (go_at_call 7; refine (awake_any _).mono ?_; rintro e w1 ⟨rfl, hb1⟩; replace hb1 := keep hb1)
      go_ret
      exact ⟨rfl, hb1.out⟩
  · have hn' : 1000 < (n : Int) := by omega
    clear hn hk ha hb
    go_enter Try.func5, Try.ntmps5
    go_wp2_with (go_at_call 7; refine (awake_any _).mono ?_; rintro e w1 ⟨rfl, hb1⟩; replace hb1 := keep hb1)
    go_ret
    exact ⟨rfl, hb1.out⟩

end Go.Proofs.Ytacjbfmmjcfomaa
