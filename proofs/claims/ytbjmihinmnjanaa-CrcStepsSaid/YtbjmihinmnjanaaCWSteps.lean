/- The walks of the laws CrcSteps and CrcSums. -/
import Derived.Test.YtbjmihinmnjanaaCrc4
namespace Go.Proofs.Ytbjmihinmnjanaa
open Go.RowKit
set_option linter.unusedVariables false

set_option maxRecDepth 100000 in
theorem crcSums_walk (B : Option Addr) (m d : Nat) (bs : List UInt8) (w : World) (hb : BS w B m d bs) :
    Calls Try.prog 5 #[.slice B m d] w fun e w' => e = .returned (.bool true) ∧ Below w.heap.size w w' := by
  by_cases hn : m ≤ 3000
  · have hn' : (m : Int) ≤ 3000 := by omega
    have HB := keep hb
    have HN := keep hn
    clear hn hb
    go_enter Try.func5, Try.ntmps5
    go_wp2_with (first
      | (go_at_call 10; refine (awake_any _).mono ?_; rintro e w1 ⟨rfl, hb1⟩; replace hb1 := keep hb1)
      | (go_at_call 11; refine (Table_any _).mono ?_
         rintro e w2 ⟨rfl, hb2, ht2⟩
         have hB2 := hb1.out.trans (hb2.mono hb1.out.size)
         have hS := Sum_any _ 256 256 entries _ _ _ _ _ ht2.reads (HB.out.step hB2) (by have := HN.out; omega)
         rw [summ_entries] at hS
         have hO := Own_any _ _ _ _ _ (HB.out.step hB2) (by have := HN.out; omega)
         replace hS := keep hS
         replace hO := keep hO
         replace hB2 := keep hB2
         clear ht2 hb2)
      | (go_at_call 13; refine hS.out.mono ?_; rintro e w' ⟨rfl, rfl⟩)
      | (go_at_call 16; refine hO.out.mono ?_; rintro e w' ⟨rfl, rfl⟩))
    go_ret
    exact ⟨rfl, hB2.out⟩
  · have hn' : 3000 < (m : Int) := by omega
    clear hn hb
    go_enter Try.func5, Try.ntmps5
    go_wp2_with (go_at_call 10; refine (awake_any _).mono ?_; rintro e w1 ⟨rfl, hb1⟩)
    go_ret
    exact ⟨rfl, hb1⟩

set_option maxRecDepth 100000 in
theorem crcSteps_walk (A : Option Addr) (n c : Nat) (zs : List Int) (v : Int) (B : Option Addr) (m d : Nat) (bs : List UInt8) (w : World) (hz : NS .u32 w A n c zs) (hv : (Lit.int .u32 v).wf = true) (hb : BS w B m d bs) :
    Calls Try.prog 4 #[.slice A n c, .int .u32 v, .slice B m d] w fun e w' => e = .returned (.bool true) ∧ Below w.heap.size w w' := by
  obtain ⟨v0, v1⟩ := bounds_u32 hv
  obtain ⟨s, rfl⟩ : ∃ s : Nat, v = (s : Int) := ⟨v.toNat, by omega⟩
  have hs : s < 4294967296 := by omega
  clear v0 v1 hv
  by_cases hn : n ≤ 1000
  · have hn' : (n : Int) ≤ 1000 := by omega
    by_cases hm : m ≤ 2000
    · have hm' : (m : Int) ≤ 2000 := by omega
      have hS : ∀ w1, Below w.heap.size w w1 → Hid (Calls Try.prog 13 #[.slice A n c, .slice B m d] w1 fun e w' => e = .returned (.int .u32 (summ zs bs : Nat)) ∧ w1 = w') := fun w1 h => Sum_any _ n c zs _ _ _ _ _ (hz.step h) (hb.step h) (by omega)
      have hA : ∀ w1, Below w.heap.size w w1 → Hid (Calls Try.prog 15 #[.slice A n c, .int .u32 (s : Nat), .slice B m d] w1 fun e w' => e = .returned (.int .u32 (stp zs s bs : Nat)) ∧ w1 = w') := fun w1 h => Step_any _ n c zs _ _ _ _ _ _ (hz.step h) (hb.step h) hs (by omega)
      have hR : ∀ w1, Below w.heap.size w w1 → Hid (Calls Try.prog 14 #[.slice A n c, .int .u32 (s : Nat), .slice B m d] w1 fun e w' => e = .returned (.int .u32 (stp zs s bs : Nat)) ∧ w1 = w') := fun w1 h => refStep_any _ n c zs _ _ _ _ _ _ (hz.step h) (hb.step h) hs (by omega)
      have hQ : ∀ w1, Below w.heap.size w w1 → Hid (Calls Try.prog 14 #[.slice A n c, .int .u32 4294967295, .slice B m d] w1 fun e w' => e = .returned (.int .u32 (stp zs 4294967295 bs : Nat)) ∧ w1 = w') := fun w1 h => refStep_any _ n c zs _ _ _ _ 4294967295 _ (hz.step h) (hb.step h) (by decide) (by omega)
      by_cases h256 : n = 256
      · have hsum : summ zs bs = stp zs 4294967295 bs ^^^ 4294967295 := by unfold summ; rw [if_pos (by have := hz.1; omega)]
        have hlt := stp_lt zs hz.2.2.2 4294967295 (by decide) bs
        obtain ⟨t, ht⟩ : ∃ t, stp zs 4294967295 bs = t := ⟨_, rfl⟩
        rw [ht] at hsum hlt
        simp only [ht] at hQ
        simp only [hsum] at hS
        have hx : bits .xor .u32 (t : Int) 4294967295 = ((t ^^^ 4294967295 : Nat) : Int) := xor_u32 t 4294967295 hlt (by decide)
        subst h256
        replace hS := keep hS
        replace hA := keep hA
        replace hR := keep hR
        replace hQ := keep hQ
        clear hn hm hz hb hsum hlt ht hn'
        go_enter Try.func4, Try.ntmps4
        go_wp2_with (first
          | (go_at_call 10; refine (awake_any _).mono ?_
             rintro e w1 ⟨rfl, hb1⟩
             replace hS := hS.out w1 hb1
             replace hA := hA.out w1 hb1
             replace hR := hR.out w1 hb1
             replace hQ := hQ.out w1 hb1
             replace hb1 := keep hb1)
          | (go_at_call 13; refine hS.out.mono ?_; rintro e w' ⟨rfl, rfl⟩; clear hS)
          | (go_at_call 14; refine hQ.out.mono ?_; rintro e w' ⟨rfl, rfl⟩; clear hQ)
          | (go_at_call 15; refine hA.out.mono ?_; rintro e w' ⟨rfl, rfl⟩; clear hA)
          | (go_at_call 14; refine hR.out.mono ?_; rintro e w' ⟨rfl, rfl⟩))
        go_ret
        exact ⟨rfl, hb1.out⟩
      · have hn2 : ((n : Int) == 256) = false := by simp; omega
        have hsum : summ zs bs = 0 := by unfold summ; rw [if_neg (by have := hz.1; omega)]
        simp only [hsum] at hS
        replace hS := keep hS
        replace hA := keep hA
        replace hR := keep hR
        clear hn hm hz hb hsum hQ h256
        go_enter Try.func4, Try.ntmps4
        go_wp2_with (first
          | (go_at_call 10; refine (awake_any _).mono ?_
             rintro e w1 ⟨rfl, hb1⟩
             replace hS := hS.out w1 hb1
             replace hA := hA.out w1 hb1
             replace hR := hR.out w1 hb1
             replace hb1 := keep hb1)
          | (go_at_call 13; refine hS.out.mono ?_; rintro e w' ⟨rfl, rfl⟩; clear hS)
          | (go_at_call 15; refine hA.out.mono ?_; rintro e w' ⟨rfl, rfl⟩; clear hA)
          | (go_at_call 14; refine hR.out.mono ?_; rintro e w' ⟨rfl, rfl⟩))
        go_ret
        exact ⟨rfl, hb1.out⟩
    · have hm' : 2000 < (m : Int) := by omega
      clear hn hm hz hb
      go_enter Try.func4, Try.ntmps4
      go_wp2_with (go_at_call 10; refine (awake_any _).mono ?_; rintro e w1 ⟨rfl, hb1⟩)
      go_ret
      exact ⟨rfl, hb1⟩
  · have hn' : 1000 < (n : Int) := by omega
    clear hn hz hb
    go_enter Try.func4, Try.ntmps4
    go_wp2_with (go_at_call 10; refine (awake_any _).mono ?_; rintro e w1 ⟨rfl, hb1⟩)
    go_ret
    exact ⟨rfl, hb1⟩
end Go.Proofs.Ytbjmihinmnjanaa
