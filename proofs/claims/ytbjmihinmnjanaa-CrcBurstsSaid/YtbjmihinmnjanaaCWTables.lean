/- The walk of the law CrcTables. -/
import Derived.Test.YtbjmihinmnjanaaCrc4
import Derived.Deep.QuietTactic
import Derived.BigQuiet
import Derived.WalkSmall
import Derived.Deep.DrawnRows
namespace Go.Proofs.Ytbjmihinmnjanaa
open Go.RowKit
set_option linter.unusedVariables false

theorem and_i64 (i : Int) (k : Nat) (hk : k ≤ 32) : bits .and .i64 i ((2 ^ k - 1 : Nat) : Int) = i % ((2 ^ k : Nat) : Int) := by
  have hp : 2 ^ k ≤ 2 ^ 32 := Nat.pow_le_pow_right (by omega) hk
  have hq : 0 < 2 ^ k := Nat.two_pow_pos k
  have h2 : (BitVec.ofInt 64 ((2 ^ k - 1 : Nat) : Int)).toNat = 2 ^ k - 1 := by
    rw [BitVec.ofInt_natCast, BitVec.toNat_ofNat]; exact Nat.mod_eq_of_lt (by omega)
  show IntKind.i64.wrap ((BitVec.ofInt 64 i &&& BitVec.ofInt 64 ((2 ^ k - 1 : Nat) : Int)).toNat : Int) = _
  rw [BitVec.toNat_and, h2, Nat.and_two_pow_sub_one_eq_mod, BitVec.toNat_ofInt]
  have hd : ((2 ^ k : Nat) : Int) ∣ ((2 ^ 64 : Nat) : Int) := by
    refine Int.natCast_dvd_natCast.2 (Nat.pow_dvd_pow 2 (by omega))
  have h3 : (((i % ((2 ^ 64 : Nat) : Int)).toNat % 2 ^ k : Nat) : Int) = i % ((2 ^ k : Nat) : Int) := by
    rw [Int.natCast_emod, Int.toNat_of_nonneg (Int.emod_nonneg _ (by decide))]
    exact Int.emod_emod_of_dvd i hd
  rw [h3]
  have h4 := Int.emod_nonneg i (show ((2 ^ k : Nat) : Int) ≠ 0 by omega)
  have h5 := Int.emod_lt_of_pos i (show (0 : Int) < ((2 ^ k : Nat) : Int) by omega)
  have : ((2 ^ k : Nat) : Int) ≤ 4294967296 := by omega
  generalize i % ((2 ^ k : Nat) : Int) = r at *
  simp [IntKind.wrap, IntKind.signed, IntKind.bits]
  omega
theorem and255 (i : Int) : ∃ k : Nat, bits .and .i64 i 255 = (k : Int) ∧ k < 256 := by
  have h := and_i64 i 8 (by decide)
  refine ⟨(i % 256).toNat, h.trans ?_, by omega⟩
  show i % 256 = _
  omega
theorem and65535 (i : Int) : ∃ k : Nat, bits .and .i64 i 65535 = (k : Int) ∧ k < 65536 := by
  have h := and_i64 i 16 (by decide)
  refine ⟨(i % 65536).toNat, h.trans ?_, by omega⟩
  show i % 65536 = _
  omega
theorem Tab.frozen {w : World} {g : Nat} (h : Tab w g) (i : Nat) : w.frozen? ⟨g, i, none⟩ = false := by
  obtain ⟨h0, C, h1, h2, h3⟩ := h
  simp [World.frozen?, h1]
theorem Entry_q (i : Nat) (hi : i < 256) (w : World) :
    Calls Try.prog 12 #[.int .i64 i] w fun e w' => e = .returned (.int .u32 (entry i : Nat)) ∧ w' = w :=
  (Entry_any i hi w).mono fun _ _ h => ⟨h.1, h.2.symm⟩

set_option maxRecDepth 100000 in
theorem crcTables_walk (i : Int) (w : World) (hi : (Lit.int .i64 i).wf = true) :
    Calls Try.prog 3 #[.int .i64 i] w fun e w' => e = .returned (.bool true) ∧ Below w.heap.size w w' := by
  obtain ⟨k, hk, hk1⟩ := and255 i
  have hk2 : (k : Int) < 256 := by omega
  have HK := keep hk1
  clear hi hk1
  go_enter Try.func3, Try.ntmps3
  go_wp2_with (first
    | (go_at_call 10; refine (awake_any _).mono ?_; rintro e w1 ⟨rfl, hb1⟩; replace hb1 := keep hb1)
    | (go_at_call 11; refine (Table_any _).mono ?_
       rintro e w2 ⟨rfl, hb2, ht2⟩
       have hc2 := ht2.cell k HK.out
       have hsz := ht2.1
       replace hb2 := keep hb2
       replace ht2 := keep ht2))
  go_quiet ((go_at_call 12; exact Calls.quiet_of_same (Entry_q _ HK.out _)))
  have ht3 : Tab (w2.drewN nq) w1.heap.size := ht2.out.step (below_drewN (Below.refl _ _) _)
  have hb3 : Below w1.heap.size w1 (w2.drewN nq) := below_drewN hb2.out _
  clear hc2 hsz hb2 ht2
  generalize w2.drewN nq = w3 at ht3 hb3 ⊢
  have hc3 := ht3.cell k HK.out
  have hf3 := ht3.frozen k
  have hsz := ht3.1
  have hb4 := fun u => hb1.out.trans ((hb3.setCell (p := ⟨w1.heap.size, k, none⟩) (Nat.le_refl _) u).mono hb1.out.size)
  replace hb3 := keep hb3
  replace ht3 := keep ht3
  replace hb4 := keep hb4
  go_wp2_with fail
  have hb5 := hb4.out (Value.int IntKind.u32 (((entry k : Nat) + 1 : Int) % 4294967296))
  clear hb3 ht3 hb4 hc3 hf3 hsz hb1
  generalize w3.setCell _ _ = w4 at hb5 ⊢
  replace hb5 := keep hb5
  go_region_with (first
    | (go_at_call 11; refine (Table_any _).mono ?_
       rintro e w5 ⟨rfl, hb6, ht6⟩
       have hc6 : w5.cell? ⟨w4.heap.size, k, none⟩ = some (.int .u32 (entry k : Nat)) := ht6.cell k HK.out
       replace hb6 := keep hb6
       clear ht6)
    | (go_at_call 12; refine (Entry_any k HK.out _).mono ?_; rintro e w' ⟨rfl, rfl⟩))
  all_goals
    go_wp2_with fail
    go_ret
    exact ⟨rfl, (hb5.out.drew).trans (hb6.out.mono hb5.out.size)⟩
end Go.Proofs.Ytbjmihinmnjanaa
