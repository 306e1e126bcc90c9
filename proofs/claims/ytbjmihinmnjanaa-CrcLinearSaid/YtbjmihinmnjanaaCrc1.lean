/- Package crc and its reference: what each function answers. -/
import Derived.WalkKit
import Derived.WalkSpells
import Derived.KernelRfl
import Derived.Test.YtbjmihinmnjanaaProg
import Derived.Test.YtbjmihinmnjanaaMem
import Derived.Test.YtbjmihinmnjanaaNums
import Derived.Test.YtbjmihinmnjanaaCrcMath
namespace Go.Proofs.Ytbjmihinmnjanaa
open Go.RowKit
set_option linter.unusedVariables false

theorem wrap_u32 (a : Int) : IntKind.u32.wrap a = a % 4294967296 := by simp [IntKind.wrap, IntKind.signed, IntKind.bits]
theorem wrap_u8 (a : Int) : IntKind.u8.wrap a = a % 256 := by simp [IntKind.wrap, IntKind.signed, IntKind.bits]
theorem ret_bool {a b : Bool} (h : a = b) : Ending.returned (.bool a) = .returned (.bool b) := by rw [h]
theorem ret_int {k : IntKind} {a b : Int} (h : a = b) : Ending.returned (.int k a) = .returned (.int k b) := by rw [h]
theorem xor_u32 (a b : Nat) (ha : a < 4294967296) (hb : b < 4294967296) : bits .xor .u32 (a : Int) (b : Int) = ((a ^^^ b : Nat) : Int) := by
  have h1 : (BitVec.ofInt 32 (a : Int)).toNat = a := by
    rw [BitVec.ofInt_natCast, BitVec.toNat_ofNat]; exact Nat.mod_eq_of_lt (by omega)
  have h2 : (BitVec.ofInt 32 (b : Int)).toNat = b := by
    rw [BitVec.ofInt_natCast, BitVec.toNat_ofNat]; exact Nat.mod_eq_of_lt (by omega)
  show IntKind.u32.wrap ((BitVec.ofInt 32 (a : Int) ^^^ BitVec.ofInt 32 (b : Int)).toNat : Int) = _
  rw [BitVec.toNat_xor, h1, h2, wrap_u32]
  have := xor_lt32 ha hb
  omega

theorem fits_any (A : Option Addr) (n c : Nat) (w : World) :
    Calls Try.prog 19 #[.slice A n c] w fun e w' => e = .returned (.bool ((n : Int) == 256)) ∧ w = w' := by
  go_enter Try.func19, Try.ntmps19
  go_wp2_with fail
  go_ret
  exact ⟨rfl, rfl⟩

theorem bit_cases (v : Nat) (hv : v < 4294967296) : ((v : Int) % 2 = 1 ∧ bits .xor .u32 ((v : Int) / 2) 2197175160 = ((bit v : Nat) : Int)) ∨ ((v : Int) % 2 = 0 ∧ (v : Int) / 2 = ((bit v : Nat) : Int)) := by
  by_cases h : v % 2 = 1
  · refine .inl ⟨by omega, (xor_u32 (v / 2) 2197175160 (by omega) (by decide)).trans ?_⟩
    unfold bit
    rw [if_pos h]
  · refine .inr ⟨by omega, ?_⟩
    unfold bit
    rw [if_neg h]
    omega

theorem bit_any (v : Nat) (hv : v < 4294967296) (w : World) :
    Calls Try.prog 18 #[.int .u32 v] w fun e w' => e = .returned (.int .u32 (bit v : Nat)) ∧ w = w' := by
  rcases bit_cases v hv with ⟨h1, h2⟩ | ⟨h1, h2⟩
  all_goals
    go_enter Try.func18, Try.ntmps18
    go_wp2_with fail
    go_ret
    exact ⟨rfl, rfl⟩

theorem bitSteps_any (v n : Nat) (hv : v < 4294967296) (hn : n < 100) (w : World) :
    Calls Try.prog 17 #[.int .u32 v, .int .i64 n] w fun e w' => e = .returned (.int .u32 (bits8 n v : Nat)) ∧ w = w' := by
  go_enter Try.func17, Try.ntmps17
  go_wp2_with fail
  go_loop [0, 7] (fun v' i => ∃ j : Nat, j ≤ n ∧ i = .int .i64 j ∧ v' = .int .u32 (bits8 j v : Nat)) (fun _ i => n - (intOf i).toNat)
  case atStart => exact ⟨0, Nat.zero_le _, rfl, rfl⟩
  case round =>
    obtain ⟨j, hj, rfl, rfl⟩ := hrel
    by_cases hlt : j < n
    · obtain ⟨u, hu⟩ : ∃ u, bits8 j v = u := ⟨_, rfl⟩
      have hu1 : u < 4294967296 := hu ▸ bits8_lt j v hv
      have hs : Hid (bit u = bits8 (j + 1) v) := by show _ = _; rw [bits8_succ, hu]
      rw [hu]
      clear hu
      rcases bit_cases u hu1 with ⟨h1, h2⟩ | ⟨h1, h2⟩
      all_goals
        go_wp2_with fail
        go_round
        case rel => exact ⟨j + 1, by omega, by go_num, by rw [hs.out]⟩
        case measure => simp [intOf]; omega
    · obtain rfl : n = j := by omega
      go_wp2_with fail
      go_ret
      exact ⟨rfl, rfl⟩
theorem Entry_any (i : Nat) (hi : i < 256) (w : World) :
    Calls Try.prog 12 #[.int .i64 i] w fun e w' => e = .returned (.int .u32 (entry i : Nat)) ∧ w = w' := by
  have hw : IntKind.u32.wrap (i : Int) = i := by rw [wrap_u32]; omega
  go_enter Try.func12, Try.ntmps12
  go_wp2_with fail
  go_loop [3, 4] (fun v' k => ∃ j : Nat, j ≤ 8 ∧ k = .int .i64 j ∧ v' = .int .u32 (bits8 j i : Nat)) (fun _ k => 8 - (intOf k).toNat)
  case atStart => exact ⟨0, Nat.zero_le _, rfl, by first | rfl | (congr 1; omega)⟩
  case round =>
    obtain ⟨j, hj, rfl, rfl⟩ := hrel
    by_cases hlt : j < 8
    · obtain ⟨u, hu⟩ : ∃ u, bits8 j i = u := ⟨_, rfl⟩
      have hu1 : u < 4294967296 := hu ▸ bits8_lt j i (by omega)
      have hs : Hid (bit u = bits8 (j + 1) i) := by show _ = _; rw [bits8_succ, hu]
      rw [hu]
      clear hu
      go_wp2_with (go_at_call 18; refine (bit_any _ hu1 _).mono ?_; rintro e w' ⟨rfl, rfl⟩)
      go_round
      case rel => exact ⟨j + 1, by omega, by go_num, by rw [hs.out]⟩
      case measure => simp [intOf]; omega
    · obtain rfl : j = 8 := by omega
      go_wp2_with fail
      go_ret
      exact ⟨rfl, rfl⟩

/-- The block g holds the numbers of all octets. -/
def Tab (w : World) (g : Nat) : Prop := g < w.heap.size ∧ ∃ C, w.heap[g]? = some (.cells C 39 (0, 0)) ∧ C.size = 256 ∧ ∀ i, i < 256 → C[i]? = some (.int .u32 (entry i : Nat))
theorem zero_tab : ∃ Z : Array Value, (∀ w, (zeroValue 39).run Try.prog w = .ok (.agg Z) w) ∧ Z.size = 256 :=
  ⟨(List.replicate 256 (.int .u32 0)).toArray, fun w => by kernel_rfl, by rw [List.size_toArray, List.length_replicate]⟩
set_option maxRecDepth 100000 in
theorem Table_any (w : World) :
    Calls Try.prog 11 #[] w fun e w' => e = .returned (.slice (some ⟨w.heap.size, 0, none⟩) 256 256) ∧ Below w.heap.size w w' ∧ Tab w' w.heap.size := by
  obtain ⟨Z, hZ, hZs⟩ := zero_tab
  have HZ := keep hZs
  clear hZs
  go_enter Try.func11, Try.ntmps11
  go_wp2_with fail
  go_loopw [3] (fun i wr => ∃ j : Nat, j ≤ 256 ∧ i = .int .i64 j ∧ ∃ C : Array Value, wr = w.alloc (.cells C 39) ∧ C.size = 256 ∧ ∀ i, i < j → C[i]? = some (.int .u32 (entry i : Nat))) (fun i _ => 256 - (intOf i).toNat)
  case atStart => exact ⟨0, Nat.zero_le _, rfl, Z, rfl, HZ.out, fun i hi => by omega⟩
  case round =>
    obtain ⟨j, hj, rfl, C, rfl, hCs, hC⟩ := hrel
    have HC := keep hC
    have HCs := keep hCs
    clear hC hCs
    by_cases hlt : j < 256
    · have hw : IntKind.u32.wrap (j : Int) = j := by rw [wrap_u32]; omega
      have hlt' : (j : Int) < 256 := by omega
      have hj1 : j < 256 := hlt
      have HJ := keep hj1
      obtain ⟨old, hold⟩ : ∃ old, C[j]? = some old := ⟨_, Array.getElem?_eq_getElem (by have := HCs.out; omega)⟩
      clear hlt hj hj1
      go_wp2_with (go_at_call 17; refine (bitSteps_any j 8 (by have := HJ.out; omega) (by omega) _).mono ?_; rintro e w' ⟨rfl, rfl⟩)
      go_roundw
      case rel =>
        have h1 := HJ.out
        have h2 := HCs.out
        refine ⟨j + 1, by omega, by go_num, _, rfl, by rw [Array.size_setIfInBounds]; exact h2, fun i hi => ?_⟩
        rw [Array.getElem?_setIfInBounds]
        by_cases hij : j = i
        · subst hij
          rw [if_pos rfl, if_pos (by omega)]
          rfl
        · rw [if_neg hij]
          exact HC.out i (by omega)
      case measure => simp [intOf]; have := HJ.out; omega
    · obtain rfl : j = 256 := by omega
      go_wp2_with fail
      go_ret
      refine ⟨rfl, (Below.refl _ _).alloc (Nat.le_refl _) _, by simp, C, ?_, HCs.out, HC.out⟩
      exact heap_alloc_new w _
theorem Tab.step {w w' : World} {g : Nat} (h : Tab w g) (hb : Below w.heap.size w w') : Tab w' g := by
  obtain ⟨h0, C, h1, h2⟩ := h
  exact ⟨Nat.lt_of_lt_of_le h0 hb.size, C, by rw [hb.block g h0]; exact h1, h2⟩
/-- All octets' numbers. -/
def entries : List Int := (List.range 256).map fun i => ((entry i : Nat) : Int)
theorem entries_get (i : Nat) (hi : i < 256) : entries[i]? = some ((entry i : Nat) : Int) := by
  unfold entries
  rw [List.getElem?_map, List.getElem?_range hi]
  rfl
theorem entries_length : entries.length = 256 := by unfold entries; rw [List.length_map, List.length_range]
theorem Tab.cell {w : World} {g : Nat} (h : Tab w g) (i : Nat) (hi : i < 256) : w.cell? ⟨g, i, none⟩ = some (.int .u32 (entry i : Nat)) := by
  obtain ⟨h0, C, h1, h2, h3⟩ := h
  rw [cell_of_row w g i C _ _ h1]
  exact h3 i hi
theorem Tab.reads {w : World} {g : Nat} (h : Tab w g) : NS .u32 w (some ⟨g, 0, none⟩) 256 256 entries := by
  refine ⟨entries_length.symm, Nat.le_refl _, fun _ => ⟨g, 0, rfl, h.1, fun j u hu => ?_⟩, fun z hz => ?_⟩
  · rw [List.getElem?_map] at hu
    by_cases hj : j < 256
    · rw [entries_get j hj] at hu
      rw [Nat.zero_add, h.cell j hj]
      exact hu
    · rw [List.getElem?_eq_none (by rw [entries_length]; omega)] at hu
      cases hu
  · unfold entries at hz
    obtain ⟨i, hi, rfl⟩ := List.mem_map.1 hz
    have := entry_lt i (List.mem_range.1 hi)
    exact WalkArith.wf_u32 ⟨by omega, by omega⟩
end Go.Proofs.Ytbjmihinmnjanaa
