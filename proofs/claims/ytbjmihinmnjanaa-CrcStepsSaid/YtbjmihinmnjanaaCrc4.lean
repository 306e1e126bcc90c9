/- The laws' examples, and the walk of CrcTables. -/
import Derived.Test.YtbjmihinmnjanaaCrc3
import Derived.Lib.SlBytesConst
namespace Go.Proofs.Ytbjmihinmnjanaa
open Go.RowKit
set_option linter.unusedVariables false

theorem BS.laidF (w : World) (t : TypeId) (fr : Nat × Nat) (l : List Int) (h : ∀ n ∈ l, 0 ≤ n ∧ n < 256) : BS (w.alloc (.cells (l.map (Value.int .u8)).toArray t fr)) (some ⟨w.heap.size, 0, none⟩) l.length l.length (l.map b8) := by
  refine ⟨by simp, Nat.le_refl _, BR.row (t := t) (fr := fr) ?_⟩
  rw [bc_nums l h]
  exact heap_alloc_new w _
set_option maxRecDepth 100000 in
theorem awake_any (w : World) : Calls Try.prog 10 #[] w fun e w' => e = .returned (.bool true) ∧ Below w.heap.size w w' := by
  have e1 : entry 1 = 4067132163 := by decide +kernel
  have e2 : summ entries ([49, 50, 51, 52, 53, 54, 55, 56, 57].map b8) = 3808858755 := by rw [summ_entries]; decide +kernel
  have e3 : summ entries [] = 0 := by rw [summ_entries]; decide +kernel
  have E2 := keep e2
  have E3 := keep e3
  clear e2 e3
  have kc := fun (w : World) (C : Array Value) (n c : Nat) => Lib.run_convert_bytes_const (P := Try.prog) w 28 5 C n c Try.underlying28 Try.underlying5
  go_enter Try.func10, Try.ntmps10
  go_wp2_with (first
    | (go_at_call 11; refine (Table_any _).mono ?_
       rintro e w1 ⟨rfl, hb1, ht1⟩
       have hc : w1.cell? ⟨w.heap.size, 1, none⟩ = some (.int .u32 4067132163) := by rw [ht1.cell 1 (by decide), e1]; rfl
       have hz1 := ht1.reads
       have l2 := below_lay w1 (.cells #[.int .u8 49, .int .u8 50, .int .u8 51, .int .u8 52, .int .u8 53, .int .u8 54, .int .u8 55, .int .u8 56, .int .u8 57] 5 (9, 10))
       have K2 := Sum_any _ 256 256 entries _ 9 9 _ _ (hz1.step l2) (BS.laidF w1 5 (9, 10) [49, 50, 51, 52, 53, 54, 55, 56, 57] (by simp)) (by decide)
       rw [E2.out] at K2
       replace K2 := keep K2
       have K3 := Sum_any _ 256 256 entries none 0 0 [] _ (hz1.step l2) (BS.nil _) (by decide)
       rw [E3.out] at K3
       replace K3 := keep K3
       have hB := hb1.trans (l2.mono hb1.size)
       replace hB := keep hB
       clear ht1 e1 hz1 hb1 l2)
    | (go_at_call 13; refine K2.out.mono ?_; rintro e w' ⟨rfl, rfl⟩; clear K2)
    | (go_at_call 13; refine K3.out.mono ?_; rintro e w' ⟨rfl, rfl⟩))
  go_ret
  exact ⟨rfl, hB.out⟩
end Go.Proofs.Ytbjmihinmnjanaa
