/- The reference: may. -/
import Derived.Test.YtapaiknghnbfmaaDoorDV3
namespace Go.Proofs.YtapaiknghnbfmaaDoor
open Go.RowKit
set_option linter.unusedVariables false

set_option maxHeartbeats 2000000 in
theorem may_any (o : OV) (ho : o.Ok) (w : World) : Calls Tryd.prog 41 #[.agg o.cells.toArray] w fun e w' => e = .returned (.bool (!wrongB o)) ∧ Below w.heap.size w w' := by
  have hl := below_lay w (.cells o.cells.toArray 32)
  have hob := OB.laid w o 32
  have hk := ho.k
  have KV := keep (fun s hs W => validR_any s hs W)
  have HL := keep hl
  clear hl
  have hla := ho.la
  have hpr := ho.pr
  obtain ⟨k, p, l, la, pr⟩ := o
  dsimp only [OV.cells] at *
  unfold wrongB
  dsimp only
  obtain ⟨c0, c1, c2, c3, c4⟩ := hob
  dsimp only at c0 c1 c2 c3 c4
  have hkm : k.tmod 128 = k % 128 := Int.tmod_eq_emod_of_nonneg hk.1
  by_cases h2 : 2 < k % 128
  · have h2z : ¬ (k % 128 ≤ 2) := by omega
    rw [decide_eq_true h2, Bool.true_or, Bool.true_or]
    go_enter Tryd.func41, Tryd.ntmps41
    go_wp2_with fail
    go_ret
    exact ⟨rfl, HL.out⟩
  · have h2z : k % 128 ≤ 2 := by omega
    rw [decide_eq_false h2, Bool.false_or]
    have K1 := keep (KV.out la (by omega))
    have K2 := keep (KV.out pr (by omega))
    go_enter Tryd.func41, Tryd.ntmps41
    go_wp2_with (go_at_call 64; first
          | (with_reducible refine (K1.out _).mono ?_; rintro e w1 ⟨rfl, rfl⟩)
          | (with_reducible refine (K2.out _).mono ?_; rintro e w2 ⟨rfl, rfl⟩))
    all_goals go_ret
    all_goals refine ⟨?_, HL.out⟩
    all_goals simp [*]
end Go.Proofs.YtapaiknghnbfmaaDoor
