/- The reference: Encode. -/
import Derived.Test.YtapaiknghnbfmaaDoorDV4
import Derived.Test.YtapaiknghnbfmaaDoorD3
import Derived.Test.YtapaiknghnbfmaaDoorRf1
namespace Go.Proofs.YtapaiknghnbfmaaDoor
open Go.RowKit Go.Lib
set_option linter.unusedVariables false

set_option maxHeartbeats 4000000 in
theorem encodeR_no (o : OV) (ho : o.Ok) (w : World) (h : wrongB o = true ∨ 256 < o.la.size ∨ 256 < o.pr.size) : Calls Tryd.prog 13 #[.agg o.cells.toArray] w (EncP o w) := by
  have hl := below_lay w (.cells o.cells.toArray 32)
  have hob := OB.laid w o 32
  have KW := may_any o ho (w.alloc (.cells o.cells.toArray 32))
  have HL := keep hl
  have HO := keep hob
  have hlt : w.heap.size < (w.alloc (.cells o.cells.toArray 32)).heap.size := by simp
  have HLT := keep hlt
  clear hlt hl
  cases hw : wrongB o
  · rw [hw] at KW
    have KW := keep KW
    have h2 : 256 < o.la.size ∨ 256 < o.pr.size := by
      rcases h with h | h
      · rw [hw] at h; cases h
      · exact h
    obtain ⟨e1, e2⟩ := encE_large hw h2
    unfold EncP
    rw [e1, e2]
    clear e1 e2 hw h
    obtain ⟨k, p, l, la, pr⟩ := o
    dsimp only [OV.cells] at *
    obtain ⟨c0, c1, c2, c3, c4⟩ := hob
    dsimp only at c0 c1 c2 c3 c4
    by_cases h3 : 256 < la.size
    · have h3z : (256 : Int) < (la.size : Int) := by omega
      go_enter Tryd.func13, Tryd.ntmps13
      go_wp2_with (go_at_call 41; refine KW.out.mono ?_; rintro e w1 ⟨rfl, hb1⟩; have q := HO.out.step HLT.out hb1; obtain ⟨d0, d1, d2, d3, d4⟩ := q; dsimp only at d0 d1 d2 d3 d4; replace hb1 := keep (up HL.out hb1))
      go_ret2
      exact ⟨_, _, _, rfl, BS.nil _, hb1.out, Fr.no _⟩
    · have h4 : 256 < pr.size := by omega
      have h3z : ¬ ((256 : Int) < (la.size : Int)) := by omega
      have h4z : (256 : Int) < (pr.size : Int) := by omega
      go_enter Tryd.func13, Tryd.ntmps13
      go_wp2_with (go_at_call 41; refine KW.out.mono ?_; rintro e w1 ⟨rfl, hb1⟩; have q := HO.out.step HLT.out hb1; obtain ⟨d0, d1, d2, d3, d4⟩ := q; dsimp only at d0 d1 d2 d3 d4; replace hb1 := keep (up HL.out hb1))
      go_ret2
      exact ⟨_, _, _, rfl, BS.nil _, hb1.out, Fr.no _⟩
  · rw [hw] at KW
    have KW := keep KW
    obtain ⟨e1, e2⟩ := encE_wrong hw
    unfold EncP
    rw [e1, e2]
    clear e1 e2 hw h
    obtain ⟨k, p, l, la, pr⟩ := o
    dsimp only [OV.cells] at *
    obtain ⟨c0, c1, c2, c3, c4⟩ := hob
    dsimp only at c0 c1 c2 c3 c4
    go_enter Tryd.func13, Tryd.ntmps13
    go_wp2_with (go_at_call 41; refine KW.out.mono ?_; rintro e w1 ⟨rfl, hb1⟩; replace hb1 := keep (up HL.out hb1))
    go_ret2
    exact ⟨_, _, _, rfl, BS.nil _, hb1.out, Fr.no _⟩
end Go.Proofs.YtapaiknghnbfmaaDoor
