/- The walk of DcepEncodes. -/
import Derived.Test.YtapaiknghnbfmaaDoorDW2
import Derived.Test.YtapaiknghnbfmaaDoorDV6
namespace Go.Proofs.YtapaiknghnbfmaaDoor
open Go.RowKit
set_option linter.unusedVariables false

set_option maxHeartbeats 8000000 in
theorem dcepEncodes_walk (o : OV) (w : World) (ho : OW o) (hT : Tabs w) :
    Calls Tryd.prog 3 #[.agg o.cells.toArray] w fun e w' => e = .returned (.bool true) ∧ Below w.heap.size w w' := by
  have l1 := below_lay w (.cells o.cells.toArray 25)
  have O1 := keep (OB.laid w o 25)
  have LT1 := keep (show w.heap.size < (w.alloc (.cells o.cells.toArray 25)).heap.size by simp)
  have K0 := keep (awake_any _ (hT.step l1))
  have l1 := keep l1
  by_cases hbig : 1000 < o.la.size ∨ 1000 < o.pr.size
  · have hla := ho.la
    have hpr := ho.pr
    unfold maxLen at hla hpr
    obtain ⟨k, p, l, la, pr⟩ := o
    dsimp only [OV.cells] at *
    have p1 : ∀ W, Below (w.alloc (.cells #[.int .u8 k, .int .u16 p, .int .u32 l, .string la, .string pr] 25)).heap.size (w.alloc (.cells #[.int .u8 k, .int .u16 p, .int .u32 l, .string la, .string pr] 25)) W → W.cell? ⟨w.heap.size, 3, none⟩ = some (.string la) ∧ W.cell? ⟨w.heap.size, 4, none⟩ = some (.string pr) := fun W hW => ⟨(O1.out.step LT1.out hW).c3, (O1.out.step LT1.out hW).c4⟩
    have P1 := keep p1
    clear p1 hT ho
    by_cases h1 : 1000 < la.size
    · have i1 : (1000 : Int) < (la.size : Int) := by omega
      go_enter Tryd.func3, Tryd.ntmps3
      go_wp2_with (go_at_call 11; refine K0.out.mono ?_; rintro e w1 ⟨rfl, hb1⟩; obtain ⟨d3, d4⟩ := P1.out _ hb1; replace hb1 := keep hb1)
      go_ret
      exact ⟨rfl, up l1.out hb1.out⟩
    · have i1 : ¬ ((1000 : Int) < (la.size : Int)) := by omega
      have i2 : (1000 : Int) < (pr.size : Int) := by omega
      go_enter Tryd.func3, Tryd.ntmps3
      go_wp2_with (go_at_call 11; refine K0.out.mono ?_; rintro e w1 ⟨rfl, hb1⟩; obtain ⟨d3, d4⟩ := P1.out _ hb1; replace hb1 := keep hb1)
      go_ret
      exact ⟨rfl, up l1.out hb1.out⟩
  · have hOK : o.Ok := ho.ok (by omega) (by omega)
    have K1 := keep (fun W (hW : Below w.heap.size w W) => encode_any o hOK W (hT.step hW))
    have K2 := keep (fun W => encodeR_any o hOK W)
    have K5 := keep (fun W => theirs_any o W)
    have i1 : ¬ ((1000 : Int) < (o.la.size : Int)) := by omega
    have i2 : ¬ ((1000 : Int) < (o.pr.size : Int)) := by omega
    unfold EncP RetF at K1 K2
    clear hT ho hbig hOK
    obtain ⟨er, her⟩ : ∃ x, encE o = x := ⟨_, rfl⟩
    obtain ⟨eb, heb⟩ : ∃ x, encD o = x := ⟨_, rfl⟩
    rw [her, heb] at K1 K2
    clear her heb
    obtain ⟨k, p, l, la, pr⟩ := o
    dsimp only [OV.cells] at *
    have e0 : (er == er) = true := by simp
    go_enter Tryd.func3, Tryd.ntmps3
    go_wp2_with (first
      | (go_at_call 11; refine K0.out.mono ?_; rintro e w1 ⟨rfl, hb1⟩; have B1 := keep (up l1.out hb1); have P1 := keep (O1.out.step LT1.out hb1); have LT2 := keep (Nat.lt_of_lt_of_le LT1.out hb1.size); obtain ⟨d0, d1, d2, d3, d4⟩ := P1.out; dsimp only at d0 d1 d2 d3 d4; clear hb1)
      | (go_at_call 12; refine (K1.out _ B1.out).mono ?_; rintro e w2 ⟨A2, n2, c2, rfl, hs2, hb2, hf2⟩; have B2 := keep (up B1.out hb2); have P2 := keep (P1.out.step LT2.out hb2); obtain ⟨q0, q1, q2, q3, q4⟩ := P2.out; dsimp only at q0 q1 q2 q3 q4; have H2 := keep hs2; clear hs2 hb2 hf2)
      | (go_at_call 14; refine (K5.out _).mono ?_; rintro e w4 ⟨rfl, hb4⟩; have B4 := keep (up B2.out hb4); have H4 := keep (H2.out.step hb4); clear hb4)
      | (go_at_call 13; refine (K2.out _).mono ?_; rintro e w5 ⟨A5, n5, c5, rfl, hs5, hb5, hf5⟩; have B5 := keep (up B4.out hb5); have KS := keep (same_yes _ _ _ _ _ _ _ _ (H4.out.step hb5) hs5); clear hb5 hs5 hf5)
      | (go_at_call 15; refine KS.out.mono ?_; rintro e w6 ⟨rfl, rfl⟩))
    go_ret
    exact ⟨rfl, B5.out⟩
end Go.Proofs.YtapaiknghnbfmaaDoor
