/- The reference: Decode, of every octets; the walk of DcepDecodes. -/
import Derived.Test.YtapaiknghnbfmaaDoorDX3
import Derived.Test.YtapaiknghnbfmaaDoorDW2
namespace Go.Proofs.YtapaiknghnbfmaaDoor
open Go.RowKit
set_option linter.unusedVariables false

theorem decodeR_any (A : Option Addr) (n c : Nat) (bs : List UInt8) (w : World) (hb : BS w A n c bs) (hn : n ≤ 100000) : Calls Tryd.prog 17 #[.slice A n c] w (DecP bs w) := by
  by_cases h : (bs ≠ [] ∧ bs.headD 0 ≠ 3) ∨ bs.length < 12
  · exact decodeR_early A n c bs w hb hn h
  · have h12 : 12 ≤ bs.length := by omega
    have h3 : bs.headD 0 = 3 := by
      apply Classical.byContradiction
      intro h3
      exact h (.inl ⟨by intro h0; rw [h0] at h12; simp at h12, h3⟩)
    by_cases hbad : 256 < hN bs ∨ 256 < hM bs ∨ n - 12 ≠ hN bs + hM bs
    · exact decodeR_late0 A n c bs w hb hn h12 h3 hbad
    · have hg : hN bs ≤ 256 ∧ hM bs ≤ 256 ∧ n - 12 = hN bs + hM bs := by omega
      by_cases hc : c = 12
      · exact decodeR_good1 A n c bs w hb hn h12 h3 hg hc
      · by_cases hq : c = 12 + hN bs
        · exact decodeR_good2 A n c bs w hb hn h12 h3 hg hc hq
        · exact decodeR_good3 A n c bs w hb hn h12 h3 hg hc hq
set_option maxHeartbeats 8000000 in
theorem dcepDecodes_walk (A : Option Addr) (n c : Nat) (bs : List UInt8) (w : World) (hb : BS w A n c bs) (hT : Tabs w) :
    Calls Tryd.prog 4 #[.slice A n c] w fun e w' => e = .returned (.bool true) ∧ Below w.heap.size w w' := by
  have K0 := keep (awake_any _ hT)
  have HB := keep hb
  by_cases hbig : 1000 < n
  · have i1 : (1000 : Int) < (n : Int) := by omega
    clear hb hT
    go_enter Tryd.func4, Tryd.ntmps4
    go_wp2_with (go_at_call 11; refine K0.out.mono ?_; rintro e w1 ⟨rfl, hb1⟩; replace hb1 := keep hb1)
    go_ret
    exact ⟨rfl, hb1.out⟩
  · have K1 := keep (fun W (hW : Below w.heap.size w W) => decode_any A n c bs W (HB.out.step hW) (by omega) (hT.step hW))
    have K2 := keep (fun W (hW : Below w.heap.size w W) => decodeR_any A n c bs W (HB.out.step hW) (by omega))
    have K6 := keep (fun W => alike_yes (decO bs) W)
    have i1 : ¬ ((1000 : Int) < (n : Int)) := by omega
    unfold DecP at K1 K2
    clear hb hT hbig
    obtain ⟨er, her⟩ : ∃ x, decE bs = x := ⟨_, rfl⟩
    obtain ⟨Q, hQ⟩ : ∃ x, decO bs = x := ⟨_, rfl⟩
    rw [her, hQ] at K1 K2
    rw [hQ] at K6
    clear her hQ
    obtain ⟨k, p, l, la, pr⟩ := Q
    dsimp only [OV.cells] at *
    have HO1 := keep (fun W => OB.laid W ⟨k, p, l, la, pr⟩ 25)
    have HO2 := keep (fun W => OB.laid W ⟨k, p, l, la, pr⟩ 32)
    have e0 : (er == er) = true := by simp
    go_enter Tryd.func4, Tryd.ntmps4
    go_wp2_with (first
      | (go_at_call 11; refine K0.out.mono ?_; rintro e w1 ⟨rfl, hb1⟩; have B1 := keep hb1; clear hb1)
      | (go_at_call 16; refine (K1.out _ B1.out).mono ?_; rintro e w3 ⟨rfl, hb3⟩; have B3 := keep (up (up B1.out hb3) (below_lay w3 (.cells #[.int .u8 k, .int .u16 p, .int .u32 l, .string la, .string pr] 25))); have R3 := keep (HO1.out w3); have LR3 := keep (show w3.heap.size < (w3.alloc (.cells #[.int .u8 k, .int .u16 p, .int .u32 l, .string la, .string pr] 25)).heap.size by simp); clear hb3)
      | (go_at_call 17; refine (K2.out _ B3.out).mono ?_; rintro e w4 ⟨rfl, hb4⟩; have B4 := keep (up (up B3.out hb4) (below_lay w4 (.cells #[.int .u8 k, .int .u16 p, .int .u32 l, .string la, .string pr] 32))); have R4 := HO2.out w4; have P4 := R3.out.step LR3.out (up hb4 (below_lay w4 (.cells #[.int .u8 k, .int .u16 p, .int .u32 l, .string la, .string pr] 32))); obtain ⟨d0, d1, d2, d3, d4⟩ := P4; obtain ⟨q0, q1, q2, q3, q4⟩ := R4; dsimp only [OV.cells] at d0 d1 d2 d3 d4 q0 q1 q2 q3 q4; clear hb4)
      | (go_at_call 18; refine (K6.out _).mono ?_; rintro e w5 ⟨rfl, hb5⟩; have B5 := keep (up B4.out hb5); clear hb5))
    go_ret
    exact ⟨rfl, B5.out⟩
end Go.Proofs.YtapaiknghnbfmaaDoor
