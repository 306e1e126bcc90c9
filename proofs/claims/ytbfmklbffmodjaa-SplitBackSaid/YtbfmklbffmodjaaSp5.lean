/- Lists of chunks that are the same. -/
import Derived.Test.YtbfmklbffmodjaaSp4
namespace Go.Proofs.Ytbfmklbffmodjaa
open Go.RowKit
set_option linter.unusedVariables false

set_option maxRecDepth 1000000 in
set_option maxHeartbeats 2000000 in
theorem sameChunks_same (A B : Option Addr) (n c d : Nat) (l k : List CX) (w : World) (hl : CS w A n c l) (hk : CS w B n d k) (pl : ∀ x ∈ l, Plain x) (pk : ∀ x ∈ k, Plain x) (h : l.map CX.ch = k.map CX.ch) (hn : n ≤ 1000000) :
    Calls Try.prog 10 #[.slice A n c, .slice B n d] w fun e w' => e = .returned (.bool true) ∧ Below w.heap.size w w' := by
  have HL := keep hl
  have HK := keep hk
  have HH := keep h
  have PL := keep pl
  have PK := keep pk
  clear hl hk h pl pk
  go_enter Try.func10, Try.ntmps10
  go_wp2_with fail
  go_loopw [5] (fun i wr => ∃ j : Nat, j ≤ n ∧ i = .int .i64 j ∧ Hid (Below w.heap.size w wr)) (fun i _ => n - (intOf i).toNat)
  case atStart => exact ⟨0, Nat.zero_le _, rfl, keep (Below.refl _ _)⟩
  case round =>
    obtain ⟨j, hj, rfl, hno⟩ := hrel
    by_cases hlt : j < n
    · obtain ⟨b, o, x, rfl, hbl, hat, hlj, hv⟩ := (HL.out.step hno.out).at_ hlt
      obtain ⟨b', o', y, rfl, hbl', hat', hlj', hv'⟩ := (HK.out.step hno.out).at_ hlt
      have hlt' : (j : Int) < (n : Int) := by omega
      have hxy : x.ch = y.ch := by
        have := congrArg (fun z => z[j]?) HH.out
        simpa [hlj, hlj'] using this
      have K := fun w2 hx hy => same07_same x y w2 hx hy (PL.out _ (List.mem_of_getElem? hlj)) (PK.out _ (List.mem_of_getElem? hlj')) hxy
      have HX := keep hv.bs
      have HY := keep hv'.bs
      clear hlj hlj' hv hv' hxy
      obtain ⟨xk, xf, xa, xb, xo, xs, xp, ⟨x1, x2, x3⟩, ⟨x4, x5, x6⟩, ⟨x7, x8, x9⟩, ⟨x10, x11, x12⟩, ⟨x13, x14, x15⟩, xps, xbs⟩ := x
      obtain ⟨yk, yf, ya, yb, yo, ys, yp, ⟨y1, y2, y3⟩, ⟨y4, y5, y6⟩, ⟨y7, y8, y9⟩, ⟨y10, y11, y12⟩, ⟨y13, y14, y15⟩, yps, ybs⟩ := y
      dsimp only [At12, CX.cells] at hat hat' K HX HY
      obtain ⟨c0, c1, c2, c3, c4, c5, c6, c7, c8, c9, c10, c11⟩ := hat
      obtain ⟨d0, d1, d2, d3, d4, d5, d6, d7, d8, d9, d10, d11⟩ := hat'
      replace K := keep K
      go_wp2_with fail
      go_region_with (first
        | (go_at_call 20; refine (K.out _ (HX.out.step (Below.refl _ _).drew) (HY.out.step (Below.refl _ _).drew)).mono ?_; rintro e w2 ⟨rfl, hb⟩
           have B := keep (hno.out.drew.trans (hb.mono hno.out.size))
           clear hb))
      all_goals (try go_wp2_with fail)
      all_goals
        go_roundw
        case rel => exact ⟨j + 1, by omega, by go_num, B⟩
        case measure => simp [intOf]; omega
    · obtain rfl : n = j := by omega
      have B := keep hno.out
      go_wp2_with fail
      go_ret
      exact ⟨rfl, B.out⟩
end Go.Proofs.Ytbfmklbffmodjaa
