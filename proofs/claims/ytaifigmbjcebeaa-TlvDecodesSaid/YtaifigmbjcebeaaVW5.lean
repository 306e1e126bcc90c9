/- The walk of the law TlvDecodes. -/
import Derived.Test.YtaifigmbjcebeaaVRef2
import Derived.Test.YtaifigmbjcebeaaVAwake
namespace Go.Proofs.Ytaifigmbjcebeaa
open Go.RowKit
set_option linter.unusedVariables false

/-- What both answer: the same error's number, and parameters that are the same. -/
theorem both_shape {w w' : World} {bs : List UInt8} {e : Ending} (h : DecPost w bs e w') : ∃ A n c er l, e = .returned (.tuple #[.slice A n c, .int .i64 er]) ∧ Below w.heap.size w w' ∧ PS w' A n c l ∧
    Hid (∀ w2 e' w3, RDecPost w2 bs e' w3 → ∃ B m d k, e' = .returned (.tuple #[.slice B m d, .int .i64 er]) ∧ Below w2.heap.size w2 w3 ∧ PS w3 B m d k ∧ l.map pm = k.map pm) ∧ n ≤ 32 := by
  obtain ⟨hb, ⟨x, hx, hd, he⟩ | ⟨A, n, c, l, hd, he, hs⟩⟩ := h
  · refine ⟨none, 0, 0, x, [], he, hb, PS.nil _, fun w2 e' w3 h3 => ?_, by omega⟩
    obtain ⟨hb3, ⟨y, _, hd', he'⟩ | ⟨B, m, d, k, hd', _, _⟩⟩ := h3
    · rw [hd] at hd'
      injection hd' with hd'
      subst hd'
      exact ⟨none, 0, 0, [], he', hb3, PS.nil _, rfl⟩
    · rw [hd] at hd'
      cases hd'
  · refine ⟨A, n, c, 0, l, he, hb, hs, fun w2 e' w3 h3 => ?_, ?_⟩
    · obtain ⟨hb3, ⟨y, _, hd', he'⟩ | ⟨B, m, d, k, hd', he', hs'⟩⟩ := h3
      · rw [hd] at hd'
        cases hd'
      · rw [hd] at hd'
        injection hd' with hd'
        exact ⟨B, m, d, k, he', hb3, hs', hd'⟩
    · have h1 := (decL_ok _ _ _ hd).2.1
      rw [List.length_map, ← hs.len] at h1
      exact h1

theorem tlvDecodes_walk (B : Option Addr) (m d : Nat) (bs : List UInt8) (w : World) (h : BS w B m d bs) :
    Calls Try.prog 4 #[.slice B m d] w fun e w' => e = .returned (.bool true) ∧ Below w.heap.size w w' := by
  have H := keep h
  clear h
  go_enter Try.func4, Try.ntmps4
  go_wp2_with fail
  refine (awake_any w).mono ?_
  rintro e w1 ⟨rfl, hb1⟩
  have HB1 := keep hb1
  clear hb1
  by_cases hm : 3000 < m
  · have hm' : 3000 < (m : Int) := by omega
    clear hm
    go_wp2_with fail
    go_ret
    exact ⟨rfl, HB1.out⟩
  · have hm' : ¬ 3000 < (m : Int) := by omega
    have KD := keep (decode_any B m d bs w1 (H.out.step HB1.out) (by omega))
    have HM := keep (show m ≤ 100000 by omega)
    clear hm
    go_wp2_with fail
    refine KD.out.mono ?_
    rintro e w2 hp
    obtain ⟨A2, n2, c2, er, l, rfl, hb2, hs2, hR, hn2⟩ := both_shape hp
    have HB2 := keep (up HB1.out hb2)
    have KR := keep (rdec_any B m d bs w2 (H.out.step HB2.out) HM.out)
    have HS2 := keep hs2
    have HN2 := keep hn2
    clear KD hp hb2 hs2 hn2
    go_wp2_with fail
    refine KR.out.mono ?_
    rintro e w3 hp
    obtain ⟨A3, n3, c3, k, rfl, hb3, hs3, hlk⟩ := hR.out _ _ _ hp
    have HB3 := keep (up HB2.out hb3)
    have KS := same_ret6 w3 A2 A3 n2 n3 c2 c3 l k (HS2.out.step hb3) hs3 (by have := HN2.out; omega)
    rw [decide_eq_true hlk] at KS
    replace KS := keep KS
    have her : (er == er) = true := by simp
    clear KR hp hb3 hs3 hlk hR
    go_wp2_with (go_at_call 19; refine KS.out.mono ?_; rintro e w4 ⟨rfl, q, rfl⟩)
    go_ret
    exact ⟨rfl, below_drew' HB3.out q⟩
end Go.Proofs.Ytaifigmbjcebeaa
