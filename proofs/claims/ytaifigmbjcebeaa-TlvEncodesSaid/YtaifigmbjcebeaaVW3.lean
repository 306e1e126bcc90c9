/- The walk of the law TlvEncodes. -/
import Derived.Test.YtaifigmbjcebeaaVRef
import Derived.Test.YtaifigmbjcebeaaVAwake
namespace Go.Proofs.Ytaifigmbjcebeaa
open Go.RowKit
set_option linter.unusedVariables false

/-- The law's last statement: what was encoded lies in a slice each, of the same octets. -/
theorem tlvEncodes_walk (A : Option Addr) (n c : Nat) (l : List PX) (kind : Int) (w : World) (h : PS w A n c l) (hk : (Lit.int .u16 kind).wf = true) :
    Calls Try.prog 3 #[.slice A n c, .int .u16 kind] w fun e w' => e = .returned (.bool true) ∧ Below w.heap.size w w' := by
  have H := keep h
  clear h hk
  go_enter Try.func3, Try.ntmps3
  go_wp2_with fail
  refine (awake_any w).mono ?_
  rintro e w1 ⟨rfl, hb1⟩
  have KF := keep (few_any A n c l w1 (H.out.step hb1))
  have HB1 := keep hb1
  clear hb1
  go_wp2_with fail
  refine KF.out.mono ?_
  rintro e w2 ⟨rfl, rfl⟩
  clear KF
  cases hf : fewL l
  · clear hf
    go_wp2_with fail
    go_ret
    exact ⟨rfl, HB1.out⟩
  · have hn : n ≤ 1000000 := by
      unfold fewL at hf
      rw [Bool.and_eq_true, decide_eq_true_eq] at hf
      have := H.out.len
      omega
    have HN := keep hn
    clear hf hn
    have KE := keep (encode_any A n c l w1 (H.out.step HB1.out))
    go_wp2_with fail
    refine KE.out.mono ?_
    clear KE
    rintro e w2 ⟨hb2, hcase⟩
    have HB2 := keep (up HB1.out hb2)
    have KR := keep (renc_any A n c l w2 (H.out.step HB2.out))
    clear hb2
    obtain ⟨A2, n2, c2, er, bs, rfl, hs2, hR⟩ : ∃ A2 n2 c2 er bs, e = .returned (.tuple #[.slice A2 n2 c2, .int .i64 er]) ∧ BS w2 A2 n2 c2 bs ∧
        Hid (∀ e' w3, EncPost w2 (l.map pm) e' w3 → ∃ A3 n3 c3, e' = .returned (.tuple #[.slice A3 n3 c3, .int .i64 er]) ∧ BS w3 A3 n3 c3 bs ∧ Below w2.heap.size w2 w3) := by
      rcases hcase with ⟨ht, he⟩ | ⟨ht, A2, n2, c2, he, hs⟩
      · refine ⟨none, 0, 0, 10, [], he, BS.nil _, fun e' w3 h3 => ?_⟩
        obtain ⟨hb, ⟨_, he'⟩ | ⟨ht', _⟩⟩ := h3
        · exact ⟨none, 0, 0, he', BS.nil _, hb⟩
        · rw [ht] at ht'
          cases ht'
      · refine ⟨A2, n2, c2, 0, _, he, hs, fun e' w3 h3 => ?_⟩
        obtain ⟨hb, ⟨ht', _⟩ | ⟨_, A3, n3, c3, he', hs'⟩⟩ := h3
        · rw [ht] at ht'
          cases ht'
        · exact ⟨A3, n3, c3, he', hs', hb⟩
    have HS2 := keep hs2
    clear hs2
    go_wp2_with fail
    refine KR.out.mono ?_
    clear KR
    rintro e w3 h3
    obtain ⟨A3, n3, c3, rfl, hs3, hb3⟩ := hR.out _ _ h3
    have HB3 := keep (up HB2.out hb3)
    have KS := keep (same_eq A2 A3 n2 n3 c2 c3 bs bs w3 (HS2.out.step hb3) hs3 rfl)
    have KF := find_any A n c l kind w3 (H.out.step HB3.out) HN.out
    have KG : ∀ W, Below w3.heap.size w3 W → Calls Try.prog 16 #[.slice A n c, .int .u16 kind] W fun e w' => e = .returned (.int .i64 (findL (l.map pm) kind)) ∧ W = w' := fun W hW => rfind_any A n c l kind W ((H.out.step HB3.out).step hW) HN.out
    generalize findL (l.map pm) kind = z at KF KG
    have HF := keep KF
    have HG := keep KG
    have hz : (z == z) = true := by simp
    have her : (er == er) = true := by simp
    clear hs3 hb3 hR h3 hcase KF KG
    go_wp2_with (first
      | (go_at_call 14; refine KS.out.mono ?_; rintro e w4 ⟨rfl, rfl⟩)
      | (go_at_call 15; refine HF.out.mono ?_; rintro e w4 ⟨rfl, hb4⟩; replace hb4 := keep hb4)
      | (go_at_call 16; refine (HG.out _ hb4.out).mono ?_; rintro e w5 ⟨rfl, rfl⟩))
    go_ret
    exact ⟨rfl, up HB3.out hb4.out⟩
end Go.Proofs.Ytaifigmbjcebeaa
