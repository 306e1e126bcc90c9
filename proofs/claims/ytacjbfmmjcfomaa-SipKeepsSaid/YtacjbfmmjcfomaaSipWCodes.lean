/- The walk of the law SipCodes. -/
import Derived.Test.YtacjbfmmjcfomaaSipRC
namespace Go.Proofs.Ytacjbfmmjcfomaa
open Go.RowKit
set_option linter.unusedVariables false

/-- What Code answers. -/
def ans (n : Nat) (key bs : List UInt8) : BitVec 64 × Bool := if n = 16 then (code key bs, true) else (0, false)
theorem Code_any (A : Option Addr) (n c : Nat) (key : List UInt8) (B : Option Addr) (m d : Nat) (bs : List UInt8) (w : World) (ha : BS w A n c key) (hb : BS w B m d bs) (hm : m ≤ 100000) (x : BitVec 64) (o : Bool) (h : Hid (ans n key bs = (x, o))) :
    Calls Try.prog 10 #[.slice A n c, .slice B m d] w fun e w' => e = .returned (.tuple #[.int .u64 (x.toNat : Int), .bool o]) ∧ Below w.heap.size w w' := by
  have h' := h.out
  unfold ans at h'
  by_cases hn : n = 16
  · subst hn
    rw [if_pos rfl] at h'
    injection h' with h1 h2
    subst h1 h2
    exact Code_some A c key B m d bs w ha hb hm
  · rw [if_neg hn] at h'
    injection h' with h1 h2
    subst h1 h2
    exact (Code_none A n c B m d hn w).mono fun e w' ⟨h1, h2⟩ => ⟨h1, by rw [h2]; exact Below.refl _ _⟩
theorem refCode_any (A : Option Addr) (n c : Nat) (key : List UInt8) (B : Option Addr) (m d : Nat) (bs : List UInt8) (w : World) (ha : BS w A n c key) (hb : BS w B m d bs) (hm : m ≤ 100000) (x : BitVec 64) (o : Bool) (h : Hid (ans n key bs = (x, o))) :
    Calls Try.prog 11 #[.slice A n c, .slice B m d] w fun e w' => e = .returned (.tuple #[.int .u64 (x.toNat : Int), .bool o]) ∧ Below w.heap.size w w' := by
  have h' := h.out
  unfold ans at h'
  by_cases hn : n = 16
  · subst hn
    rw [if_pos rfl] at h'
    injection h' with h1 h2
    subst h1 h2
    exact refCode_some A c key B m d bs w ha hb hm
  · rw [if_neg hn] at h'
    injection h' with h1 h2
    subst h1 h2
    exact (refCode_none A n c B m d hn w).mono fun e w' ⟨h1, h2⟩ => ⟨h1, by rw [h2]; exact Below.refl _ _⟩

set_option maxRecDepth 100000 in
theorem sipCodes_walk (A : Option Addr) (n c : Nat) (key : List UInt8) (B : Option Addr) (m d : Nat) (bs : List UInt8) (w : World) (ha : BS w A n c key) (hb : BS w B m d bs) :
    Calls Try.prog 4 #[.slice A n c, .slice B m d] w fun e w' => e = .returned (.bool true) ∧ Below w.heap.size w w' := by
  by_cases hm : m ≤ 3000
  · have hm' : ¬ 3000 < (m : Int) := by omega
    by_cases hn : n ≤ 300
    · have hn' : ¬ 300 < (n : Int) := by omega
      obtain ⟨⟨x, o⟩, h⟩ : ∃ p, ans n key bs = p := ⟨_, rfl⟩
      have H := keep h
      have HA := keep ha
      have HB := keep hb
      clear h ha hb hn
      go_enter Try.func4, Try.ntmps4
      go_wp2_with (first
        | (go_at_call 7; refine (awake_any _).mono ?_; rintro e w1 ⟨rfl, hb1⟩
           have K1 := keep (Code_any A n c key B m d bs w1 (HA.out.step hb1) (HB.out.step hb1) (by omega) x o H)
           replace hb1 := keep hb1)
        | (go_at_call 10; refine K1.out.mono ?_; rintro e w2 ⟨rfl, hb2⟩
           have hb3 := hb1.out.trans (hb2.mono hb1.out.size)
           have K2 := keep (refCode_any A n c key B m d bs w2 (HA.out.step hb3) (HB.out.step hb3) (by omega) x o H)
           replace hb3 := keep hb3
           clear K1 hb1 hb2)
        | (go_at_call 11; refine K2.out.mono ?_; rintro e w4 ⟨rfl, hb4⟩
           have hb5 := keep (hb3.out.trans (hb4.mono hb3.out.size))
           clear K2 hb3 hb4))
      go_ret
      exact ⟨rfl, hb5.out⟩
    · have hn' : 300 < (n : Int) := by omega
      clear hn ha hb
      go_enter Try.func4, Try.ntmps4
      go_wp2_with (go_at_call 7; refine (awake_any _).mono ?_; rintro e w1 ⟨rfl, hb1⟩; replace hb1 := keep hb1)
      go_ret
      exact ⟨rfl, hb1.out⟩
  · have hm' : 3000 < (m : Int) := by omega
    clear hm ha hb
    go_enter Try.func4, Try.ntmps4
    go_wp2_with (go_at_call 7; refine (awake_any _).mono ?_; rintro e w1 ⟨rfl, hb1⟩; replace hb1 := keep hb1)
    go_ret
    exact ⟨rfl, hb1.out⟩
end Go.Proofs.Ytacjbfmmjcfomaa
