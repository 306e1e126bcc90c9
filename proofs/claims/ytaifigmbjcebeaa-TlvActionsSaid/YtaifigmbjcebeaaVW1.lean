/- The walks of the laws TlvActions, TlvBack, TlvOnly. -/
import Derived.Test.YtaifigmbjcebeaaVAwake
namespace Go.Proofs.Ytaifigmbjcebeaa
open Go.RowKit
set_option linter.unusedVariables false

theorem refAction_any (x b m : Nat) (hb : (b = 16 ∧ m = 256 ∧ x < 65536) ∨ (b = 8 ∧ m = 1 ∧ x < 256)) (w : World) :
    Calls Try.prog 21 #[.int .i64 (x : Int), .int .i64 (b : Int)] w fun e w' => e = .returned (.tuple #[.bool (stopA (x / m)), .bool (tellA (x / m))]) ∧ w = w' := by
  unfold stopA tellA
  rcases hb with ⟨rfl, rfl, hx⟩ | ⟨rfl, rfl, hx⟩
  · obtain ⟨t, ht, ht4⟩ : ∃ t : Nat, x / 16384 = t ∧ t < 4 := ⟨_, rfl, by omega⟩
    have h14 : (x : Int) / 16384 = (t : Int) := by omega
    have e : t = 0 ∨ t = 1 ∨ t = 2 ∨ t = 3 := by omega
    rcases e with rfl | rfl | rfl | rfl
    · rw [decide_eq_true (show x / 256 < 128 by omega), decide_eq_false (show ¬ 64 ≤ x / 256 % 128 by omega)]
      clear ht ht4
      go_enter Try.func21, Try.ntmps21
      go_wp2_with fail
      go_ret2
      exact ⟨rfl, rfl⟩
    · rw [decide_eq_true (show x / 256 < 128 by omega), decide_eq_true (show 64 ≤ x / 256 % 128 by omega)]
      clear ht ht4
      go_enter Try.func21, Try.ntmps21
      go_wp2_with fail
      go_ret2
      exact ⟨rfl, rfl⟩
    · rw [decide_eq_false (show ¬ x / 256 < 128 by omega), decide_eq_false (show ¬ 64 ≤ x / 256 % 128 by omega)]
      clear ht ht4
      go_enter Try.func21, Try.ntmps21
      go_wp2_with fail
      go_ret2
      exact ⟨rfl, rfl⟩
    · rw [decide_eq_false (show ¬ x / 256 < 128 by omega), decide_eq_true (show 64 ≤ x / 256 % 128 by omega)]
      clear ht ht4
      go_enter Try.func21, Try.ntmps21
      go_wp2_with fail
      go_ret2
      exact ⟨rfl, rfl⟩
  · obtain ⟨t, ht, ht4⟩ : ∃ t : Nat, x / 64 = t ∧ t < 4 := ⟨_, rfl, by omega⟩
    have h6 : (x : Int) / 64 = (t : Int) := by omega
    have e : t = 0 ∨ t = 1 ∨ t = 2 ∨ t = 3 := by omega
    rw [Nat.div_one]
    rcases e with rfl | rfl | rfl | rfl
    · rw [decide_eq_true (show x < 128 by omega), decide_eq_false (show ¬ 64 ≤ x % 128 by omega)]
      clear ht ht4
      go_enter Try.func21, Try.ntmps21
      go_wp2_with fail
      go_ret2
      exact ⟨rfl, rfl⟩
    · rw [decide_eq_true (show x < 128 by omega), decide_eq_true (show 64 ≤ x % 128 by omega)]
      clear ht ht4
      go_enter Try.func21, Try.ntmps21
      go_wp2_with fail
      go_ret2
      exact ⟨rfl, rfl⟩
    · rw [decide_eq_false (show ¬ x < 128 by omega), decide_eq_false (show ¬ 64 ≤ x % 128 by omega)]
      clear ht ht4
      go_enter Try.func21, Try.ntmps21
      go_wp2_with fail
      go_ret2
      exact ⟨rfl, rfl⟩
    · rw [decide_eq_false (show ¬ x < 128 by omega), decide_eq_true (show 64 ≤ x % 128 by omega)]
      clear ht ht4
      go_enter Try.func21, Try.ntmps21
      go_wp2_with fail
      go_ret2
      exact ⟨rfl, rfl⟩

theorem tlvActions_walk (k : Int) (w : World) (hk : (Lit.int .u16 k).wf = true) :
    Calls Try.prog 5 #[.int .u16 k] w fun e w' => e = .returned (.bool true) ∧ Below w.heap.size w w' := by
  obtain ⟨k0, k1⟩ := bounds_u16 hk
  obtain ⟨n, rfl⟩ := Int.eq_ofNat_of_zero_le k0
  clear hk k0
  have hn : n < 65536 := by omega
  clear k1
  obtain ⟨a, ha⟩ : ∃ a, a = stopA (n / 256) := ⟨_, rfl⟩
  obtain ⟨b, hb⟩ : ∃ b, b = tellA (n / 256) := ⟨_, rfl⟩
  obtain ⟨c, hc⟩ : ∃ c, c = stopA (n % 256) := ⟨_, rfl⟩
  obtain ⟨d, hd⟩ : ∃ d, d = tellA (n % 256) := ⟨_, rfl⟩
  have hm : (n : Int) % 256 = ((n % 256 : Nat) : Int) := by omega
  have K1 : ∀ W, Hid (Calls Try.prog 20 #[.int .u16 (n : Int)] W fun e w' => e = .returned (.tuple #[.bool a, .bool b]) ∧ W = w') := fun W => by rw [ha, hb]; exact action_any n hn W
  have K2 : ∀ W, Hid (Calls Try.prog 21 #[.int .i64 (n : Int), .int .i64 16] W fun e w' => e = .returned (.tuple #[.bool a, .bool b]) ∧ W = w') := fun W => by rw [ha, hb]; exact refAction_any n 16 256 (.inl ⟨rfl, rfl, hn⟩) W
  have K3 : ∀ W, Hid (Calls Try.prog 22 #[.int .u8 ((n : Int) % 256)] W fun e w' => e = .returned (.tuple #[.bool c, .bool d]) ∧ W = w') := fun W => by rw [hc, hd, hm]; exact chunkAction_any (n % 256) (by omega) W
  have K4 : ∀ W, Hid (Calls Try.prog 21 #[.int .i64 ((n : Int) % 256), .int .i64 8] W fun e w' => e = .returned (.tuple #[.bool c, .bool d]) ∧ W = w') := fun W => by
    rw [hc, hd, hm]
    have := refAction_any (n % 256) 8 1 (.inr ⟨rfl, rfl, by omega⟩) W
    rw [Nat.div_one] at this
    exact this
  clear ha hb hc hd hm
  go_enter Try.func5, Try.ntmps5
  go_wp2_with fail
  refine (awake_any w).mono ?_
  rintro e w1 ⟨rfl, hb1⟩
  have HB := keep hb1
  clear hb1
  go_wp2_with fail
  refine (K1 _).out.mono ?_
  rintro e w2 ⟨rfl, rfl⟩
  go_wp2_with fail
  refine (K2 _).out.mono ?_
  rintro e w2 ⟨rfl, rfl⟩
  go_wp2_with fail
  refine (K3 _).out.mono ?_
  rintro e w2 ⟨rfl, rfl⟩
  go_wp2_with fail
  refine (K4 _).out.mono ?_
  rintro e w2 ⟨rfl, rfl⟩
  clear K1 K2 K3 K4
  have e1 : (a == a) = true := by simp
  have e2 : (b == b) = true := by simp
  have e3 : (c == c) = true := by simp
  have e4 : (d == d) = true := by simp
  go_wp2_with fail
  go_ret
  exact ⟨rfl, HB.out⟩
end Go.Proofs.Ytaifigmbjcebeaa
