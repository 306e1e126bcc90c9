/- The walks of the laws TlvActions, TlvBack, TlvOnly. -/
import Derived.Test.YtaifigmbjcebeaaVAwake
namespace Go.Proofs.Ytaifigmbjcebeaa
open Go.RowKit
set_option linter.unusedVariables false

theorem refAction_any (x b m : Nat) (hb : (b = 16 ∧ m = 256 ∧ x < 65536) ∨ (b = 8 ∧ m = 1 ∧ x < 256)) (w : World) :
    Calls Try.prog 21 #[.int .i64 (x : Int), .int .i64 (b : Int)] w fun e w' => e = .returned (.tuple #[.bool (stopA (x / m)), .bool (tellA (x / m))]) ∧ w = w' := by
  unfold stopA tellA
  rcases hb with ⟨rfl, rfl, hx⟩ | ⟨rfl, rfl, hx⟩
  · obtain ⟨t, ht, ht4⟩ : ∃ t : Nat, x / 16384 = t ∧ t < 4 := ⟨_, rfl, by omega⟩
    have h14 : (x : Int) / 16384 = (t : Int) := by omega
    have e : t = 0 ∨ t = 1 ∨ t = 2 ∨ t = 3 := by omega
    rcases e with rfl | rfl | rfl | rfl
    · rw [decide_eq_true (show x / 256 < 128 by omega), decide_eq_false (show ¬ 64 ≤ x / 256 % 128 by omega)]
      clear ht ht4
      go_enter Try.func21, Try.ntmps21
      go_wp2_with fail
      go_ret2
      exact ⟨rfl, rfl⟩
    · rw [decide_eq_true (show x / 256 < 128 by omega), decide_eq_true (show 64 ≤ x / 256 % 128 by omega)]
      clear ht ht4
      go_enter Try.func21, Try.ntmps21
      go_wp2_with fail
      go_ret2
      exact ⟨rfl, rfl⟩
    · rw [decide_eq_false (show ¬ x / 256 < 128 by omega), decide_eq_false (show ¬ 64 ≤ x / 256 % 128 by omega)]
      clear ht ht4
      go_enter Try.func21, Try.ntmps21
      go_wp2_with fail
      go_ret2
      exact ⟨rfl, rfl⟩
    · rw [decide_eq_false (show ¬ x / 256 < 128 by omega), decide_eq_true (show 64 ≤ x / 256 % 128 by omega)]
      clear ht ht4
      go_enter Try.func21, Try.ntmps21
      go_wp2_with fail
      go_ret2
      exact ⟨rfl, rfl⟩
  · obtain ⟨t, ht, ht4⟩ : ∃ t : Nat, x / 64 = t ∧ t < 4 := ⟨_, rfl, by omega⟩
    have h6 : (x : Int) / 64 = (t : Int) := by omega
    have e : t = 0 ∨ t = 1 ∨ t = 2 ∨ t = 3 := by omega
    rw [Nat.div_one]
    rcases e with rfl | rfl | rfl | rfl
    · rw [decide_eq_true (show x < 128 by omega), decide_eq_false (show ¬ 64 ≤ x % 128 by omega)]
      clear ht ht4
      go_enter Try.func21, Try.ntmps21
      go_wp2_with fail
      go_ret2
      exact ⟨rfl, rfl⟩
    · rw [decide_eq_true (show x < 128 by omega), decide_eq_true (show 64 ≤ x % 128 by omega)]
      clear ht ht4
      go_enter Try.func21, Try.ntmps21
      go_wp2_with fail
      go_ret2
      exact ⟨rfl, rfl⟩
    · rw [decide_eq_false (show ¬ x < 128 by omega), decide_eq_false (show ¬ 64 ≤ x % 128 by omega)]
      clear ht ht4
      go_enter Try.func21, Try.ntmps21
      go_wp2_with fail
      go_ret2
      exact ⟨rfl, rfl⟩
    · rw [decide_eq_false (show ¬ x < 128 by omega), decide_eq_true (show 64 ≤ x % 128 by omega)]
      clear ht ht4
      go_enter Try.func21, Try.ntmps21
      go_wp2_with fail
      go_ret2
      exact ⟨rfl, rfl⟩

theorem tlvActions_walk (k : Int) (w : World) (hk : (Lit.int .u16 k).wf = true) :
    Calls Try.prog 5 #[.int .u16 k] w fun e w' => e = .returned (.bool true) ∧ Below w.heap.size w w' := by
  obtain ⟨k0, k1⟩ := bounds_u16 hk
  obtain ⟨n, rfl⟩ := Int.eq_ofNat_of_zero_le k0
  clear hk k0
  have hn : n < 65536 := by omega
  clear k1
  obtain ⟨a, ha⟩ : ∃ a, a = stopA (n / 256) := ⟨_, rfl⟩
  obtain ⟨b, hb⟩ : ∃ b, b = tellA (n / 256) := ⟨_, rfl⟩
  obtain ⟨c, hc⟩ : ∃ c, c = stopA (n % 256) := ⟨_, rfl⟩
  obtain ⟨d, hd⟩ : ∃ d, d = tellA (n % 256) := ⟨_, rfl⟩
  have hm : (n : Int) % 256 = ((n % 256 : Nat) : Int) := by omega
  have K1 : ∀ W, Hid (Calls Try.prog 20 #[.int .u16 (n : Int)] W fun e w' => e = .returned (.tuple #[.bool a, .bool b]) ∧ W = w') := fun W => by rw [ha, hb]; exact action_any n hn W
  have K2 : ∀ W, Hid (Calls Try.prog 21 #[.int .i64 (n : Int), .int .i64 16] W fun e w' => e = .returned (.tuple #[.bool a, .bool b]) ∧ W = w') := fun W => by rw [ha, hb]; exact refAction_any n 16 256 (.inl ⟨rfl, rfl, hn⟩) W
  have K3 : ∀ W, Hid (Calls Try.prog 22 #[.int .u8 ((n : Int) % 256)] W fun e w' => e = .returned (.tuple #[.bool c, .bool d]) ∧ W = w') := fun W => by rw [hc, hd, hm]; exact chunkAction_any (n % 256) (by omega) W
  have K4 : ∀ W, Hid (Calls Try.prog 21 #[.int .i64 ((n : Int) % 256), .int .i64 8] W fun e w' => e = .returned (.tuple #[.bool c, .bool d]) ∧ W = w') := fun W => by
    rw [hc, hd, hm]
    have := refAction_any (n % 256) 8 1 (.inr ⟨rfl, rfl, by omega⟩) W
    rw [Nat.div_one] at this
    exact this
  clear ha hb hc hd hm
  go_enter Try.func5, Try.ntmps5
  go_wp2_with fail
  refine (awake_any w).mono ?_
  rintro e w1 ⟨rfl, hb1⟩
  have HB := keep hb1
  clear hb1
  go_wp2_with fail
  refine (K1 _).out.mono ?_
  rintro e w2 ⟨rfl, rfl⟩
  go_wp2_with fail
  refine (K2 _).out.mono ?_
  rintro e w2 ⟨rfl, rfl⟩
  go_wp2_with fail
  refine (K3 _).out.mono ?_
  rintro e w2 ⟨rfl, rfl⟩
  go_wp2_with fail
  refine (K4 _).out.mono ?_
  rintro e w2 ⟨rfl, rfl⟩
  clear K1 K2 K3 K4
  have e1 : (a == a) = true := by simp
  have e2 : (b == b) = true := by simp
  have e3 : (c == c) = true := by simp
  have e4 : (d == d) = true := by simp
  go_wp2_with fail
  go_ret
  exact ⟨rfl, HB.out⟩
theorem pmOk_of {w : World} {A : Option Addr} {n c : Nat} {l : List PX} (h : PS w A n c l) (ht : tooL (l.map pm) = false) : ∀ p ∈ l.map pm, PmOk p := by
  intro p hp
  have := (tooL_false.1 ht).2 p hp
  obtain ⟨x, hx, rfl⟩ := List.mem_map.1 hp
  exact ⟨(h.2.2.2 x hx).1, (h.2.2.2 x hx).2.1, this⟩
theorem encL_len : ∀ l : List Pm, (∀ p ∈ l, p.2.length ≤ 1200) → (encL l).length ≤ 1210 * l.length
  | [], _ => by simp [encL]
  | p :: r, h => by
    have h1 := encL_len r fun q hq => h q (by simp [hq])
    have h2 := enc1_len p
    have h3 := h p (by simp)
    simp only [encL, List.length_append, List.length_cons]
    omega

theorem tlvBack_walk (A : Option Addr) (n c : Nat) (l : List PX) (w : World) (h : PS w A n c l) :
    Calls Try.prog 6 #[.slice A n c] w fun e w' => e = .returned (.bool true) ∧ Below w.heap.size w w' := by
  have H := keep h
  clear h
  go_enter Try.func6, Try.ntmps6
  go_wp2_with fail
  refine (awake_any w).mono ?_
  rintro e w1 ⟨rfl, hb1⟩
  have KF := keep (few_any A n c l w1 (H.out.step hb1))
  have HB1 := keep hb1
  clear hb1
  go_wp2_with fail
  refine KF.out.mono ?_
  rintro e w2 ⟨rfl, rfl⟩
  clear KF
  cases hf : fewL l
  · clear hf
    go_wp2_with fail
    go_ret
    exact ⟨rfl, HB1.out⟩
  · clear hf
    have KE := keep (encode_any A n c l w1 (H.out.step HB1.out))
    go_wp2_with fail
    refine KE.out.mono ?_
    rintro e w2 ⟨hb2, ⟨ht, rfl⟩ | ⟨ht, A2, n2, c2, rfl, hs2⟩⟩
    · have HB2 := keep (up HB1.out hb2)
      clear KE hb2 ht
      go_wp2_with fail
      go_ret
      exact ⟨rfl, HB2.out⟩
    · have HB2 := keep (up HB1.out hb2)
      have hok := pmOk_of H.out ht
      have hlen := (tooL_false.1 ht).1
      have hn2 : n2 ≤ 100000 := by
        have h1 := encL_len (l.map pm) (tooL_false.1 ht).2
        have h2 := hs2.len
        omega
      have hn4 : (n2 : Int) % 4 = 0 := by
        have h1 := encL_mod (l.map pm)
        have h2 := hs2.len
        omega
      have hdec := decL_enc (l.map pm) 32 hok hlen
      have KD := keep (decode_any A2 n2 c2 _ w2 hs2 hn2)
      have HD := keep hdec
      have HL := keep hlen
      clear KE hb2 ht hok hlen hdec hs2
      go_wp2_with fail
      refine KD.out.mono ?_
      rintro e w3 ⟨hb3, ⟨x, _, hx, _⟩ | ⟨A3, n3, c3, k, hk, rfl, hs3⟩⟩
      · rw [HD.out] at hx
        cases hx
      · rw [HD.out] at hk
        injection hk with hk
        have HB3 := keep (up HB2.out hb3)
        have KS := same_ret6 w3 A3 A n3 n c3 c k l hs3 (H.out.step HB3.out) (by have h1 := hs3.len; have h2 := pm_len hk; have h3 := HL.out; rw [List.length_map] at h3; omega)
        rw [decide_eq_true hk.symm] at KS
        replace KS := keep KS
        clear KD hb3 hk hs3
        go_wp2_with (go_at_call 19; refine KS.out.mono ?_; rintro e w4 ⟨rfl, q, rfl⟩)
        go_ret
        exact ⟨rfl, below_drew' HB3.out q⟩

theorem tlvOnly_walk (B : Option Addr) (m d : Nat) (bs : List UInt8) (w : World) (h : BS w B m d bs) :
    Calls Try.prog 7 #[.slice B m d] w fun e w' => e = .returned (.bool true) ∧ Below w.heap.size w w' := by
  have H := keep h
  clear h
  go_enter Try.func7, Try.ntmps7
  go_wp2_with fail
  refine (awake_any w).mono ?_
  rintro e w1 ⟨rfl, hb1⟩
  have HB1 := keep hb1
  clear hb1
  by_cases hm : 3000 < m
  · have hm' : 3000 < (m : Int) := by omega
    clear hm
    go_wp2_with fail
    go_ret
    exact ⟨rfl, HB1.out⟩
  · have hm' : ¬ 3000 < (m : Int) := by omega
    have KD := keep (decode_any B m d bs w1 (H.out.step HB1.out) (by omega))
    clear hm
    go_wp2_with fail
    refine KD.out.mono ?_
    rintro e w2 ⟨hb2, ⟨x, hx0, hx, rfl⟩ | ⟨A2, n2, c2, k, hk, rfl, hs2⟩⟩
    · have HB2 := keep (up HB1.out hb2)
      have hx' : ((x : Int) != 0) = true := by simp; omega
      clear KD hb2 hx hx0
      go_wp2_with fail
      go_ret
      exact ⟨rfl, HB2.out⟩
    · have HB2 := keep (up HB1.out hb2)
      obtain ⟨he, hl, hok⟩ := decL_ok _ _ _ hk
      have ht : tooL (k.map pm) = false := tooL_false.2 ⟨hl, fun p hp => (hok p hp).2.2⟩
      have KE := keep (encode_any A2 n2 c2 k w2 hs2)
      have HE := keep he
      have HT := keep ht
      clear KD hb2 hk hs2 he hl hok ht
      go_wp2_with fail
      refine KE.out.mono ?_
      rintro e w3 ⟨hb3, ⟨ht, rfl⟩ | ⟨ht, A3, n3, c3, rfl, hs3⟩⟩
      · rw [HT.out] at ht
        cases ht
      · have HB3 := keep (up HB2.out hb3)
        have KS := keep (same_eq B A3 m n3 d c3 bs _ w3 (H.out.step HB3.out) hs3 HE.out)
        clear KE hb3 ht hs3
        go_wp2_with (go_at_call 14; refine KS.out.mono ?_; rintro e w4 ⟨rfl, rfl⟩)
        go_ret
        exact ⟨rfl, HB3.out⟩
end Go.Proofs.Ytaifigmbjcebeaa
