/- Package sip and its reference: octets as a number. -/
import Derived.Test.YtjfkiiohmjdceaaSip3
namespace Go.Proofs.Ytjfkiiohmjdceaa
open Go.RowKit
set_option linter.unusedVariables false

/-- Octets as a number, the first one the lowest. -/
def num : List UInt8 → Nat
  | [] => 0
  | x :: xs => x.toNat + 256 * num xs
theorem num_lt : ∀ bs : List UInt8, num bs < 256 ^ bs.length
  | [] => by decide
  | x :: xs => by
    have h := num_lt xs
    have hx := x.toNat_lt
    have : 256 ^ (x :: xs).length = 256 * 256 ^ xs.length := by rw [List.length_cons, Nat.pow_succ, Nat.mul_comm]
    unfold num
    omega
theorem num_append : ∀ xs ys : List UInt8, num (xs ++ ys) = num xs + 256 ^ xs.length * num ys
  | [], ys => by simp [num]
  | x :: xs, ys => by
    have h := num_append xs ys
    have : 256 ^ (x :: xs).length = 256 * 256 ^ xs.length := by rw [List.length_cons, Nat.pow_succ, Nat.mul_comm]
    rw [List.cons_append, this, Nat.mul_assoc]
    simp only [num]
    rw [h]
    omega
theorem num_snoc (bs : List UInt8) (j : Nat) (hj : j < bs.length) : num (bs.take (j + 1)) = num (bs.take j) + 256 ^ j * bs[j].toNat := by
  rw [List.take_succ_eq_append_getElem hj, num_append, List.length_take, Nat.min_eq_left (by omega)]
  simp [num]
theorem num_lt64 (bs : List UInt8) (h : bs.length ≤ 8) : num bs < 18446744073709551616 := by
  have h1 := num_lt bs
  have h2 : 256 ^ bs.length ≤ 256 ^ 8 := Nat.pow_le_pow_right (by omega) h
  omega
theorem num_cut (bs : List UInt8) (j : Nat) (hj : j < bs.length) : num (bs.drop j) = bs[j].toNat + 256 * num (bs.drop (j + 1)) := by
  rw [List.drop_eq_getElem_cons hj]
  rfl

theorem or_hi (u x j : Nat) (hu : u < 256 ^ j) (hx : x < 256) (hj : j < 8) : bits .or .u64 (u : Int) (IntKind.u64.wrap ((x : Int) * 2 ^ (8 * j))) = ((u + 256 ^ j * x : Nat) : Int) := by
  have e : 256 ^ j = 2 ^ (8 * j) := by rw [Nat.pow_mul]
  have hp : 2 ^ (8 * j) ≤ 2 ^ 56 := Nat.pow_le_pow_right (by omega) (by omega)
  rw [e] at hu
  have hm : x * 2 ^ (8 * j) < 18446744073709551616 := by
    have h1 : x * 2 ^ (8 * j) ≤ 255 * 2 ^ (8 * j) := Nat.mul_le_mul_right _ (by omega)
    omega
  have h2 : IntKind.u64.wrap ((x : Int) * 2 ^ (8 * j)) = ((x * 2 ^ (8 * j) : Nat) : Int) := by
    have h3 : (x : Int) * 2 ^ (8 * j) = ((x * 2 ^ (8 * j) : Nat) : Int) := by push_cast; rfl
    rw [h3, IntKind.wrap_u64]
    omega
  have h4 := Nat.shiftLeft_add_eq_or_of_lt hu x
  rw [Nat.shiftLeft_eq] at h4
  rw [h2, bits_or_u64_nat _ _ (by omega) hm, Nat.or_comm, ← h4, e, Nat.add_comm, Nat.mul_comm]

set_option maxRecDepth 100000 in
theorem number_any (A : Option Addr) (n c : Nat) (bs : List UInt8) (w : World) (hb : BS w A n c bs) (hn : n ≤ 8) :
    Calls Try.prog 35 #[.slice A n c] w fun e w' => e = .returned (.int .u64 (num bs : Nat)) ∧ w = w' := by
  have hml := hb.len
  subst hml
  have HB := keep hb
  clear hb
  go_enter Try.func35, Try.ntmps35
  go_wp2_with fail
  go_loop [3, 4, 5, 8] (fun s _ _ i => ∃ j : Nat, j ≤ bs.length ∧ i = .int .i64 j ∧ s = .int .u64 (num (bs.take j) : Nat)) (fun _ _ _ i => bs.length - (intOf i).toNat)
  case atStart => exact ⟨0, Nat.zero_le _, rfl, rfl⟩
  case round =>
    obtain ⟨j, hj, rfl, rfl⟩ := hrel
    by_cases hlt : j < bs.length
    · obtain ⟨u, hu⟩ : ∃ u, num (bs.take j) = u := ⟨_, rfl⟩
      obtain ⟨b2, o2, rfl, _, hc2⟩ := HB.out.br.at_ hlt
      obtain ⟨x, hx⟩ : ∃ x, bs[j].toNat = x := ⟨_, rfl⟩
      have hx1 : x < 256 := hx ▸ bs[j].toNat_lt
      rw [hx] at hc2
      rw [hu]
      have hs : Hid (num (bs.take (j + 1)) = u + 256 ^ j * x) := by show _ = _; rw [num_snoc bs j hlt, hu, hx]
      have hu1 : u < 256 ^ j := by
        have := num_lt (bs.take j)
        rw [hu, List.length_take, Nat.min_eq_left hj] at this
        exact this
      have hO := or_hi u x j hu1 hx1 (by omega)
      obtain ⟨t, ht⟩ : ∃ t, u + 256 ^ j * x = t := ⟨_, rfl⟩
      rw [ht] at hs hO
      clear hu1 hu hx ht
      go_wp2_with fail
      go_round
      case rel => exact ⟨j + 1, by omega, by go_num, by rw [hs.out]⟩
      case measure => simp [intOf]; omega
    · obtain rfl : j = bs.length := by omega
      have hE : bs.take bs.length = bs := List.take_length
      rw [hE]
      go_wp2_with fail
      go_ret
      exact ⟨rfl, rfl⟩
set_option maxRecDepth 100000 in
theorem refNumber_any (A : Option Addr) (n c : Nat) (bs : List UInt8) (w : World) (hb : BS w A n c bs) (hn : n ≤ 8) :
    Calls Try.prog 40 #[.slice A n c] w fun e w' => e = .returned (.int .u64 (num bs : Nat)) ∧ w = w' := by
  have hml := hb.len
  subst hml
  have HB := keep hb
  clear hb
  go_enter Try.func40, Try.ntmps40
  go_wp2_with fail
  go_loop [3, 4] (fun s i => ∃ j : Nat, j ≤ bs.length ∧ i = .int .i64 ((j : Int) - 1) ∧ s = .int .u64 (num (bs.drop j) : Nat)) (fun _ i => (intOf i + 1).toNat)
  case atStart => exact ⟨bs.length, Nat.le_refl _, rfl, by rw [List.drop_eq_nil_of_le (Nat.le_refl _)]; rfl⟩
  case round =>
    obtain ⟨j, hj, rfl, rfl⟩ := hrel
    rcases j with _ | j
    · have hE : bs.drop 0 = bs := rfl
      rw [hE]
      go_wp2_with fail
      go_ret
      exact ⟨rfl, rfl⟩
    · obtain ⟨u, hu⟩ : ∃ u, num (bs.drop (j + 1)) = u := ⟨_, rfl⟩
      have hlt : j < bs.length := hj
      obtain ⟨b2, o2, rfl, _, hc2⟩ := HB.out.br.at_ hlt
      obtain ⟨x, hx⟩ : ∃ x, bs[j].toNat = x := ⟨_, rfl⟩
      have hx1 : x < 256 := hx ▸ bs[j].toNat_lt
      rw [hx] at hc2
      rw [hu]
      have hs : Hid (num (bs.drop j) = x + 256 * u) := by show _ = _; rw [num_cut bs j hlt, hu, hx]
      have hu1 : u < 72057594037927936 := by
        have h1 := num_lt (bs.drop (j + 1))
        have h2 : 256 ^ (bs.drop (j + 1)).length ≤ 256 ^ 7 := Nat.pow_le_pow_right (by omega) (by rw [List.length_drop]; omega)
        omega
      have hj1 : ((j + 1 : Nat) : Int) - 1 = (j : Int) := by omega
      rw [hj1]
      have h1 : IntKind.u64.wrap ((u : Int) * 256) = (u : Int) * 256 := by rw [IntKind.wrap_u64]; omega
      have h2 : IntKind.u64.wrap ((u : Int) * 256 + (x : Int)) = ((x + 256 * u : Nat) : Int) := by rw [IntKind.wrap_u64]; omega
      have h3 : (j : Int) < (bs.length : Int) := by omega
      obtain ⟨t, ht⟩ : ∃ t, x + 256 * u = t := ⟨_, rfl⟩
      rw [ht] at hs h2
      clear hu hx hj1 hu1 ht
      go_wp2_with fail
      go_round
      case rel => exact ⟨j, by omega, by go_num, by rw [hs.out]⟩
      case measure => simp [intOf]
end Go.Proofs.Ytjfkiiohmjdceaa
