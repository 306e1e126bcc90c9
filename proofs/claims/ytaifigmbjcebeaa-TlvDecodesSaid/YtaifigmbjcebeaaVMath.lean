/- Parameters as octets, over plain lists: how they are written, how they are read, and that each is the other's reverse. -/
import Derived.Test.YtaifigmbjcebeaaRf1
namespace Go.Proofs.Ytaifigmbjcebeaa
open Go.RowKit
set_option linter.unusedVariables false

abbrev Pm := Int × List UInt8
/-- A parameter that may be written: its kind has 16 bits, and its value is not long. -/
def PmOk (p : Pm) : Prop := 0 ≤ p.1 ∧ p.1 < 65536 ∧ p.2.length ≤ 1200
/-- A parameter's octets. -/
def enc1 (p : Pm) : List UInt8 := padB ([b8 (p.1 / 256), b8 p.1] ++ [b8 (((4 + p.2.length : Nat) : Int) / 256), b8 ((4 + p.2.length : Nat) : Int)] ++ p.2)
def encL : List Pm → List UInt8
  | [] => []
  | p :: r => enc1 p ++ encL r
theorem encL_append : ∀ l m : List Pm, encL (l ++ m) = encL l ++ encL m
  | [], _ => rfl
  | p :: r, m => by simp [encL, encL_append r m]
/-- Too many, or one too long. -/
def tooL (l : List Pm) : Bool := decide (32 < l.length) || l.any fun p => decide (1200 < p.2.length)
theorem tooL_false {l : List Pm} : tooL l = false ↔ l.length ≤ 32 ∧ ∀ p ∈ l, p.2.length ≤ 1200 := by
  simp [tooL]
theorem tooL_true {l : List Pm} : tooL l = true ↔ 32 < l.length ∨ ∃ p ∈ l, 1200 < p.2.length := by
  simp [tooL]

/-- What is read of one parameter: it and what is left, or an error. -/
def oneL (bs : List UInt8) : Except Nat (Pm × List UInt8) :=
  if bs.length < 4 then .error 2
  else if numB ((bs.drop 2).take 2) < 4 then .error 3
  else if 1204 < numB ((bs.drop 2).take 2) then .error 10
  else if bs.length < numB ((bs.drop 2).take 2) then .error 2
  else if bs.length < numB ((bs.drop 2).take 2) + (4 - numB ((bs.drop 2).take 2) % 4) % 4 then .error 2
  else if (bs.drop (numB ((bs.drop 2).take 2))).take ((4 - numB ((bs.drop 2).take 2) % 4) % 4) = List.replicate ((4 - numB ((bs.drop 2).take 2) % 4) % 4) 0 then
    .ok (((numB (bs.take 2) : Int), (bs.drop 4).take (numB ((bs.drop 2).take 2) - 4)), bs.drop (numB ((bs.drop 2).take 2) + (4 - numB ((bs.drop 2).take 2) % 4) % 4))
  else .error 3

def consE (p : Pm) : Except Nat (List Pm) → Except Nat (List Pm)
  | .ok l => .ok (p :: l)
  | .error e => .error e
/-- What is read of octets, where k more parameters may come. -/
def decL : Nat → List UInt8 → Except Nat (List Pm)
  | 0, bs => if bs = [] then .ok [] else .error 10
  | k + 1, bs => if bs = [] then .ok [] else
    match oneL bs with
    | .error e => .error e
    | .ok (p, r) => consE p (decL k r)

theorem decL_nil : ∀ k, decL k [] = .ok []
  | 0 => rfl
  | k + 1 => rfl

theorem decL_err {k x : Nat} {bs : List UInt8} (hne : bs ≠ []) (h : oneL bs = .error x) : decL (k + 1) bs = .error x := by
  rw [decL, if_neg hne, h]
theorem decL_cons {k : Nat} {bs r : List UInt8} {p : Pm} (hne : bs ≠ []) (h : oneL bs = .ok (p, r)) : decL (k + 1) bs = consE p (decL k r) := by
  rw [decL, if_neg hne, h]
theorem numB_two (x y : UInt8) : numB [x, y] = x.toNat * 256 + y.toNat := by simp [numB]
theorem numB_b8 (n : Nat) (h : n < 65536) : numB [b8 ((n : Int) / 256), b8 (n : Int)] = n := by
  rw [numB_two]
  have h1 := b8_toNat ((n : Int) / 256)
  have h2 := b8_toNat (n : Int)
  omega
theorem b8_num (x y : UInt8) : [b8 ((numB [x, y] : Int) / 256), b8 (numB [x, y] : Int)] = [x, y] := by
  rw [numB_two]
  have h1 := x.toNat_lt
  have h2 := y.toNat_lt
  have e1 : b8 (((x.toNat * 256 + y.toNat : Nat) : Int) / 256) = x := by
    rw [← UInt8.toNat_inj]
    have := b8_toNat (((x.toNat * 256 + y.toNat : Nat) : Int) / 256)
    omega
  have e2 : b8 ((x.toNat * 256 + y.toNat : Nat) : Int) = y := by
    rw [← UInt8.toNat_inj]
    have := b8_toNat ((x.toNat * 256 + y.toNat : Nat) : Int)
    omega
  rw [e1, e2]

theorem padB_len (bs : List UInt8) : (padB bs).length = bs.length + (4 - bs.length % 4) % 4 := by simp [padB]
theorem enc1_len (p : Pm) : (enc1 p).length = (4 + p.2.length) + (4 - (4 + p.2.length) % 4) % 4 := by
  unfold enc1
  rw [padB_len]
  simp
  omega
theorem encL_mod : ∀ l, (encL l).length % 4 = 0
  | [] => rfl
  | p :: r => by
    have := encL_mod r
    have := enc1_len p
    simp only [encL, List.length_append]
    omega

theorem oneL_enc (p : Pm) (hp : PmOk p) (r : List UInt8) : oneL (enc1 p ++ r) = .ok (p, r) := by
  obtain ⟨k, v⟩ := p
  obtain ⟨h0, h1, h2⟩ := hp
  simp only at h0 h1 h2
  obtain ⟨kn, rfl⟩ := Int.eq_ofNat_of_zero_le h0
  have hN : numB [b8 ((4 + v.length : Nat) / 256 : Int), b8 ((4 + v.length : Nat) : Int)] = 4 + v.length := numB_b8 _ (by omega)
  have hK : numB [b8 ((kn : Int) / 256), b8 (kn : Int)] = kn := numB_b8 _ (by omega)
  have e : enc1 ((kn : Int), v) ++ r = b8 ((kn : Int) / 256) :: b8 (kn : Int) :: b8 (((4 + v.length : Nat) : Int) / 256) :: b8 ((4 + v.length : Nat) : Int) :: (v ++ (List.replicate ((4 - (4 + v.length) % 4) % 4) 0 ++ r)) := by
    simp [enc1, padB, Nat.add_comm]
    omega
  rw [e]
  unfold oneL
  simp only [List.drop_succ_cons, List.drop_zero, List.take_succ_cons, List.take_zero, hN, hK, List.length_cons, List.length_append, List.length_replicate]
  rw [if_neg (by omega), if_neg (by omega), if_neg (by omega), if_neg (by omega), if_neg (by omega)]
  have e1 : List.drop (4 + v.length) (b8 ((kn : Int) / 256) :: b8 (kn : Int) :: b8 (((4 + v.length : Nat) : Int) / 256) :: b8 ((4 + v.length : Nat) : Int) :: (v ++ (List.replicate ((4 - (4 + v.length) % 4) % 4) 0 ++ r))) = List.replicate ((4 - (4 + v.length) % 4) % 4) 0 ++ r := by
    rw [Nat.add_comm]
    simp [List.drop_succ_cons]
  rw [e1, if_pos (by rw [List.take_append_of_le_length (by simp)]; simp), Nat.add_sub_cancel_left]
  have e2 : List.drop (4 + v.length + (4 - (4 + v.length) % 4) % 4) (b8 ((kn : Int) / 256) :: b8 (kn : Int) :: b8 (((4 + v.length : Nat) : Int) / 256) :: b8 ((4 + v.length : Nat) : Int) :: (v ++ (List.replicate ((4 - (4 + v.length) % 4) % 4) 0 ++ r))) = r := by
    rw [← List.drop_drop, e1]
    simp
  rw [e2]
  simp

theorem oneL_ok {bs r : List UInt8} {p : Pm} (h : oneL bs = .ok (p, r)) : bs = enc1 p ++ r ∧ PmOk p := by
  unfold oneL at h
  generalize hn : numB ((bs.drop 2).take 2) = n at h
  split at h
  · cases h
  split at h
  · cases h
  split at h
  · cases h
  split at h
  · cases h
  split at h
  · cases h
  split at h
  · rename_i h1 h2 h3 h4 h5 hz
    injection h with h
    injection h with hp hr
    obtain ⟨a, b, c, d, t, rfl⟩ : ∃ a b c d t, bs = a :: b :: c :: d :: t := by
      rcases bs with _ | ⟨a, _ | ⟨b, _ | ⟨c, _ | ⟨d, t⟩⟩⟩⟩
      · simp at h1
      · simp at h1
      · simp at h1
      · simp at h1
      · exact ⟨a, b, c, d, t, rfl⟩
    simp only [List.drop_succ_cons, List.drop_zero, List.take_succ_cons, List.take_zero] at hn hp
    subst hp
    have hk := numB_two a b
    have ha := a.toNat_lt
    have hb := b.toNat_lt
    simp only [List.length_cons] at h4 h5
    obtain ⟨m, rfl⟩ : ∃ m, n = 4 + m := ⟨n - 4, by omega⟩
    have hdm : List.drop (4 + m) (a :: b :: c :: d :: t) = t.drop m := by rw [Nat.add_comm]; simp [List.drop_succ_cons]
    rw [Nat.add_sub_cancel_left] at *
    rw [hdm] at hz
    rw [← List.drop_drop, hdm] at hr
    have hlen : (t.take m).length = m := by rw [List.length_take]; omega
    refine ⟨?_, by simp only; omega, by simp only; omega, by simp only; omega⟩
    unfold enc1
    simp only [hlen]
    have e3 := b8_num c d
    rw [hn] at e3
    rw [b8_num a b, e3]
    unfold padB
    simp only [List.length_append, List.length_cons, List.length_nil, hlen]
    rw [show 0 + 1 + 1 + (0 + 1 + 1) + m = 4 + m by omega, ← hz, ← hr]
    simp only [List.cons_append, List.nil_append, List.append_assoc, List.take_append_drop]
  · cases h

theorem decL_enc : ∀ (l : List Pm) (k : Nat), (∀ p ∈ l, PmOk p) → l.length ≤ k → decL k (encL l) = .ok l
  | [], k, _, _ => by rw [encL, decL_nil]
  | p :: r, 0, _, hk => by simp at hk
  | p :: r, k + 1, h, hk => by
    have hne : encL (p :: r) ≠ [] := by
      intro h0
      have h1 := congrArg List.length h0
      have := enc1_len p
      simp only [encL, List.length_append, List.length_nil] at h1
      omega
    unfold decL
    rw [if_neg hne, encL, oneL_enc p (h p (by simp))]
    simp only
    rw [decL_enc r k (fun q hq => h q (by simp [hq])) (by simpa using hk)]
    rfl
theorem decL_ok : ∀ (k : Nat) (bs : List UInt8) (l : List Pm), decL k bs = .ok l → bs = encL l ∧ l.length ≤ k ∧ ∀ p ∈ l, PmOk p
  | 0, bs, l, h => by
    unfold decL at h
    split at h
    · injection h with h
      subst h
      simp [encL]
      assumption
    · cases h
  | k + 1, bs, l, h => by
    unfold decL at h
    split at h
    · injection h with h
      subst h
      simp [encL]
      assumption
    · split at h
      · cases h
      · rename_i p r ho
        obtain ⟨hb, hp⟩ := oneL_ok ho
        cases hd : decL k r with
        | error e => rw [hd] at h; cases h
        | ok m =>
          rw [hd] at h
          injection h with h
          subst h
          obtain ⟨h1, h2, h3⟩ := decL_ok k r m hd
          refine ⟨by rw [hb, h1, encL], by simpa using h2, ?_⟩
          intro q hq
          rcases List.mem_cons.1 hq with rfl | hq
          · exact hp
          · exact h3 q hq
/-- Cut off within one they are none. -/
theorem decL_cut : ∀ (l : List Pm) (k : Nat) (t : List UInt8), (∀ p ∈ l, PmOk p) → l.length < k → 0 < t.length → t.length < 4 → decL k (encL l ++ t) = .error 2
  | [], 0, t, _, hk, _, _ => by simp at hk
  | [], k + 1, t, _, _, h0, h4 => by
    rw [encL, List.nil_append]
    unfold decL
    rw [if_neg (by intro h; rw [h] at h0; simp at h0)]
    unfold oneL
    rw [if_pos h4]
  | p :: r, 0, t, _, hk, _, _ => by simp at hk
  | p :: r, k + 1, t, h, hk, h0, h4 => by
    have hne : encL (p :: r) ++ t ≠ [] := by
      intro h1
      have := congrArg List.length h1
      simp at this
      simp [this.2] at h0
    unfold decL
    rw [if_neg hne, encL, List.append_assoc, oneL_enc p (h p (by simp))]
    simp only
    rw [decL_cut r k t (fun q hq => h q (by simp [hq])) (by simpa using hk) h0 h4]
    rfl
end Go.Proofs.Ytaifigmbjcebeaa
