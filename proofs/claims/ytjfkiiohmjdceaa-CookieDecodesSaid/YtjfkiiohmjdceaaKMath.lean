/- A cookie's state as numbers and as octets, over plain lists: how it is written, how it is read, and that each is the other's reverse. -/
import Derived.Test.YtjfkiiohmjdceaaRf1
import Derived.Test.YtjfkiiohmjdceaaSip5
namespace Go.Proofs.Ytjfkiiohmjdceaa
open Go.RowKit
set_option linter.unusedVariables false

/-- A state's numbers. -/
structure CS where
  made : Int
  life : Int
  tag : Int
  peer : Int
  fst : Int
  pf : Int
  room : Int
  out : Int
  inn : Int
  t0 : Int
  t1 : Int
/-- Each is one of its kind. -/
structure CS.ok (s : CS) : Prop where
  made : -9223372036854775808 ≤ s.made ∧ s.made ≤ 9223372036854775807
  life : -9223372036854775808 ≤ s.life ∧ s.life ≤ 9223372036854775807
  tag : 0 ≤ s.tag ∧ s.tag < 4294967296
  peer : 0 ≤ s.peer ∧ s.peer < 4294967296
  fst : 0 ≤ s.fst ∧ s.fst < 4294967296
  pf : 0 ≤ s.pf ∧ s.pf < 4294967296
  room : 0 ≤ s.room ∧ s.room < 4294967296
  out : 0 ≤ s.out ∧ s.out < 65536
  inn : 0 ≤ s.inn ∧ s.inn < 65536
  t0 : 0 ≤ s.t0 ∧ s.t0 < 4294967296
  t1 : 0 ≤ s.t1 ∧ s.t1 < 4294967296
/-- The times are within their bounds. -/
def CS.may (s : CS) : Prop := (0 ≤ s.made ∧ s.made ≤ 281474976710656) ∧ 0 ≤ s.life ∧ s.life ≤ 281474976710656
instance (s : CS) : Decidable s.may := by unfold CS.may; infer_instance
def CS.zero : CS := ⟨0, 0, 0, 0, 0, 0, 0, 0, 0, 0, 0⟩
theorem CS.zero_ok : CS.zero.ok := ⟨by decide, by decide, by decide, by decide, by decide, by decide, by decide, by decide, by decide, by decide, by decide⟩
abbrev CS.cells (s : CS) : Array Value := #[.int .i64 s.made, .int .i64 s.life, .int .u32 s.tag, .int .u32 s.peer, .int .u32 s.fst, .int .u32 s.pf, .int .u32 s.room, .int .u16 s.out, .int .u16 s.inn, .int .u32 s.t0, .int .u32 s.t1]

/-- A number of 32 bits as four octets. -/
def oct4 (v : Int) : List UInt8 := [b8 (v / 16777216), b8 (v / 65536), b8 (v / 256), b8 v]
def flat (l : List Int) : List UInt8 := l.flatMap oct4
theorem flat_append (l m : List Int) : flat (l ++ m) = flat l ++ flat m := by simp [flat]
theorem flat_length : ∀ l, (flat l).length = 4 * l.length
  | [] => rfl
  | x :: r => by
    have := flat_length r
    simp only [flat, List.flatMap_cons, List.length_append, List.length_cons] at this ⊢
    rw [this]
    simp [oct4]
    omega
/-- A state's numbers of 32 bits, in the order in which they stand. -/
def nums (s : CS) : List Int := [s.made / 4294967296, s.made % 4294967296, s.life / 4294967296, s.life % 4294967296, s.tag, s.peer, s.fst, s.pf, s.room, s.t0, s.t1, s.out * 65536 + s.inn]
def hi (x : BitVec 64) : Int := (x.toNat : Int) / 4294967296
def lo (x : BitVec 64) : Int := (x.toNat : Int) % 4294967296
def bol : List UInt8 := [66, 79, 76, 49]
/-- Octets, their code, the mark. -/
def seal_ (key b : List UInt8) : List UInt8 := b ++ oct4 (hi (code key b)) ++ oct4 (lo (code key b)) ++ bol
def enc (key : List UInt8) (s : CS) : List UInt8 := seal_ key (flat (nums s))

/-- The number of the four octets from i on; of two. -/
def n4 (b : List UInt8) (i : Nat) : Int := (numB ((b.drop i).take 4) : Int)
def n2 (b : List UInt8) (i : Nat) : Int := (numB ((b.drop i).take 2) : Int)
def n8 (b : List UInt8) (i : Nat) : Int := n4 b i * 4294967296 + n4 b (i + 4)
def stateOf (b : List UInt8) : CS :=
  ⟨wrap64 (n8 b 0), wrap64 (n8 b 8), n4 b 16, n4 b 20, n4 b 24, n4 b 28, n4 b 32, n2 b 44, n2 b 46, n4 b 36, n4 b 40⟩
/-- What octets are under a key: a state and 0, or nothing and an error's number. -/
def dec (key b : List UInt8) : CS × Int :=
  if key.length ≠ 16 then (.zero, 1) else if b.length < 60 then (.zero, 2) else if 60 < b.length ∨ b.drop 56 ≠ bol then (.zero, 3)
  else if seal_ key (b.take 48) ≠ b then (.zero, 6) else if (stateOf (b.take 48)).may then (stateOf (b.take 48), 0) else (.zero, 3)

theorem numB_four (a b c d : UInt8) : numB [a, b, c, d] = ((a.toNat * 256 + b.toNat) * 256 + c.toNat) * 256 + d.toNat := by simp [numB]
theorem numB_two (a b : UInt8) : numB [a, b] = a.toNat * 256 + b.toNat := by simp [numB]
theorem numB_oct4 (v : Int) (h0 : 0 ≤ v) (h1 : v < 4294967296) : (numB (oct4 v) : Int) = v := by
  have e1 := b8_toNat (v / 16777216)
  have e2 := b8_toNat (v / 65536)
  have e3 := b8_toNat (v / 256)
  have e4 := b8_toNat v
  unfold oct4
  rw [numB_four]
  omega
theorem b8_eq (v : Int) (x : UInt8) (h : v % 256 = (x.toNat : Int)) : b8 v = x := by
  rw [← b8_mod, h, b8_back]
theorem oct4_numB (a b c d : UInt8) : oct4 (numB [a, b, c, d] : Int) = [a, b, c, d] := by
  have ha := a.toNat_lt
  have hb := b.toNat_lt
  have hc := c.toNat_lt
  have hd := d.toNat_lt
  unfold oct4
  rw [numB_four]
  rw [b8_eq _ a (by omega), b8_eq _ b (by omega), b8_eq _ c (by omega), b8_eq _ d (by omega)]
theorem oct4_n4 (b : List UInt8) (i : Nat) (h : i + 4 ≤ b.length) : oct4 (n4 b i) = (b.drop i).take 4 := by
  unfold n4
  have hl : ((b.drop i).take 4).length = 4 := by rw [List.length_take, List.length_drop]; omega
  generalize (b.drop i).take 4 = l at hl ⊢
  match l, hl with
  | [x, y, z, u], _ => exact oct4_numB x y z u
theorem n4_bound (b : List UInt8) (i : Nat) : 0 ≤ n4 b i ∧ n4 b i < 4294967296 := by
  unfold n4
  have h1 := numB_take_lt ((b.drop i).take 4) ((b.drop i).take 4).length (Nat.le_refl _)
  rw [List.take_length] at h1
  have h2 : ((b.drop i).take 4).length ≤ 4 := by rw [List.length_take]; omega
  have h3 : 256 ^ ((b.drop i).take 4).length ≤ 256 ^ 4 := Nat.pow_le_pow_right (by omega) h2
  omega
theorem n2_bound (b : List UInt8) (i : Nat) : 0 ≤ n2 b i ∧ n2 b i < 65536 := by
  unfold n2
  have h1 := numB_take_lt ((b.drop i).take 2) ((b.drop i).take 2).length (Nat.le_refl _)
  rw [List.take_length] at h1
  have h2 : ((b.drop i).take 2).length ≤ 2 := by rw [List.length_take]; omega
  have h3 : 256 ^ ((b.drop i).take 2).length ≤ 256 ^ 2 := Nat.pow_le_pow_right (by omega) h2
  omega
theorem n2_two (b : List UInt8) (i : Nat) (h : i + 4 ≤ b.length) : n2 b i * 65536 + n2 b (i + 2) = n4 b i := by
  unfold n4 n2
  have e1 : ((b.drop i).take 2) = ((b.drop i).take 4).take 2 := by rw [List.take_take]; rfl
  have e2 : ((b.drop (i + 2)).take 2) = ((b.drop i).take 4).drop 2 := by rw [List.drop_take, List.drop_drop]
  have hl : ((b.drop i).take 4).length = 4 := by rw [List.length_take, List.length_drop]; omega
  rw [e1, e2]
  generalize (b.drop i).take 4 = l at hl ⊢
  match l, hl with
  | [x, y, z, u], _ =>
    show (numB [x, y] : Int) * 65536 + (numB [z, u] : Int) = _
    rw [numB_two, numB_two, numB_four]
    omega
theorem wrap_small (x : Int) (h0 : 0 ≤ x) (h1 : x < 18446744073709551616) : (x < 9223372036854775808 → wrap64 x = x) ∧ (9223372036854775808 ≤ x → wrap64 x < 0) ∧ -9223372036854775808 ≤ wrap64 x ∧ wrap64 x ≤ 9223372036854775807 := by
  unfold wrap64
  omega
theorem stateOf_ok (b : List UInt8) : (stateOf b).ok := by
  have w0 := wrap_small (n8 b 0) (by have := n4_bound b 0; have := n4_bound b 4; unfold n8; simp only [Nat.zero_add]; omega) (by have := n4_bound b 0; have := n4_bound b 4; unfold n8; simp only [Nat.zero_add]; omega)
  have w1 := wrap_small (n8 b 8) (by have := n4_bound b 8; have := n4_bound b 12; unfold n8; simp only [Nat.reduceAdd]; omega) (by have := n4_bound b 8; have := n4_bound b 12; unfold n8; simp only [Nat.reduceAdd]; omega)
  exact ⟨w0.2.2, w1.2.2, n4_bound _ _, n4_bound _ _, n4_bound _ _, n4_bound _ _, n4_bound _ _, n2_bound _ _, n2_bound _ _, n4_bound _ _, n4_bound _ _⟩

/-- Eight numbers and four: as octets and back. -/
theorem flat_get (l r : List Int) (x : Int) (h0 : 0 ≤ x) (h1 : x < 4294967296) (k : Nat) (hk : k = 4 * l.length) : n4 (flat (l ++ x :: r)) k = x := by
  subst hk
  unfold n4
  rw [flat_append, List.drop_append_of_le_length (by rw [flat_length]; omega), ← flat_length, List.drop_length, List.nil_append]
  show ((numB ((oct4 x ++ flat r).take 4) : Nat) : Int) = x
  rw [List.take_append_of_le_length (by simp [oct4])]
  exact numB_oct4 x h0 h1
theorem nums_bound (s : CS) (h : s.ok) (hm : s.may) : ∀ x ∈ nums s, 0 ≤ x ∧ x < 4294967296 := by
  intro x hx
  have h1 := hm.1
  have h2 := hm.2
  have h3 := h.out
  have h4 := h.inn
  simp only [nums, List.mem_cons, List.not_mem_nil, or_false] at hx
  rcases hx with rfl | rfl | rfl | rfl | rfl | rfl | rfl | rfl | rfl | rfl | rfl | rfl
  · omega
  · omega
  · omega
  · omega
  · exact h.tag
  · exact h.peer
  · exact h.fst
  · exact h.pf
  · exact h.room
  · exact h.t0
  · exact h.t1
  · omega
theorem state_back (s : CS) (h : s.ok) (hm : s.may) : stateOf (flat (nums s)) = s := by
  have hb := nums_bound s h hm
  have h1 := hm.1
  have h2 := hm.2
  have h3 := h.out
  have h4 := h.inn
  have g : ∀ (l r : List Int) (x : Int) (k : Nat), nums s = l ++ x :: r → k = 4 * l.length → n4 (flat (nums s)) k = x := fun l r x k e hk => by
    have := hb x (by rw [e]; simp)
    rw [e]
    exact flat_get l r x this.1 this.2 k hk
  have e0 := g [] _ _ 0 rfl rfl
  have e1 := g [s.made / 4294967296] _ _ 4 rfl rfl
  have e2 := g [s.made / 4294967296, s.made % 4294967296] _ _ 8 rfl rfl
  have e3 := g [s.made / 4294967296, s.made % 4294967296, s.life / 4294967296] _ _ 12 rfl rfl
  have e4 := g [s.made / 4294967296, s.made % 4294967296, s.life / 4294967296, s.life % 4294967296] _ _ 16 rfl rfl
  have e5 := g [s.made / 4294967296, s.made % 4294967296, s.life / 4294967296, s.life % 4294967296, s.tag] _ _ 20 rfl rfl
  have e6 := g [s.made / 4294967296, s.made % 4294967296, s.life / 4294967296, s.life % 4294967296, s.tag, s.peer] _ _ 24 rfl rfl
  have e7 := g [s.made / 4294967296, s.made % 4294967296, s.life / 4294967296, s.life % 4294967296, s.tag, s.peer, s.fst] _ _ 28 rfl rfl
  have e8 := g [s.made / 4294967296, s.made % 4294967296, s.life / 4294967296, s.life % 4294967296, s.tag, s.peer, s.fst, s.pf] _ _ 32 rfl rfl
  have e9 := g [s.made / 4294967296, s.made % 4294967296, s.life / 4294967296, s.life % 4294967296, s.tag, s.peer, s.fst, s.pf, s.room] _ _ 36 rfl rfl
  have e10 := g [s.made / 4294967296, s.made % 4294967296, s.life / 4294967296, s.life % 4294967296, s.tag, s.peer, s.fst, s.pf, s.room, s.t0] _ _ 40 rfl rfl
  have e11 := g [s.made / 4294967296, s.made % 4294967296, s.life / 4294967296, s.life % 4294967296, s.tag, s.peer, s.fst, s.pf, s.room, s.t0, s.t1] _ _ 44 rfl rfl
  have e12 : n2 (flat (nums s)) 44 * 65536 + n2 (flat (nums s)) 46 = n4 (flat (nums s)) 44 := n2_two (flat (nums s)) 44 (by rw [flat_length]; simp [nums])
  have b1 := n2_bound (flat (nums s)) 44
  have b2 := n2_bound (flat (nums s)) 46
  have m8 : n8 (flat (nums s)) 0 = s.made := by unfold n8; rw [e0, e1]; omega
  have l8 : n8 (flat (nums s)) 8 = s.life := by unfold n8; rw [e2, e3]; omega
  have w0 := (wrap_small s.made (by omega) (by omega)).1 (by omega)
  have w1 := (wrap_small s.life (by omega) (by omega)).1 (by omega)
  have eo : n2 (flat (nums s)) 44 = s.out := by omega
  have ei : n2 (flat (nums s)) 46 = s.inn := by omega
  unfold stateOf
  rw [m8, l8, w0, w1, e4, e5, e6, e7, e8, e9, e10, eo, ei]
theorem cut4 (b : List UInt8) (i : Nat) (h : i + 4 ≤ b.length) : b.drop i = oct4 (n4 b i) ++ b.drop (i + 4) := by
  rw [oct4_n4 b i h, ← List.drop_drop, List.take_append_drop]
theorem may_n8 (b : List UInt8) (h : (stateOf b).may) : (stateOf b).made = n8 b 0 ∧ (stateOf b).life = n8 b 8 := by
  have c0 := n4_bound b 0
  have c1 := n4_bound b 4
  have c2 := n4_bound b 8
  have c3 := n4_bound b 12
  obtain ⟨⟨h1, h2⟩, h3, h4⟩ := h
  have e0 : n8 b 0 = n4 b 0 * 4294967296 + n4 b 4 := rfl
  have e1 : n8 b 8 = n4 b 8 * 4294967296 + n4 b 12 := rfl
  have w0 := wrap_small (n8 b 0) (by omega) (by omega)
  have w1 := wrap_small (n8 b 8) (by omega) (by omega)
  have d0 : (stateOf b).made = wrap64 (n8 b 0) := rfl
  have d1 : (stateOf b).life = wrap64 (n8 b 8) := rfl
  constructor
  · rcases Int.lt_or_le (n8 b 0) 9223372036854775808 with hh | hh
    · rw [d0, w0.1 hh]
    · have := w0.2.1 hh; omega
  · rcases Int.lt_or_le (n8 b 8) 9223372036854775808 with hh | hh
    · rw [d1, w1.1 hh]
    · have := w1.2.1 hh; omega
theorem cut64 (m x y : Int) (h : m = x * 4294967296 + y) (h0 : 0 ≤ y) (h1 : y < 4294967296) : m / 4294967296 = x ∧ m % 4294967296 = y := by omega
theorem octets_back (b : List UInt8) (hl : b.length = 48) (h : (stateOf b).may) : flat (nums (stateOf b)) = b := by
  obtain ⟨hm, hf⟩ := may_n8 b h
  have c0 := n4_bound b 0
  have c1 := n4_bound b 4
  have c2 := n4_bound b 8
  have c3 := n4_bound b 12
  have e0 : n8 b 0 = n4 b 0 * 4294967296 + n4 b 4 := rfl
  have e1 : n8 b 8 = n4 b 8 * 4294967296 + n4 b 12 := rfl
  have d : n2 b 44 * 65536 + n2 b 46 = n4 b 44 := n2_two b 44 (by omega)
  obtain ⟨q0, q1⟩ := cut64 _ _ _ (hm.trans e0) c1.1 c1.2
  obtain ⟨q2, q3⟩ := cut64 _ _ _ (hf.trans e1) c3.1 c3.2
  have so : (stateOf b).out = n2 b 44 := rfl
  have si : (stateOf b).inn = n2 b 46 := rfl
  have s4 : (stateOf b).tag = n4 b 16 := rfl
  have s5 : (stateOf b).peer = n4 b 20 := rfl
  have s6 : (stateOf b).fst = n4 b 24 := rfl
  have s7 : (stateOf b).pf = n4 b 28 := rfl
  have s8 : (stateOf b).room = n4 b 32 := rfl
  have s9 : (stateOf b).t0 = n4 b 36 := rfl
  have s10 : (stateOf b).t1 = n4 b 40 := rfl
  unfold nums
  rw [q0, q1, q2, q3]
  have hend : b.drop 48 = [] := List.drop_eq_nil_of_le (by omega)
  simp only [flat, List.flatMap_cons, List.flatMap_nil]
  rw [so, si, s4, s5, s6, s7, s8, s9, s10, d, ← hend, ← cut4 b 44 (by omega), ← cut4 b 40 (by omega), ← cut4 b 36 (by omega), ← cut4 b 32 (by omega), ← cut4 b 28 (by omega), ← cut4 b 24 (by omega), ← cut4 b 20 (by omega), ← cut4 b 16 (by omega), ← cut4 b 12 (by omega), ← cut4 b 8 (by omega), ← cut4 b 4 (by omega), ← cut4 b 0 (by omega)]
  rfl

theorem hi_bound (x : BitVec 64) : 0 ≤ hi x ∧ hi x < 4294967296 := by
  have := x.isLt
  unfold hi
  omega
theorem lo_bound (x : BitVec 64) : 0 ≤ lo x ∧ lo x < 4294967296 := by unfold lo; omega
theorem hi_lo (x : BitVec 64) : hi x * 4294967296 + lo x = (x.toNat : Int) := by unfold hi lo; omega
theorem seal_length (key b : List UInt8) : (seal_ key b).length = b.length + 12 := by simp [seal_, oct4, bol]
theorem seal_take (key b : List UInt8) (k : Nat) (hk : b.length = k) : (seal_ key b).take k = b := by
  subst hk
  unfold seal_
  rw [List.append_assoc, List.append_assoc, List.take_append_of_le_length (Nat.le_refl _), List.take_length]
theorem seal_drop (key b : List UInt8) (k : Nat) (hk : b.length + 8 = k) : (seal_ key b).drop k = bol := by
  subst hk
  unfold seal_
  rw [List.drop_append_of_le_length (by simp [oct4])]
  rw [List.drop_eq_nil_of_le (by simp [oct4]), List.nil_append]
/-- The code fits. -/
theorem fits_iff (key b : List UInt8) (hl : b.length = 60) (hb : b.drop 56 = bol) : ((code key (b.take 48)).toNat : Int) = n8 b 48 ↔ seal_ key (b.take 48) = b := by
  have c0 := n4_bound b 48
  have c1 := n4_bound b 52
  have e0 : n8 b 48 = n4 b 48 * 4294967296 + n4 b 52 := rfl
  have k0 := hi_bound (code key (b.take 48))
  have k1 := lo_bound (code key (b.take 48))
  have k2 := hi_lo (code key (b.take 48))
  have hcut : b.take 48 ++ oct4 (n4 b 48) ++ oct4 (n4 b 52) ++ bol = b := by
    rw [← hb, List.append_assoc, List.append_assoc, ← cut4 b 52 (by omega), ← cut4 b 48 (by omega), List.take_append_drop]
  constructor
  · intro h
    have h1 : hi (code key (b.take 48)) = n4 b 48 := by omega
    have h2 : lo (code key (b.take 48)) = n4 b 52 := by omega
    unfold seal_
    rw [h1, h2, hcut]
  · intro h
    have h3 : b.take 48 ++ (oct4 (hi (code key (b.take 48))) ++ (oct4 (lo (code key (b.take 48))) ++ bol)) = b.take 48 ++ (oct4 (n4 b 48) ++ (oct4 (n4 b 52) ++ bol)) := by
      unfold seal_ at h
      rw [← List.append_assoc, ← List.append_assoc, ← List.append_assoc, ← List.append_assoc, h, hcut]
    have h4 := List.append_cancel_left h3
    have h5 := congrArg (fun l => (numB (List.take 4 l) : Int)) h4
    have h6 := congrArg (fun l => (numB (List.take 4 (List.drop 4 l)) : Int)) h4
    have x1 := numB_oct4 (hi (code key (b.take 48))) k0.1 k0.2
    have x2 := numB_oct4 (lo (code key (b.take 48))) k1.1 k1.2
    have x3 := numB_oct4 (n4 b 48) c0.1 c0.2
    have x4 := numB_oct4 (n4 b 52) c1.1 c1.2
    have h7 : (numB (oct4 (hi (code key (b.take 48)))) : Int) = (numB (oct4 (n4 b 48)) : Int) := h5
    have h8 : (numB (oct4 (lo (code key (b.take 48)))) : Int) = (numB (oct4 (n4 b 52)) : Int) := h6
    omega

theorem nums_length (s : CS) : (flat (nums s)).length = 48 := by rw [flat_length]; rfl
theorem enc_length (key : List UInt8) (s : CS) : (enc key s).length = 60 := by unfold enc; rw [seal_length, nums_length]
theorem enc_take (key : List UInt8) (s : CS) : (enc key s).take 48 = flat (nums s) := seal_take _ _ _ (nums_length s)
theorem enc_drop (key : List UInt8) (s : CS) : (enc key s).drop 56 = bol := seal_drop _ _ _ (by rw [nums_length])
/-- There and back. -/
theorem dec_enc (key : List UInt8) (s : CS) (hk : key.length = 16) (h : s.ok) (hm : s.may) : dec key (enc key s) = (s, 0) := by
  unfold dec
  rw [if_neg (by simp [hk]), if_neg (by rw [enc_length]; omega), if_neg (by rw [enc_length, enc_drop]; simp), enc_take, if_neg (by simp [enc]), state_back s h hm, if_pos hm]
/-- One way alone. -/
theorem dec_ok (key b : List UInt8) (s : CS) (h : dec key b = (s, 0)) : key.length = 16 ∧ s.ok ∧ s.may ∧ b = enc key s := by
  unfold dec at h
  split at h
  · cases h
  split at h
  · cases h
  split at h
  · cases h
  split at h
  · cases h
  split at h
  · rename_i h1 h2 h3 h4 h5
    injection h with h6 _
    subst h6
    have hl : b.length = 60 := by
      rcases Nat.lt_or_ge 60 b.length with hh | hh
      · exact absurd (.inl hh) h3
      · omega
    refine ⟨by omega, stateOf_ok _, h5, ?_⟩
    unfold enc
    rw [octets_back _ (by rw [List.length_take]; omega) h5]
    simpa using (Decidable.not_not.1 h4).symm
  · cases h
end Go.Proofs.Ytjfkiiohmjdceaa
