/- Messages as chunks, and back: plain mathematics. -/
import Derived.WalkKit
namespace Go.Proofs.Ythpcblbciidmeaa
set_option linter.unusedVariables false

/-- A chunk's fields, as far as the chapter names them (b: what must be 0). -/
structure Ch where
  kd : Int
  fl : Int
  a : Int
  b : Int
  ou : Int
  si : Int
  pp : Int
  da : List UInt8
/-- A message. -/
structure Msg where
  st : Int
  un : Bool
  pp : Int
  da : List UInt8

/-- The next one of the same message. -/
def fol (x y : Ch) : Bool := decide (x.kd = 0 ∧ y.kd = 0 ∧ y.a = (x.a + 1) % 4294967296 ∧ x.ou = y.ou ∧ x.si = y.si ∧ x.pp = y.pp ∧ x.fl / 4 % 2 = y.fl / 4 % 2 ∧ x.fl % 2 = 0 ∧ y.fl / 2 % 2 = 0)
/-- Each one follows the one ahead. -/
def chain : List Ch → Bool
  | [] => true
  | [_] => true
  | x :: y :: r => fol x y && chain (y :: r)
def lastEnd (l : List Ch) : Bool := match l.getLast? with | some x => decide (x.fl % 2 = 1) | none => false
def whole (l : List Ch) : Bool := match l with
  | [] => false
  | x :: r => decide (x.kd = 0) && decide (x.fl / 2 % 2 = 1) && lastEnd (x :: r) && chain (x :: r)
def msgOf (l : List Ch) : Msg := match l with
  | [] => ⟨0, false, 0, []⟩
  | x :: r => ⟨x.ou, decide (x.fl / 4 % 2 = 1), x.pp, (x :: r).flatMap Ch.da⟩

theorem chain_get : ∀ (l : List Ch) (i : Nat) (x y : Ch), chain l = true → l[i]? = some x → l[i + 1]? = some y → fol x y = true
  | [], i, x, y, _, h, _ => by simp at h
  | [z], i, x, y, _, _, h => by simp at h
  | z :: u :: r, 0, x, y, hc, hx, hy => by
    simp at hx hy
    subst hx
    subst hy
    unfold chain at hc
    exact (Bool.and_eq_true_iff.1 hc).1
  | z :: u :: r, i + 1, x, y, hc, hx, hy => by
    unfold chain at hc
    exact chain_get (u :: r) i x y (Bool.and_eq_true_iff.1 hc).2 (by simpa using hx) (by simpa using hy)
theorem chain_of : ∀ (l : List Ch), (∀ i x y, l[i]? = some x → l[i + 1]? = some y → fol x y = true) → chain l = true
  | [], _ => rfl
  | [_], _ => rfl
  | z :: u :: r, h => by
    unfold chain
    rw [h 0 z u rfl rfl, chain_of (u :: r) fun i x y hx hy => h (i + 1) x y (by simpa using hx) (by simpa using hy)]
    rfl
/-- A break anywhere. -/
theorem whole_break {l : List Ch} {i : Nat} {x y : Ch} (hx : l[i]? = some x) (hy : l[i + 1]? = some y) (h : fol x y = false) : whole l = false := by
  unfold whole
  cases l with
  | nil => rfl
  | cons z r =>
    dsimp only
    have hc : chain (z :: r) = false := by
      cases hc : chain (z :: r) with
      | false => rfl
      | true => rw [chain_get _ i x y hc hx hy] at h; cases h
    rw [hc, Bool.and_false]
theorem whole_nobegin {x : Ch} {r : List Ch} (h : x.fl / 2 % 2 ≠ 1) : whole (x :: r) = false := by
  unfold whole
  simp [h]
theorem whole_noend {l : List Ch} {x : Ch} (hl : l.getLast? = some x) (h : x.fl % 2 ≠ 1) : whole l = false := by
  unfold whole
  cases l with
  | nil => rfl
  | cons z r =>
    dsimp only
    have : lastEnd (z :: r) = false := by unfold lastEnd; rw [hl]; simp [h]
    rw [this]
    simp

/-! ### The pieces -/
def cnt (k n : Nat) : Nat := (n + k - 1) / k
def piece (k : Nat) (bs : List UInt8) (i : Nat) : List UInt8 := (bs.drop (i * k)).take k
theorem cnt_pos {k n : Nat} (hk : 0 < k) (hn : 0 < n) : 0 < cnt k n := by
  unfold cnt
  exact Nat.div_pos (by omega) hk
theorem cnt_le {k n i : Nat} (hk : 0 < k) : i < cnt k n ↔ i * k < n := by
  unfold cnt
  rw [Nat.lt_iff_add_one_le, Nat.le_div_iff_mul_le hk, Nat.add_mul]
  omega
theorem cnt_le_n {k n : Nat} (hk : 0 < k) : cnt k n ≤ n := by
  rcases Nat.lt_or_ge n (cnt k n) with h | h
  · have := (cnt_le (n := n) hk).1 h
    have h2 : n * 1 ≤ n * k := Nat.mul_le_mul_left n hk
    omega
  · exact h
theorem flat_pieces (k : Nat) (hk : 0 < k) (bs : List UInt8) : ∀ j, ((List.range j).map (piece k bs)).flatMap id = bs.take (j * k)
  | 0 => by simp
  | j + 1 => by
    rw [List.range_succ, List.map_append, List.flatMap_append, flat_pieces k hk bs j]
    simp only [List.map_cons, List.map_nil, List.flatMap_cons, List.flatMap_nil, List.append_nil, id]
    unfold piece
    rw [Nat.add_mul, Nat.one_mul, List.take_add]
theorem all_pieces {k : Nat} (hk : 0 < k) (bs : List UInt8) : ((List.range (cnt k bs.length)).map (piece k bs)).flatMap id = bs := by
  rw [flat_pieces k hk]
  refine List.take_of_length_le ?_
  have := (cnt_le (n := bs.length) (i := cnt k bs.length) hk)
  have h : ¬ cnt k bs.length < cnt k bs.length := Nat.lt_irrefl _
  rw [this] at h
  omega
theorem piece_len {k : Nat} {bs : List UInt8} {i : Nat} (h : (i + 1) * k ≤ bs.length) : (piece k bs i).length = k := by
  unfold piece
  rw [List.length_take, List.length_drop]
  rw [Nat.add_mul, Nat.one_mul] at h
  omega

/-- The flags of number i of n. -/
def flg (un : Bool) (n i : Nat) : Int := (if i = 0 then 2 else 0) + (if i + 1 = n then 1 else 0) + (if un = true then 4 else 0)
theorem flg_in (un : Bool) (n i : Nat) : 0 ≤ flg un n i ∧ flg un n i < 8 := by unfold flg; split <;> split <;> split <;> decide
theorem flg_end (un : Bool) (n i : Nat) : flg un n i % 2 = if i + 1 = n then 1 else 0 := by unfold flg; split <;> split <;> split <;> decide
theorem flg_begin (un : Bool) (n i : Nat) : flg un n i / 2 % 2 = if i = 0 then 1 else 0 := by unfold flg; split <;> split <;> split <;> decide
theorem flg_free (un : Bool) (n i : Nat) : flg un n i / 4 % 2 = if un = true then 1 else 0 := by unfold flg; split <;> split <;> split <;> decide
def ssnOf (m : Msg) (ssn : Int) : Int := if m.un = true then 0 else ssn
/-- Number i of a message's chunks. -/
def chAt (m : Msg) (tsn ssn : Int) (k i : Nat) : Ch := ⟨0, flg m.un (cnt k m.da.length) i, (tsn + i) % 4294967296, 0, m.st, ssnOf m ssn, m.pp, piece k m.da i⟩
def splitL (m : Msg) (tsn ssn : Int) (k : Nat) : List Ch := (List.range (cnt k m.da.length)).map (chAt m tsn ssn k)
theorem splitL_len (m : Msg) (tsn ssn : Int) (k : Nat) : (splitL m tsn ssn k).length = cnt k m.da.length := by simp [splitL]
theorem splitL_get {m : Msg} {tsn ssn : Int} {k i : Nat} (h : i < cnt k m.da.length) : (splitL m tsn ssn k)[i]? = some (chAt m tsn ssn k i) := by
  simp [splitL, h]
theorem splitL_some {m : Msg} {tsn ssn : Int} {k i : Nat} {x : Ch} (h : (splitL m tsn ssn k)[i]? = some x) : i < cnt k m.da.length ∧ x = chAt m tsn ssn k i := by
  have hi : i < cnt k m.da.length := by
    rcases Nat.lt_or_ge i (cnt k m.da.length) with h0 | h0
    · exact h0
    · rw [List.getElem?_eq_none (by rw [splitL_len]; exact h0)] at h; cases h
  rw [splitL_get hi] at h
  injection h with h
  exact ⟨hi, h.symm⟩
theorem fol_next {m : Msg} {tsn ssn : Int} {k i : Nat} (h : i + 1 < cnt k m.da.length) : fol (chAt m tsn ssn k i) (chAt m tsn ssn k (i + 1)) = true := by
  unfold fol
  refine decide_eq_true ⟨rfl, rfl, ?_, rfl, rfl, rfl, ?_, ?_, ?_⟩
  · show (tsn + ((i + 1 : Nat) : Int)) % 4294967296 = ((tsn + (i : Int)) % 4294967296 + 1) % 4294967296
    omega
  · show flg _ _ _ / 4 % 2 = flg _ _ _ / 4 % 2
    rw [flg_free, flg_free]
  · show flg _ _ _ % 2 = 0
    rw [flg_end, if_neg (by omega)]
  · show flg _ _ _ / 2 % 2 = 0
    rw [flg_begin, if_neg (by omega)]
theorem splitL_cons {m : Msg} {tsn ssn : Int} {k : Nat} (hk : 0 < k) (hm : 0 < m.da.length) : ∃ r, splitL m tsn ssn k = chAt m tsn ssn k 0 :: r := by
  have hp := cnt_pos hk hm
  have h := splitL_get (m := m) (tsn := tsn) (ssn := ssn) (k := k) (i := 0) hp
  cases hs : splitL m tsn ssn k with
  | nil => rw [hs] at h; simp at h
  | cons x r =>
    rw [hs] at h
    simp at h
    exact ⟨r, by rw [h]⟩
theorem splitL_last {m : Msg} {tsn ssn : Int} {k : Nat} (hk : 0 < k) (hm : 0 < m.da.length) : (splitL m tsn ssn k).getLast? = some (chAt m tsn ssn k (cnt k m.da.length - 1)) := by
  have hp := cnt_pos hk hm
  rw [List.getLast?_eq_getElem?, splitL_len]
  exact splitL_get (by omega)
theorem whole_split {m : Msg} {tsn ssn : Int} {k : Nat} (hk : 0 < k) (hm : 0 < m.da.length) : whole (splitL m tsn ssn k) = true ∧ msgOf (splitL m tsn ssn k) = m := by
  obtain ⟨r, hr⟩ := splitL_cons (tsn := tsn) (ssn := ssn) hk hm
  have hl := splitL_last (tsn := tsn) (ssn := ssn) hk hm
  have hp := cnt_pos hk hm
  have hc : chain (splitL m tsn ssn k) = true := chain_of _ fun i x y hx hy => by
    obtain ⟨_, rfl⟩ := splitL_some hx
    obtain ⟨hi, rfl⟩ := splitL_some hy
    exact fol_next hi
  have hd : (splitL m tsn ssn k).flatMap Ch.da = m.da := by
    have : (splitL m tsn ssn k).flatMap Ch.da = ((List.range (cnt k m.da.length)).map (piece k m.da)).flatMap id := by
      unfold splitL
      rw [List.flatMap_map, List.flatMap_map]
      rfl
    rw [this]
    exact all_pieces hk m.da
  constructor
  · rw [hr] at hl hc ⊢
    unfold whole
    dsimp only
    have e1 : decide ((chAt m tsn ssn k 0).kd = 0) = true := decide_eq_true rfl
    have e2 : decide ((chAt m tsn ssn k 0).fl / 2 % 2 = 1) = true := decide_eq_true (by show flg _ _ _ / 2 % 2 = 1; rw [flg_begin, if_pos rfl])
    have e3 : lastEnd (chAt m tsn ssn k 0 :: r) = true := by
      unfold lastEnd
      rw [hl]
      exact decide_eq_true (by show flg _ _ _ % 2 = 1; rw [flg_end, if_pos (by omega)])
    rw [e1, e2, e3, hc]
    rfl
  · rw [hr] at hd ⊢
    unfold msgOf
    dsimp only
    rw [hd]
    obtain ⟨st, un, pp, da⟩ := m
    have : decide ((chAt ⟨st, un, pp, da⟩ tsn ssn k 0).fl / 4 % 2 = 1) = un := by
      show decide (flg un _ _ / 4 % 2 = 1) = un
      rw [flg_free]
      cases un <;> rfl
    rw [this]
    rfl
/-- Without its first piece it is none. -/
theorem not_tail {m : Msg} {tsn ssn : Int} {k : Nat} : whole ((splitL m tsn ssn k).drop 1) = false := by
  cases h : (splitL m tsn ssn k).drop 1 with
  | nil => rfl
  | cons x r =>
    have hx : (splitL m tsn ssn k)[1]? = some x := by
      have := congrArg (fun l => l[0]?) h
      simpa using this
    obtain ⟨_, rfl⟩ := splitL_some hx
    refine whole_nobegin ?_
    show flg _ _ _ / 2 % 2 ≠ 1
    rw [flg_begin, if_neg (by decide)]
    decide
/-- Without its last piece it is none. -/
theorem not_init {m : Msg} {tsn ssn : Int} {k : Nat} : whole ((splitL m tsn ssn k).take (cnt k m.da.length - 1)) = false := by
  cases hc : cnt k m.da.length - 1 with
  | zero => rw [List.take_zero]; rfl
  | succ j =>
    have hj : j + 1 < cnt k m.da.length := by omega
    refine whole_noend (x := chAt m tsn ssn k j) ?_ ?_
    · rw [List.getLast?_eq_getElem?, List.length_take, splitL_len, Nat.min_eq_left (by omega), List.getElem?_take, if_pos (by omega)]
      exact splitL_get (by omega)
    · show flg _ _ _ % 2 ≠ 1
      rw [flg_end, if_neg (by omega)]
      decide
/-- With two exchanged it is none. -/
theorem not_exch {m : Msg} {tsn ssn : Int} {k j : Nat} (hj : j + 1 < cnt k m.da.length) (hb : cnt k m.da.length ≤ 1000000) {l : List Ch}
    (h0 : l[j]? = some (chAt m tsn ssn k (j + 1))) (h1 : ∀ i, i < j → l[i]? = some (chAt m tsn ssn k i)) : whole l = false := by
  cases j with
  | zero =>
    cases l with
    | nil => rfl
    | cons x r =>
      simp at h0
      subst h0
      refine whole_nobegin ?_
      show flg _ _ _ / 2 % 2 ≠ 1
      rw [flg_begin, if_neg (by omega)]
      decide
  | succ i =>
    refine whole_break (h1 i (by omega)) h0 ?_
    unfold fol
    refine decide_eq_false fun h => ?_
    have : (tsn + ((i + 1 + 1 : Nat) : Int)) % 4294967296 = ((tsn + (i : Int)) % 4294967296 + 1) % 4294967296 := h.2.2.1
    omega
/-- Two messages, one behind the other, are none; and the last piece of one is not followed by anything. -/
theorem not_followed {m : Msg} {tsn ssn : Int} {k : Nat} {y : Ch} (hk : 0 < k) (hm : 0 < m.da.length) : fol (chAt m tsn ssn k (cnt k m.da.length - 1)) y = false := by
  have hp := cnt_pos hk hm
  unfold fol
  refine decide_eq_false fun h => ?_
  have : flg m.un (cnt k m.da.length) (cnt k m.da.length - 1) % 2 = 0 := h.2.2.2.2.2.2.2.1
  rw [flg_end, if_pos (by omega)] at this
  cases this
theorem not_two {m m' : Msg} {tsn ssn tsn' ssn' : Int} {k : Nat} (hk : 0 < k) (hm : 0 < m.da.length) (hm' : 0 < m'.da.length) : whole (splitL m tsn ssn k ++ splitL m' tsn' ssn' k) = false := by
  have hp := cnt_pos hk hm
  have hp' := cnt_pos hk hm'
  refine whole_break (i := cnt k m.da.length - 1) (x := chAt m tsn ssn k (cnt k m.da.length - 1)) (y := chAt m' tsn' ssn' k 0) ?_ ?_ (not_followed hk hm)
  · rw [List.getElem?_append_left (by rw [splitL_len]; omega)]
    exact splitL_get (by omega)
  · rw [List.getElem?_append_right (by rw [splitL_len]; omega), splitL_len, show cnt k m.da.length - 1 + 1 - cnt k m.da.length = 0 by omega]
    exact splitL_get hp'
end Go.Proofs.Ythpcblbciidmeaa
