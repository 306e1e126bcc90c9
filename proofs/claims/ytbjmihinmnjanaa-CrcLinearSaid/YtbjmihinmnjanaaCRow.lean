/- A row of octets of the call's own, written octet by octet; what differs in one octet, or in four neighbouring ones, has not one sum. -/
import Derived.Test.YtbjmihinmnjanaaCrc4
namespace Go.Proofs.Ytbjmihinmnjanaa
open Go.RowKit
set_option linter.unusedVariables false

/-- The block g begins with the octets bs, and may be written. -/
def Row (w : World) (g n : Nat) (bs : List UInt8) : Prop := g < w.heap.size ∧ n = bs.length ∧ ∃ cur t, w.heap[g]? = some (.cells cur t (0, 0)) ∧ cur.toList.take n = bc bs
theorem Row.step {w w' : World} {g n : Nat} {bs : List UInt8} (h : Row w g n bs) (hb : Below w.heap.size w w') : Row w' g n bs := by
  obtain ⟨h0, h1, cur, t, h2, h3⟩ := h
  exact ⟨Nat.lt_of_lt_of_le h0 hb.size, h1, cur, t, by rw [hb.block g h0]; exact h2, h3⟩
theorem Row.bs {w : World} {g n c : Nat} {bs : List UInt8} (h : Row w g n bs) (hc : n ≤ c) : BS w (some ⟨g, 0, none⟩) n c bs := by
  obtain ⟨h0, h1, cur, t, h2, h3⟩ := h
  refine ⟨h1, hc, ?_⟩
  have := (SR.row h2).take n
  rw [h3] at this
  exact this
theorem Row.cell {w : World} {g n : Nat} {bs : List UInt8} (h : Row w g n bs) (k : Nat) (hk : k < n) : w.cell? ⟨g, k, none⟩ = some (.int .u8 ((bs.getD k 0).toNat : Int)) := by
  obtain ⟨h0, h1, cur, t, h2, h3⟩ := h
  have hc : (bc bs)[k]? = cur[k]? := by
    rw [← h3, List.getElem?_take, if_pos hk, Array.getElem?_toList]
  rw [cell_of_row w g k cur _ _ h2, ← hc, bc_getElem?, List.getD_eq_getElem?_getD, List.getElem?_eq_getElem (by omega)]
  rfl
theorem Row.frozen {w : World} {g n : Nat} {bs : List UInt8} (h : Row w g n bs) (k : Nat) : w.frozen? ⟨g, k, none⟩ = false := by
  obtain ⟨h0, h1, cur, t, h2, h3⟩ := h
  simp [World.frozen?, h2]
theorem bc_set (bs : List UInt8) (k : Nat) (y : UInt8) : bc (bs.set k y) = (bc bs).set k (.int .u8 (y.toNat : Int)) := by
  unfold bc
  rw [List.map_set]
theorem Row.set {w : World} {g n : Nat} {bs : List UInt8} (h : Row w g n bs) (k : Nat) (y : UInt8) : Row (w.setCell ⟨g, k, none⟩ (.int .u8 (y.toNat : Int))) g n (bs.set k y) := by
  obtain ⟨h0, h1, cur, t, h2, h3⟩ := h
  refine ⟨by simpa [World.setCell] using h0, by rw [List.length_set]; exact h1, cur.setIfInBounds k (.int .u8 (y.toNat : Int)), t, ?_, ?_⟩
  · unfold World.setCell
    simp [Array.getElem?_modify, h2]
  · rw [Array.toList_setIfInBounds, List.take_set, h3, bc_set]
theorem own_row_of {w : World} {base : Nat} {e : TypeId} {n c : Nat} {A : Option Addr} {bs : List UInt8} (h : w.ownsRow base e 1 (.slice A n c) n (bc bs)) (hn : 0 < n) :
    ∃ g, A = some ⟨g, 0, none⟩ ∧ base ≤ g ∧ Row w g n bs ∧ n ≤ c := by
  have h1 : n = bs.length := by have := h.1; rw [bc_length] at this; omega
  rcases h.2 with ⟨hv, h0⟩ | ⟨g, cap, cur, hv, hg, hh, hnc, _, _, ht⟩
  · injection hv with _ h2
    omega
  · injection hv with hA _ hc
    subst hA hc
    refine ⟨g, rfl, hg, ⟨(Array.getElem?_eq_some_iff.1 hh).1, h1, cur, e, hh, by simpa using ht⟩, hnc⟩

theorem sumOf_ne {a b : List UInt8} (h : octs 4294967295 a ≠ octs 4294967295 b) : ((sumOf a : Nat) : Int) ≠ ((sumOf b : Nat) : Int) := by
  intro h1
  apply h
  unfold sumOf at h1
  exact xor_cancel _ _ _ (Int.ofNat_inj.1 h1)
theorem split_at (bs : List UInt8) (k : Nat) (hk : k < bs.length) : ∃ pre x post, bs = pre ++ x :: post ∧ pre.length = k :=
  ⟨bs.take k, bs[k], bs.drop (k + 1), by rw [← List.drop_eq_getElem_cons hk, List.take_append_drop], by rw [List.length_take]; omega⟩
theorem u8_xor_ne (x y : UInt8) (h : x = x ^^^ y) : y = 0 := by
  have := congrArg (fun z => x ^^^ z) h
  simpa [← UInt8.xor_assoc] using this.symm
theorem octs_set (bs : List UInt8) (k : Nat) (hk : k < bs.length) (y : UInt8) (hy : y ≠ 0) : octs 4294967295 bs ≠ octs 4294967295 (bs.set k (bs.getD k 0 ^^^ y)) := by
  obtain ⟨pre, x, post, rfl, rfl⟩ := split_at bs k hk
  intro h
  have e1 : (pre ++ x :: post).getD pre.length 0 = x := by simp [List.getD_eq_getElem?_getD]
  have e2 : (pre ++ x :: post).set pre.length (x ^^^ y) = pre ++ (x ^^^ y) :: post := by
    rw [List.set_append_right _ _ (Nat.le_refl _)]
    simp
  rw [e1, e2] at h
  exact hy (u8_xor_ne x y (octs_byte _ (by decide) _ _ _ _ h))

/-- The octet j of a number. -/
def ob (y j : Nat) : UInt8 := UInt8.ofNat (y / 256 ^ j % 256)
/-- bs with the first j octets of y added from k on. -/
def burst (bs : List UInt8) (k y : Nat) : Nat → List UInt8
  | 0 => bs
  | j + 1 => (burst bs k y j).set (k + j) ((burst bs k y j).getD (k + j) 0 ^^^ ob y j)
theorem set_in (pre post : List UInt8) (x y : UInt8) (k : Nat) (hk : k = pre.length) : (pre ++ x :: post).set k ((pre ++ x :: post).getD k 0 ^^^ y) = pre ++ (x ^^^ y) :: post := by
  subst hk
  have e1 : (pre ++ x :: post).getD pre.length 0 = x := by simp [List.getD_eq_getElem?_getD]
  rw [e1, List.set_append_right _ _ (Nat.le_refl _)]
  simp
theorem octs_burst4 (bs : List UInt8) (k y : Nat) (hk : k + 4 ≤ bs.length) (hy : y < 4294967296) (h0 : y ≠ 0) : octs 4294967295 bs ≠ octs 4294967295 (burst bs k y 4) := by
  obtain ⟨pre, a, p1, rfl, rfl⟩ := split_at bs k (by omega)
  rcases p1 with _ | ⟨b, _ | ⟨c, _ | ⟨d, post⟩⟩⟩
  · simp at hk
  · simp at hk
  · simp at hk
  have e1 : burst (pre ++ a :: b :: c :: d :: post) pre.length y 1 = (pre ++ [a ^^^ ob y 0]) ++ b :: c :: d :: post := by
    unfold burst burst
    rw [set_in _ _ _ _ _ (by simp)]
    simp
  have e2 : burst (pre ++ a :: b :: c :: d :: post) pre.length y 2 = (pre ++ [a ^^^ ob y 0, b ^^^ ob y 1]) ++ c :: d :: post := by
    rw [burst, e1, set_in _ _ _ _ _ (by simp)]
    simp
  have e3 : burst (pre ++ a :: b :: c :: d :: post) pre.length y 3 = (pre ++ [a ^^^ ob y 0, b ^^^ ob y 1, c ^^^ ob y 2]) ++ d :: post := by
    rw [burst, e2, set_in _ _ _ _ _ (by simp)]
    simp
  have e4 : burst (pre ++ a :: b :: c :: d :: post) pre.length y 4 = (pre ++ [a ^^^ ob y 0, b ^^^ ob y 1, c ^^^ ob y 2, d ^^^ ob y 3]) ++ post := by
    rw [burst, e3, set_in _ _ _ _ _ (by simp)]
    simp
  rw [e4]
  have := octs_burst 4294967295 y (by decide) hy h0 pre post a b c d
  simpa [ob] using this
end Go.Proofs.Ytbjmihinmnjanaa
