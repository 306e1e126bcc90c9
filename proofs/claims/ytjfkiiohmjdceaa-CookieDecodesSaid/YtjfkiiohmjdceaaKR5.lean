/- The document's Decode for layer 9: what its two loops have read after each octet, over plain lists. -/
import Derived.Test.YtjfkiiohmjdceaaKR4
namespace Go.Proofs.Ytjfkiiohmjdceaa
open Go.RowKit
set_option linter.unusedVariables false

def offs : List Nat := [0, 8, 16, 20, 24, 28, 32, 36, 40, 44, 46]
def off (j : Nat) : Nat := offs.getD j 48
def wid (j : Nat) : Nat := wds.getD j 0
def cellsOf (f : Nat → Int) : Array Value := #[.int .i64 (f 0), .int .i64 (f 1), .int .i64 (f 2), .int .i64 (f 3), .int .i64 (f 4), .int .i64 (f 5), .int .i64 (f 6), .int .i64 (f 7), .int .i64 (f 8), .int .i64 (f 9), .int .i64 (f 10)]
/-- The numbers when i of them are read in full and k octets of the next. -/
def pt (b : List UInt8) (i k j : Nat) : Int := (numB ((b.drop (off j)).take (if j < i then wid j else if j = i then k else 0)) : Int)
theorem pt_zero (b : List UInt8) : cellsOf (pt b 0 0) = refZ := by simp [cellsOf, pt, numB]
theorem pt_full (b : List UInt8) (i : Nat) : pt b i (wid i) = pt b (i + 1) 0 := by
  funext j
  unfold pt
  congr 3
  by_cases h1 : j < i
  · simp [h1, show j < i + 1 by omega]
  · by_cases h2 : j = i
    · subst h2; simp
    · simp [h1, h2, show ¬ j < i + 1 by omega]
theorem off_wid (i : Nat) (hi : i < 11) : off i + wid i = off (i + 1) ∧ off i + wid i ≤ 48 ∧ (wid i = 8 ∧ i < 2 ∨ wid i ≤ 4 ∧ 2 ≤ i) ∧ wdC[i]? = some (.int .i64 (wid i : Int)) := by
  rcases i with _ | _ | _ | _ | _ | _ | _ | _ | _ | _ | _ | j <;> first | exact ⟨rfl, by decide, by decide, rfl⟩ | omega
theorem cells_get (f : Nat → Int) (i : Nat) (hi : i < 11) : (cellsOf f)[i]? = some (.int .i64 (f i)) := by
  rcases i with _ | _ | _ | _ | _ | _ | _ | _ | _ | _ | _ | j <;> first | rfl | omega
theorem cells_set (f : Nat → Int) (i : Nat) (hi : i < 11) (v : Int) : (cellsOf f).setIfInBounds i (.int .i64 v) = cellsOf (fun j => if j = i then v else f j) := by
  rcases i with _ | _ | _ | _ | _ | _ | _ | _ | _ | _ | _ | j <;> first | rfl | omega
theorem pt_step (b : List UInt8) (hb : b.length = 48) (i k : Nat) (hi : i < 11) (hk : k < wid i) (x : UInt8) (hx : b[off i + k]? = some x) :
    pt b i (k + 1) = fun j => if j = i then pt b i k i * 256 + (x.toNat : Int) else pt b i k j := by
  funext j
  unfold pt
  by_cases h2 : j = i
  · subst h2
    have hl : k < (b.drop (off j)).length := by rw [List.length_drop]; have := (off_wid j hi).2.1; omega
    have e : (b.drop (off j))[k] = x := by
      have := List.getElem?_drop (xs := b) (i := off j) (j := k)
      rw [hx, List.getElem?_eq_getElem hl] at this
      injection this
    have := numB_take (b.drop (off j)) k hl
    rw [e] at this
    simp only [Nat.lt_irrefl, if_false, if_true]
    omega
  · simp [h2]
theorem numB_more (l : List UInt8) (k : Nat) : ∀ d, k + 1 + d ≤ l.length → numB (l.take k) * 256 ≤ numB (l.take (k + 1 + d))
  | 0, h => by rw [numB_take l k (by omega)]; omega
  | d + 1, h => by
    have := numB_more l k d (by omega)
    have e := numB_take l (k + 1 + d) (by omega)
    rw [← Nat.add_assoc, e]
    omega
theorem eight (b : List UInt8) (i : Nat) (h : i + 8 ≤ b.length) : (numB ((b.drop i).take 8) : Int) = n8 b i := by
  have e1 : (b.drop i).take 4 = ((b.drop i).take 8).take 4 := by rw [List.take_take]; rfl
  have e2 : (b.drop (i + 4)).take 4 = ((b.drop i).take 8).drop 4 := by rw [List.drop_take, List.drop_drop]
  have hl : ((b.drop i).take 8).length = 8 := by rw [List.length_take, List.length_drop]; omega
  unfold n8 n4
  rw [e1, e2]
  generalize (b.drop i).take 8 = l at hl ⊢
  match l, hl with
  | [x, y, z, u, p, q, r, s], _ =>
    show (numB [x, y, z, u, p, q, r, s] : Int) = (numB [x, y, z, u] : Int) * 4294967296 + (numB [p, q, r, s] : Int)
    rw [numB_four, numB_four]
    simp only [numB, List.foldl_cons, List.foldl_nil]
    omega
theorem n8_bound (b : List UInt8) (i : Nat) : 0 ≤ n8 b i ∧ n8 b i < 18446744073709551616 := by
  have h1 := n4_bound b i
  have h2 := n4_bound b (i + 4)
  unfold n8
  omega
theorem pt_pos (b : List UInt8) (i k j : Nat) : 0 ≤ pt b i k j := by unfold pt; omega
/-- What is past the bound half way is no state. -/
theorem pt_over (b : List UInt8) (hb : b.length = 48) (i k : Nat) (hi : i < 11) (hk : k < wid i) (ho : 18014398509481984 < pt b i k i) : ¬ (stateOf b).may := by
  intro hm
  obtain ⟨m0, m1⟩ := may_n8 b hm
  obtain ⟨⟨q0, q1⟩, q2, q3⟩ := hm
  unfold pt at ho
  simp only [Nat.lt_irrefl, if_false, if_true] at ho
  obtain ⟨w1, w2, w3, _⟩ := off_wid i hi
  have hl : (b.drop (off i)).length = 48 - off i := by rw [List.length_drop, hb]
  rcases w3 with ⟨w3, w4⟩ | ⟨w3, w4⟩
  · have h2 := numB_more (b.drop (off i)) k (7 - k) (by omega)
    rw [show k + 1 + (7 - k) = 8 by omega] at h2
    have h3 := eight b (off i) (by omega)
    have : i = 0 ∨ i = 1 := by omega
    rcases this with rfl | rfl
    · have : off 0 = 0 := rfl
      rw [this] at h2 h3 ho
      omega
    · have : off 1 = 8 := rfl
      rw [this] at h2 h3 ho
      omega
  · have h2 := numB_take_lt (b.drop (off i)) k (by omega)
    have h3 : 256 ^ k ≤ 256 ^ 4 := Nat.pow_le_pow_right (by omega) (by omega)
    omega
theorem pt_all (b : List UInt8) (hb : b.length = 48) : pt b 11 0 0 = n8 b 0 ∧ pt b 11 0 1 = n8 b 8 ∧ cellsOf (pt b 11 0) = CS.ref ⟨n8 b 0, n8 b 8, n4 b 16, n4 b 20, n4 b 24, n4 b 28, n4 b 32, n2 b 44, n2 b 46, n4 b 36, n4 b 40⟩ := by
  have h0 : pt b 11 0 0 = n8 b 0 := eight b 0 (by omega)
  have h1 : pt b 11 0 1 = n8 b 8 := eight b 8 (by omega)
  refine ⟨h0, h1, ?_⟩
  unfold cellsOf
  rw [h0, h1]
  rfl
theorem may_last (b : List UInt8) : (n8 b 0 ≤ 281474976710656 ∧ n8 b 8 ≤ 281474976710656 → (stateOf b).may ∧ CS.mk (n8 b 0) (n8 b 8) (n4 b 16) (n4 b 20) (n4 b 24) (n4 b 28) (n4 b 32) (n2 b 44) (n2 b 46) (n4 b 36) (n4 b 40) = stateOf b) ∧ (¬ (n8 b 0 ≤ 281474976710656 ∧ n8 b 8 ≤ 281474976710656) → ¬ (stateOf b).may) := by
  have b0 := n8_bound b 0
  have b1 := n8_bound b 8
  constructor
  · rintro ⟨h0, h1⟩
    have e0 := (wrap_small (n8 b 0) b0.1 b0.2).1 (by omega)
    have e1 := (wrap_small (n8 b 8) b1.1 b1.2).1 (by omega)
    have d0 : (stateOf b).made = n8 b 0 := e0
    have d1 : (stateOf b).life = n8 b 8 := e1
    refine ⟨?_, ?_⟩
    · unfold CS.may
      rw [d0, d1]
      omega
    · unfold stateOf
      rw [e0, e1]
  · intro h hm
    obtain ⟨m0, m1⟩ := may_n8 b hm
    obtain ⟨⟨q0, q1⟩, q2, q3⟩ := hm
    omega
end Go.Proofs.Ytjfkiiohmjdceaa
