/- A row of octets of the call's own, written octet by octet; xor on octets. Over every program (XCRow's first part, apart from crc). -/
import Derived.Test.YtbkcjpimjipnfaaOct1
import Derived.Test.YtbkcjpimjipnfaaSip1
namespace Go.Proofs.Ytbkcjpimjipnfaa
open Go.RowKit
set_option linter.unusedVariables false

/-- The block g begins with the octets bs, and may be written. -/
def Row (w : World) (g n : Nat) (bs : List UInt8) : Prop := g < w.heap.size ∧ n = bs.length ∧ ∃ cur t, w.heap[g]? = some (.cells cur t (0, 0)) ∧ cur.toList.take n = bc bs
theorem Row.step {w w' : World} {g n : Nat} {bs : List UInt8} (h : Row w g n bs) (hb : Below w.heap.size w w') : Row w' g n bs := by
  obtain ⟨h0, h1, cur, t, h2, h3⟩ := h
  exact ⟨Nat.lt_of_lt_of_le h0 hb.size, h1, cur, t, by rw [hb.block g h0]; exact h2, h3⟩
theorem Row.bs {w : World} {g n c : Nat} {bs : List UInt8} (h : Row w g n bs) (hc : n ≤ c) : BS w (some ⟨g, 0, none⟩) n c bs := by
  obtain ⟨h0, h1, cur, t, h2, h3⟩ := h
  refine ⟨h1, hc, ?_⟩
  have := (SR.row h2).take n
  rw [h3] at this
  exact this
theorem Row.cell {w : World} {g n : Nat} {bs : List UInt8} (h : Row w g n bs) (k : Nat) (hk : k < n) : w.cell? ⟨g, k, none⟩ = some (.int .u8 ((bs.getD k 0).toNat : Int)) := by
  obtain ⟨h0, h1, cur, t, h2, h3⟩ := h
  have hc : (bc bs)[k]? = cur[k]? := by
    rw [← h3, List.getElem?_take, if_pos hk, Array.getElem?_toList]
  rw [cell_of_row w g k cur _ _ h2, ← hc, bc_getElem?, List.getD_eq_getElem?_getD, List.getElem?_eq_getElem (by omega)]
  rfl
theorem Row.frozen {w : World} {g n : Nat} {bs : List UInt8} (h : Row w g n bs) (k : Nat) : w.frozen? ⟨g, k, none⟩ = false := by
  obtain ⟨h0, h1, cur, t, h2, h3⟩ := h
  simp [World.frozen?, h2]
theorem bc_set (bs : List UInt8) (k : Nat) (y : UInt8) : bc (bs.set k y) = (bc bs).set k (.int .u8 (y.toNat : Int)) := by
  unfold bc
  rw [List.map_set]
theorem Row.set {w : World} {g n : Nat} {bs : List UInt8} (h : Row w g n bs) (k : Nat) (y : UInt8) : Row (w.setCell ⟨g, k, none⟩ (.int .u8 (y.toNat : Int))) g n (bs.set k y) := by
  obtain ⟨h0, h1, cur, t, h2, h3⟩ := h
  refine ⟨by simpa [World.setCell] using h0, by rw [List.length_set]; exact h1, cur.setIfInBounds k (.int .u8 (y.toNat : Int)), t, ?_, ?_⟩
  · unfold World.setCell
    simp [Array.getElem?_modify, h2]
  · rw [Array.toList_setIfInBounds, List.take_set, h3, bc_set]
theorem own_row_of {w : World} {base : Nat} {e : TypeId} {n c : Nat} {A : Option Addr} {bs : List UInt8} (h : w.ownsRow base e 1 (.slice A n c) n (bc bs)) (hn : 0 < n) :
    ∃ g, A = some ⟨g, 0, none⟩ ∧ base ≤ g ∧ Row w g n bs ∧ n ≤ c := by
  have h1 : n = bs.length := by have := h.1; rw [bc_length] at this; omega
  rcases h.2 with ⟨hv, h0⟩ | ⟨g, cap, cur, hv, hg, hh, hnc, _, _, ht⟩
  · injection hv with _ h2
    omega
  · injection hv with hA _ hc
    subst hA hc
    refine ⟨g, rfl, hg, ⟨(Array.getElem?_eq_some_iff.1 hh).1, h1, cur, e, hh, by simpa using ht⟩, hnc⟩

theorem split_at (bs : List UInt8) (k : Nat) (hk : k < bs.length) : ∃ pre x post, bs = pre ++ x :: post ∧ pre.length = k :=
  ⟨bs.take k, bs[k], bs.drop (k + 1), by rw [← List.drop_eq_getElem_cons hk, List.take_append_drop], by rw [List.length_take]; omega⟩
theorem u8_xor_ne (x y : UInt8) (h : x = x ^^^ y) : y = 0 := by
  have := congrArg (fun z => x ^^^ z) h
  simpa [← UInt8.xor_assoc] using this.symm
theorem xor_u8 (a b : Nat) (ha : a < 256) (hb : b < 256) : bits .xor .u8 (a : Int) (b : Int) = ((a ^^^ b : Nat) : Int) := by
  have h1 : (BitVec.ofInt 8 (a : Int)).toNat = a := by
    rw [BitVec.ofInt_natCast, BitVec.toNat_ofNat]; exact Nat.mod_eq_of_lt (by omega)
  have h2 : (BitVec.ofInt 8 (b : Int)).toNat = b := by
    rw [BitVec.ofInt_natCast, BitVec.toNat_ofNat]; exact Nat.mod_eq_of_lt (by omega)
  show IntKind.u8.wrap ((BitVec.ofInt 8 (a : Int) ^^^ BitVec.ofInt 8 (b : Int)).toNat : Int) = _
  rw [BitVec.toNat_xor, h1, h2, wrap_u8]
  have := Nat.xor_lt_two_pow (n := 8) ha hb
  omega

theorem set_ne (bs : List UInt8) (k : Nat) (hk : k < bs.length) (y : UInt8) (hy : y ≠ 0) : bs.set k (bs.getD k 0 ^^^ y) ≠ bs := by
  obtain ⟨pre, x, post, rfl, rfl⟩ := split_at bs k hk
  intro h
  have e1 : (pre ++ x :: post).getD pre.length 0 = x := by simp [List.getD_eq_getElem?_getD]
  have e2 : (pre ++ x :: post).set pre.length (x ^^^ y) = pre ++ (x ^^^ y) :: post := by
    rw [List.set_append_right _ _ (Nat.le_refl _)]
    simp
  rw [e1, e2] at h
  have h1 := List.append_cancel_left h
  injection h1 with h2 _
  exact hy (u8_xor_ne x y h2.symm)
theorem set_same (bs : List UInt8) (k : Nat) (hk : k < bs.length) : bs.set k (bs.getD k 0 ^^^ 0) = bs := by
  obtain ⟨pre, x, post, rfl, rfl⟩ := split_at bs k hk
  have e1 : (pre ++ x :: post).getD pre.length 0 = x := by simp [List.getD_eq_getElem?_getD]
  rw [e1, List.set_append_right _ _ (Nat.le_refl _)]
  simp
end Go.Proofs.Ytbkcjpimjipnfaa
