/- Openings there and back: the mathematics. -/
import Derived.Test.YtapaiknghnbfmaaDoorD5
namespace Go.Proofs.YtapaiknghnbfmaaDoor
open Go.RowKit
set_option linter.unusedVariables false

theorem toNat_b8 (n : Int) : ((b8 n).toNat : Int) = n % 256 := b8_toNat n
theorem num1 (x : UInt8) : numB [x] = x.toNat := by simp [numB]
theorem num2 (x y : UInt8) : numB [x, y] = x.toNat * 256 + y.toNat := by simp [numB]
theorem num4 (x y z u : UInt8) : numB [x, y, z, u] = ((x.toNat * 256 + y.toNat) * 256 + z.toNat) * 256 + u.toNat := by simp [numB]
theorem num1_b8 (n : Int) (h : 0 ≤ n ∧ n < 256) : (numB [b8 n] : Int) = n := by rw [num1, toNat_b8]; omega
theorem num2_b8 (n : Int) (h : 0 ≤ n ∧ n < 65536) : (numB [b8 (n / 256), b8 n] : Int) = n := by
  rw [num2]
  have h1 := toNat_b8 (n / 256)
  have h2 := toNat_b8 n
  omega
theorem num4_b8 (n : Int) (h : 0 ≤ n ∧ n < 4294967296) : (numB [b8 (n / 16777216), b8 (n / 65536), b8 (n / 256), b8 n] : Int) = n := by
  rw [num4]
  have h1 := toNat_b8 (n / 16777216)
  have h2 := toNat_b8 (n / 65536)
  have h3 := toNat_b8 (n / 256)
  have h4 := toNat_b8 n
  omega
theorem b8_num1 (x : UInt8) : b8 ((numB [x] : Nat) : Int) = x := by rw [num1, b8_back]
theorem b8_eq {n : Int} {x : UInt8} (h : n % 256 = (x.toNat : Int)) : b8 n = x := by
  apply UInt8.toNat.inj
  have := toNat_b8 n
  omega
theorem b8_num2 (x y : UInt8) : b8 ((numB [x, y] : Nat) / 256 : Int) = x ∧ b8 ((numB [x, y] : Nat) : Int) = y := by
  have hx : x.toNat < 256 := x.toNat_lt
  have hy : y.toNat < 256 := y.toNat_lt
  have h := num2 x y
  exact ⟨b8_eq (by omega), b8_eq (by omega)⟩
theorem b8_num4 (x y z u : UInt8) : b8 ((numB [x, y, z, u] : Nat) / 16777216 : Int) = x ∧ b8 ((numB [x, y, z, u] : Nat) / 65536 : Int) = y ∧ b8 ((numB [x, y, z, u] : Nat) / 256 : Int) = z ∧ b8 ((numB [x, y, z, u] : Nat) : Int) = u := by
  have hx : x.toNat < 256 := x.toNat_lt
  have hy : y.toNat < 256 := y.toNat_lt
  have hz : z.toNat < 256 := z.toNat_lt
  have hu : u.toNat < 256 := u.toNat_lt
  have h := num4 x y z u
  exact ⟨b8_eq (by omega), b8_eq (by omega), b8_eq (by omega), b8_eq (by omega)⟩
theorem ba_list (s : ByteArray) : (⟨s.data.toList.toArray⟩ : ByteArray) = s := by
  cases s with
  | mk d => show (⟨d.toList.toArray⟩ : ByteArray) = ⟨d⟩; rw [Array.toArray_toList]
theorem ba_len (s : ByteArray) : s.data.toList.length = s.size := by rw [Array.length_toList]; rfl
theorem encB_drop (o : OV) : (encB o).drop 12 = o.la.data.toList ++ o.pr.data.toList := rfl
theorem encB_len (o : OV) : (encB o).length = 12 + o.la.size + o.pr.size := by
  have : encB o = headB o o.la.size o.pr.size ++ (o.la.data.toList ++ o.pr.data.toList) := by unfold encB; rw [List.append_assoc]
  rw [this, List.length_append, List.length_append, headB_len, ba_len, ba_len]
  omega
theorem hK_enc (o : OV) (h : o.Ok) : hK (encB o) = o.k := num1_b8 o.k h.k
theorem hP_enc (o : OV) (h : o.Ok) : hP (encB o) = o.p := num2_b8 o.p h.p
theorem hL_enc (o : OV) (h : o.Ok) : hL (encB o) = o.l := num4_b8 o.l h.l
theorem hN_enc (o : OV) (h : o.la.size ≤ 256) : hN (encB o) = o.la.size := by
  have : ((hN (encB o) : Nat) : Int) = (o.la.size : Int) := num2_b8 (o.la.size : Int) (by omega)
  omega
theorem hM_enc (o : OV) (h : o.pr.size ≤ 256) : hM (encB o) = o.pr.size := by
  have : ((hM (encB o) : Nat) : Int) = (o.pr.size : Int) := num2_b8 (o.pr.size : Int) (by omega)
  omega
theorem encE_zero {o : OV} (h : encE o = 0) : wrongB o = false ∧ o.la.size ≤ 256 ∧ o.pr.size ≤ 256 := by
  unfold encE at h
  cases hw : wrongB o with
  | true => rw [hw] at h; simp at h
  | false =>
    rw [hw, if_neg (by simp)] at h
    by_cases h2 : 256 < o.la.size ∨ 256 < o.pr.size
    · rw [if_pos h2] at h; cases h
    · exact ⟨rfl, by omega, by omega⟩
theorem decF_enc (o : OV) (h : o.Ok) (h1 : o.la.size ≤ 256) (h2 : o.pr.size ≤ 256) : decF (encB o) = o := by
  unfold decF
  rw [hK_enc o h, hP_enc o h, hL_enc o h, hN_enc o h1, encB_drop]
  rw [List.take_append_of_le_length (by rw [ba_len]; exact Nat.le_refl _), List.take_of_length_le (by rw [ba_len]; exact Nat.le_refl _), List.drop_append_of_le_length (by rw [ba_len]; exact Nat.le_refl _), List.drop_of_length_le (by rw [ba_len]; exact Nat.le_refl _), List.nil_append, ba_list, ba_list]
theorem dec_enc (o : OV) (h : o.Ok) (he : encE o = 0) : decE (encB o) = 0 ∧ decO (encB o) = o := by
  obtain ⟨hw, h1, h2⟩ := encE_zero he
  have hF := decF_enc o h h1 h2
  have hE : decE (encB o) = 0 := by
    rw [decE_rest (by rintro ⟨_, h3⟩; exact h3 rfl) (by rw [encB_len]; omega) (by rw [hN_enc o h1, hM_enc o h2]; omega), hN_enc o h1, hM_enc o h2, encB_len, if_neg (by omega), if_neg (by omega), hF, hw]
    rfl
  refine ⟨hE, ?_⟩
  unfold decO
  rw [if_pos hE, hF]
set_option maxRecDepth 100000 in
theorem enc_dec {bs : List UInt8} (h : decE bs = 0) : encE (decO bs) = 0 ∧ encB (decO bs) = bs := by
  have h1 : ¬ (bs ≠ [] ∧ bs.headD 0 ≠ 3) := fun hc => by rw [decE_form hc.1 hc.2] at h; cases h
  have h2 : ¬ bs.length < 12 := fun hc => by rw [decE_short h1 hc] at h; cases h
  have h3 : ¬ (256 < hN bs ∨ 256 < hM bs) := fun hc => by rw [decE_large h1 h2 hc] at h; cases h
  have hR := decE_rest h1 h2 h3
  rw [h] at hR
  have h4 : ¬ bs.length - 12 < hN bs + hM bs := fun hc => by rw [if_pos hc] at hR; cases hR
  rw [if_neg h4] at hR
  have h5 : ¬ hN bs + hM bs < bs.length - 12 := fun hc => by rw [if_pos hc] at hR; cases hR
  rw [if_neg h5] at hR
  have h6 : wrongB (decF bs) = false := by
    cases hw : wrongB (decF bs) with
    | false => rfl
    | true => rw [hw] at hR; cases hR
  have hO : decO bs = decF bs := by unfold decO; rw [if_pos h]
  rw [hO]
  have hla : (decF bs).la.size = hN bs := by
    show (⟨((bs.drop 12).take (hN bs)).toArray⟩ : ByteArray).size = _
    rw [ba_size, List.length_take, List.length_drop]
    omega
  have hpr : (decF bs).pr.size = hM bs := by
    show (⟨((bs.drop 12).drop (hN bs)).toArray⟩ : ByteArray).size = _
    rw [ba_size, List.length_drop, List.length_drop]
    omega
  refine ⟨by unfold encE; rw [h6, if_neg (by simp), if_neg (by omega)], ?_⟩
  have h0 : bs ≠ [] := by intro h0; rw [h0] at h2; exact h2 (by decide)
  have h3' : bs.headD 0 = 3 := Classical.byContradiction fun hc => h1 ⟨h0, hc⟩
  unfold encB
  rw [hla, hpr]
  show headB (decF bs) (hN bs) (hM bs) ++ ((bs.drop 12).take (hN bs)) ++ ((bs.drop 12).drop (hN bs)) = bs
  rw [List.append_assoc, List.take_append_drop]
  clear h h1 h3 h4 h5 h6 hR hO hla hpr h0
  match bs, h2, h3' with
  | x0 :: x1 :: x2 :: x3 :: x4 :: x5 :: x6 :: x7 :: x8 :: x9 :: x10 :: x11 :: r, _, hx0 =>
    have e0 : x0 = 3 := hx0
    have e2 := b8_num2 x2 x3
    have e4 := b8_num4 x4 x5 x6 x7
    have e8 := b8_num2 x8 x9
    have e10 := b8_num2 x10 x11
    show [b8 3, b8 (numB [x1] : Nat), b8 ((numB [x2, x3] : Nat) / 256 : Int), b8 (numB [x2, x3] : Nat), b8 ((numB [x4, x5, x6, x7] : Nat) / 16777216 : Int), b8 ((numB [x4, x5, x6, x7] : Nat) / 65536 : Int), b8 ((numB [x4, x5, x6, x7] : Nat) / 256 : Int), b8 (numB [x4, x5, x6, x7] : Nat), b8 ((numB [x8, x9] : Nat) / 256 : Int), b8 (numB [x8, x9] : Nat), b8 ((numB [x10, x11] : Nat) / 256 : Int), b8 (numB [x10, x11] : Nat)] ++ r = _
    rw [b8_num1, e2.1, e2.2, e4.1, e4.2.1, e4.2.2.1, e4.2.2.2, e8.1, e8.2, e10.1, e10.2, e0]
    rfl
  | [], h2, _ => exact absurd (by simp) h2
  | [_], h2, _ => exact absurd (by simp) h2
  | [_, _], h2, _ => exact absurd (by simp) h2
  | [_, _, _], h2, _ => exact absurd (by simp) h2
  | [_, _, _, _], h2, _ => exact absurd (by simp) h2
  | [_, _, _, _, _], h2, _ => exact absurd (by simp) h2
  | [_, _, _, _, _, _], h2, _ => exact absurd (by simp) h2
  | [_, _, _, _, _, _, _], h2, _ => exact absurd (by simp) h2
  | [_, _, _, _, _, _, _, _], h2, _ => exact absurd (by simp) h2
  | [_, _, _, _, _, _, _, _, _], h2, _ => exact absurd (by simp) h2
  | [_, _, _, _, _, _, _, _, _, _], h2, _ => exact absurd (by simp) h2
  | [_, _, _, _, _, _, _, _, _, _, _], h2, _ => exact absurd (by simp) h2
end Go.Proofs.YtapaiknghnbfmaaDoor
