/- Package audio and its document's: a packet is told as the other's; there and back. -/
import Derived.Test.YtacmfoljbjdcjaaUJ
namespace Go.Proofs.Ytacmfoljbjdcjaa
open Go.RowKit Go.Maps
set_option linter.unusedVariables false
set_option linter.unusedSimpArgs false

theorem ref_size : (Try.prog.info? 32).map (·.size) = some 6 := by kernel_rfl
theorem ret_ref1 {fn : Func} {p : Tmp} (hr : fn.results = #[.cell p 32]) (tmps : Array Value) (w : World) (g : Nat) (x : Pv) (hp : tmps.getD p undef = .pointer (some ⟨g, 0, none⟩)) (h : w.heap[g]? = some (.cells x.cells.toArray 32 (0, 0))) :
    (results fn tmps).run Try.prog w = .ok (.agg x.cells.toArray) w :=
  results_cell_row hr tmps w g _ x.cells.toArray (0, 0) _ hp h Try.underlying32 rfl ref_size
set_option maxHeartbeats 2000000 in
set_option maxRecDepth 100000 in
theorem theirs_any (x : Pv) (w : World) : Calls Try.prog 11 #[.agg x.cells.toArray] w fun e w' => e = .returned (.agg x.cells.toArray) ∧ Below w.heap.size w w' := by
  obtain ⟨ym, yk, yq, yt, yo, ⟨y1, y2, y3⟩, yb⟩ := x
  unfold Pv.cells
  dsimp only
  have l1 := below_lay w (.cells #[.bool ym, .int .u8 yk, .int .u16 yq, .int .u32 yt, .int .u32 yo, .slice y1 y2 y3] 26)
  have e1 : (w.alloc (.cells #[.bool ym, .int .u8 yk, .int .u16 yq, .int .u32 yt, .int .u32 yo, .slice y1 y2 y3] 26)).heap.size = w.heap.size + 1 := by simp
  have R3 := heap_alloc_new (w.alloc (.cells #[.bool ym, .int .u8 yk, .int .u16 yq, .int .u32 yt, .int .u32 yo, .slice y1 y2 y3] 26)) (.cells #[.bool ym, .int .u8 yk, .int .u16 yq, .int .u32 yt, .int .u32 yo, .slice y1 y2 y3] 32)
  rw [e1] at R3
  have HB := keep (l1.alloc l1.size (.cells #[.bool ym, .int .u8 yk, .int .u16 yq, .int .u32 yt, .int .u32 yo, .slice y1 y2 y3] 32))
  have HR := keep R3
  clear l1 e1 R3
  go_enter Try.func11, Try.ntmps11
  go_wp2_with fail
  exact bodyPost_ret (ret_ref1 rfl _ _ (w.heap.size + 1) ⟨ym, yk, yq, yt, yo, (y1, y2, y3), yb⟩ rfl HR.out) rfl ⟨rfl, HB.out⟩
set_option maxHeartbeats 2000000 in
set_option maxRecDepth 100000 in
theorem alike_same (y : Pk) (A : Option Addr) (n c : Nat) (B : Option Addr) (m d : Nat) (w : World) (hA : BS w A n c y.bs) (hB : BS w B m d y.bs) :
    Calls Try.prog 15 #[.agg #[.bool y.mr, .int .u8 y.kd, .int .u16 y.sq, .int .u32 y.st, .int .u32 y.so, .slice A n c], .agg #[.bool y.mr, .int .u8 y.kd, .int .u16 y.sq, .int .u32 y.st, .int .u32 y.so, .slice B m d]] w fun e w' => e = .returned (.bool true) ∧ Below w.heap.size w w' := by
  obtain ⟨ym, yk, yq, yt, yo, yb⟩ := y
  dsimp only at hA hB ⊢
  have b1 := below_lay w (.cells #[.bool ym, .int .u8 yk, .int .u16 yq, .int .u32 yt, .int .u32 yo, .slice A n c] 26)
  have b2 := b1.trans ((below_lay (w.alloc (.cells #[.bool ym, .int .u8 yk, .int .u16 yq, .int .u32 yt, .int .u32 yo, .slice A n c] 26)) (.cells #[.bool ym, .int .u8 yk, .int .u16 yq, .int .u32 yt, .int .u32 yo, .slice B m d] 32)).mono b1.size)
  have KS := keep (same_ret A B n m c d yb yb _ (hA.step b2) (hB.step b2))
  rw [beq_self_eq_true] at KS
  have HB := keep b2
  clear b1 b2 hA hB
  go_enter Try.func15, Try.ntmps15
  go_wp2_with fail
  refine KS.out.mono ?_
  rintro e w2 ⟨rfl, rfl⟩
  go_wp2
  go_ret
  exact ⟨rfl, HB.out⟩
/-! ### There and back -/
/-- Numbers in their bounds. -/
def Pk.Ok (y : Pk) : Prop := (0 ≤ y.kd ∧ y.kd < 256) ∧ (0 ≤ y.sq ∧ y.sq < 65536) ∧ (0 ≤ y.st ∧ y.st < 4294967296) ∧ (0 ≤ y.so ∧ y.so < 4294967296)
theorem numB1 (a : UInt8) : numB [a] = a.toNat := by simp [numB]
theorem numB2 (a b : UInt8) : numB [a, b] = a.toNat * 256 + b.toNat := by simp [numB]
theorem numB4 (a b c d : UInt8) : numB [a, b, c, d] = ((a.toNat * 256 + b.toNat) * 256 + c.toNat) * 256 + d.toNat := by simp [numB]
theorem fE_zero {kd : Int} {n : Nat} (h : fE kd n = 0) : kd < 128 ∧ n ≤ 1188 := by
  unfold fE at h
  split at h
  · cases h
  · split at h
    · cases h
    · exact ⟨by omega, by omega⟩
theorem dec_enc {y : Pk} (h : y.Ok) (hf : fE y.kd y.bs.length = 0) : decE (encH y ++ y.bs) = 0 ∧ decK (encH y ++ y.bs) = y ∧ isB (encH y ++ y.bs) = true ∧ (encH y ++ y.bs).length = 12 + y.bs.length := by
  obtain ⟨ym, yk, yq, yt, yo, yb⟩ := y
  obtain ⟨h1, h2, h3, h4⟩ := h
  obtain ⟨f1, f2⟩ := fE_zero hf
  dsimp only at h1 h2 h3 h4 f1 f2
  have hlen : (encH ⟨ym, yk, yq, yt, yo, yb⟩ ++ yb).length = 12 + yb.length := by rw [List.length_append, encH_len]
  have hb0 : b8 128 = 128 := by kernel_rfl
  refine ⟨?_, ?_, ?_, hlen⟩
  · unfold decE
    rw [if_neg (by rw [hlen]; omega), if_neg (by rw [hlen]; omega), if_neg]
    show ¬ (b8 128 ≠ 128)
    rw [hb0]
    exact fun h => h rfl
  · obtain ⟨s2, hs2⟩ : ∃ s2, secI ⟨ym, yk, yq, yt, yo, yb⟩ = s2 := ⟨_, rfl⟩
    have hs2r : 0 ≤ s2 ∧ s2 < 256 := by rw [← hs2]; unfold secI; dsimp only; split <;> omega
    have e1 : d1 (encH ⟨ym, yk, yq, yt, yo, yb⟩ ++ yb) = (b8 s2).toNat := by
      unfold d1 encH
      rw [hs2]
      exact numB1 _
    have e2 : numB (((encH ⟨ym, yk, yq, yt, yo, yb⟩ ++ yb).drop 2).take 2) = (b8 (yq / 256)).toNat * 256 + (b8 yq).toNat := numB2 _ _
    have e3 : numB (((encH ⟨ym, yk, yq, yt, yo, yb⟩ ++ yb).drop 4).take 4) = (((b8 (yt / 16777216)).toNat * 256 + (b8 (yt / 65536)).toNat) * 256 + (b8 (yt / 256)).toNat) * 256 + (b8 yt).toNat := numB4 _ _ _ _
    have e4 : numB (((encH ⟨ym, yk, yq, yt, yo, yb⟩ ++ yb).drop 8).take 4) = (((b8 (yo / 16777216)).toNat * 256 + (b8 (yo / 65536)).toNat) * 256 + (b8 (yo / 256)).toNat) * 256 + (b8 yo).toNat := numB4 _ _ _ _
    have e5 : (encH ⟨ym, yk, yq, yt, yo, yb⟩ ++ yb).drop 12 = yb := rfl
    unfold decK
    rw [e1, e2, e3, e4, e5]
    have t1 := b8_toNat s2
    have t2 := b8_toNat (yq / 256)
    have t3 := b8_toNat yq
    have t4 := b8_toNat (yt / 16777216)
    have t5 := b8_toNat (yt / 65536)
    have t6 := b8_toNat (yt / 256)
    have t7 := b8_toNat yt
    have t8 := b8_toNat (yo / 16777216)
    have t9 := b8_toNat (yo / 65536)
    have ta := b8_toNat (yo / 256)
    have tb := b8_toNat yo
    have m1 : decide (128 ≤ (((b8 s2).toNat : Nat) : Int)) = ym := by
      rw [t1]
      cases ym with
      | false => have : s2 = yk := by rw [← hs2]; rfl
                 exact decide_eq_false (by omega)
      | true => have : s2 = yk + 128 := by rw [← hs2]; rfl
                exact decide_eq_true (by omega)
    have m2 : ((((b8 s2).toNat : Nat) : Int)) % 128 = yk := by
      rw [t1]
      cases ym with
      | false => have : s2 = yk := by rw [← hs2]; rfl
                 omega
      | true => have : s2 = yk + 128 := by rw [← hs2]; rfl
                omega
    rw [m1, m2]
    congr 1
    · omega
    · omega
    · omega
  · show decide ((b8 128).toNat / 64 = 2) = true
    rw [hb0]
    rfl
theorem b8_at (a : UInt8) {n : Int} (h : n % 256 = (a.toNat : Int)) : b8 n = a := by
  rw [← b8_mod, h, b8_back]
theorem enc_dec {bs : List UInt8} (h : decE bs = 0) : (decK bs).Ok ∧ fE (decK bs).kd (decK bs).bs.length = 0 ∧ encH (decK bs) ++ (decK bs).bs = bs := by
  have hb : 12 ≤ bs.length ∧ bs.length ≤ 1200 ∧ bs.headD 0 = 128 := by
    unfold decE at h
    split at h
    · cases h
    · split at h
      · cases h
      · split at h
        · cases h
        · rename_i a b c
          exact ⟨by omega, by omega, Decidable.of_not_not c⟩
  obtain ⟨h1, h2, h3⟩ := hb
  match bs, h1, h2, h3 with
  | a0 :: a1 :: a2 :: a3 :: a4 :: a5 :: a6 :: a7 :: a8 :: a9 :: aa :: ab :: t, _, h2, h3 =>
    have h3' : a0 = 128 := h3
    subst h3'
    have e : decK (128 :: a1 :: a2 :: a3 :: a4 :: a5 :: a6 :: a7 :: a8 :: a9 :: aa :: ab :: t) = ⟨decide (128 ≤ ((a1.toNat : Nat) : Int)), ((a1.toNat : Nat) : Int) % 128, ((a2.toNat * 256 + a3.toNat : Nat) : Int), ((((a4.toNat * 256 + a5.toNat) * 256 + a6.toNat) * 256 + a7.toNat : Nat) : Int), ((((a8.toNat * 256 + a9.toNat) * 256 + aa.toNat) * 256 + ab.toNat : Nat) : Int), t⟩ := by
      unfold decK d1
      rw [show ((128 :: a1 :: a2 :: a3 :: a4 :: a5 :: a6 :: a7 :: a8 :: a9 :: aa :: ab :: t : List UInt8).drop 1).take 1 = [a1] from rfl, show ((128 :: a1 :: a2 :: a3 :: a4 :: a5 :: a6 :: a7 :: a8 :: a9 :: aa :: ab :: t : List UInt8).drop 2).take 2 = [a2, a3] from rfl, show ((128 :: a1 :: a2 :: a3 :: a4 :: a5 :: a6 :: a7 :: a8 :: a9 :: aa :: ab :: t : List UInt8).drop 4).take 4 = [a4, a5, a6, a7] from rfl, show ((128 :: a1 :: a2 :: a3 :: a4 :: a5 :: a6 :: a7 :: a8 :: a9 :: aa :: ab :: t : List UInt8).drop 8).take 4 = [a8, a9, aa, ab] from rfl, numB1, numB2, numB4, numB4]
      rfl
    have q1 := a1.toNat_lt
    have q2 := a2.toNat_lt
    have q3 := a3.toNat_lt
    have q4 := a4.toNat_lt
    have q5 := a5.toNat_lt
    have q6 := a6.toNat_lt
    have q7 := a7.toNat_lt
    have q8 := a8.toNat_lt
    have q9 := a9.toNat_lt
    have qa := aa.toNat_lt
    have qb := ab.toNat_lt
    have hl : t.length ≤ 1188 := by simp only [List.length_cons] at h2; omega
    rw [e]
    refine ⟨⟨by dsimp only; omega, by dsimp only; omega, by dsimp only; omega, by dsimp only; omega⟩, ?_, ?_⟩
    · unfold fE
      dsimp only
      rw [if_neg (by omega), if_neg (by omega)]
    · unfold encH secI
      dsimp only
      have s1 : (if decide (128 ≤ ((a1.toNat : Nat) : Int)) = true then ((a1.toNat : Nat) : Int) % 128 + 128 else ((a1.toNat : Nat) : Int) % 128) = ((a1.toNat : Nat) : Int) := by
        split
        · rename_i hh
          have := of_decide_eq_true hh
          omega
        · rename_i hh
          have : ¬ (128 ≤ ((a1.toNat : Nat) : Int)) := fun q => hh (decide_eq_true q)
          omega
      rw [s1, b8_back, show b8 128 = 128 by kernel_rfl, b8_at a2 (n := ((a2.toNat * 256 + a3.toNat : Nat) : Int) / 256) (by omega), b8_at a3 (n := ((a2.toNat * 256 + a3.toNat : Nat) : Int)) (by omega)]
      rw [b8_at a4 (n := ((((a4.toNat * 256 + a5.toNat) * 256 + a6.toNat) * 256 + a7.toNat : Nat) : Int) / 16777216) (by omega), b8_at a5 (n := ((((a4.toNat * 256 + a5.toNat) * 256 + a6.toNat) * 256 + a7.toNat : Nat) : Int) / 65536) (by omega), b8_at a6 (n := ((((a4.toNat * 256 + a5.toNat) * 256 + a6.toNat) * 256 + a7.toNat : Nat) : Int) / 256) (by omega), b8_at a7 (n := ((((a4.toNat * 256 + a5.toNat) * 256 + a6.toNat) * 256 + a7.toNat : Nat) : Int)) (by omega)]
      rw [b8_at a8 (n := ((((a8.toNat * 256 + a9.toNat) * 256 + aa.toNat) * 256 + ab.toNat : Nat) : Int) / 16777216) (by omega), b8_at a9 (n := ((((a8.toNat * 256 + a9.toNat) * 256 + aa.toNat) * 256 + ab.toNat : Nat) : Int) / 65536) (by omega), b8_at aa (n := ((((a8.toNat * 256 + a9.toNat) * 256 + aa.toNat) * 256 + ab.toNat : Nat) : Int) / 256) (by omega), b8_at ab (n := ((((a8.toNat * 256 + a9.toNat) * 256 + aa.toNat) * 256 + ab.toNat : Nat) : Int)) (by omega)]
      rfl
end Go.Proofs.Ytacmfoljbjdcjaa
