/- Package dcep: Decode. -/
import Derived.Test.YtapaiknghnbfmaaDoorD4
import Derived.Test.YtapaiknghnbfmaaDoorRf1
namespace Go.Proofs.YtapaiknghnbfmaaDoor
open Go.RowKit
set_option linter.unusedVariables false

/-- The opening that octets say. -/
def decF (bs : List UInt8) : OV := ⟨hK bs, hP bs, hL bs, ⟨((bs.drop 12).take (hN bs)).toArray⟩, ⟨((bs.drop 12).drop (hN bs)).toArray⟩⟩
def decE (bs : List UInt8) : Int :=
  if bs ≠ [] ∧ bs.headD 0 ≠ 3 then 3 else if bs.length < 12 then 2 else if 256 < hN bs ∨ 256 < hM bs then 10
  else if bs.length - 12 < hN bs + hM bs then 2 else if hN bs + hM bs < bs.length - 12 then 3 else if wrongB (decF bs) = true then 1 else 0
def decO (bs : List UInt8) : OV := if decE bs = 0 then decF bs else oZ
def DecP (bs : List UInt8) (w : World) (e : Ending) (w' : World) : Prop := e = .returned (.tuple #[.agg (decO bs).cells.toArray, .int .i64 (decE bs)]) ∧ Below w.heap.size w w'
theorem decP_bad {bs : List UInt8} {w w' : World} {e : Ending} {x : Int} (h : decE bs = x) (hx : x ≠ 0) (he : e = .returned (.tuple #[.agg oZ.cells.toArray, .int .i64 x])) (hb : Below w.heap.size w w') : DecP bs w e w' := by
  refine ⟨?_, hb⟩
  have h1 : decO bs = oZ := by unfold decO; rw [h, if_neg hx]
  rw [h1, h]
  exact he
theorem decP_ok {bs : List UInt8} {w w' : World} {e : Ending} (h : decE bs = 0) (he : e = .returned (.tuple #[.agg (decF bs).cells.toArray, .int .i64 0])) (hb : Below w.heap.size w w') : DecP bs w e w' := by
  refine ⟨?_, hb⟩
  have h1 : decO bs = decF bs := by unfold decO; rw [h, if_pos rfl]
  rw [h1, h]
  exact he
theorem decE_form {bs : List UInt8} (h1 : bs ≠ []) (h2 : bs.headD 0 ≠ 3) : decE bs = 3 := by unfold decE; rw [if_pos ⟨h1, h2⟩]
theorem decE_short {bs : List UInt8} (h1 : ¬ (bs ≠ [] ∧ bs.headD 0 ≠ 3)) (h2 : bs.length < 12) : decE bs = 2 := by unfold decE; rw [if_neg h1, if_pos h2]
theorem decE_large {bs : List UInt8} (h1 : ¬ (bs ≠ [] ∧ bs.headD 0 ≠ 3)) (h2 : ¬ bs.length < 12) (h3 : 256 < hN bs ∨ 256 < hM bs) : decE bs = 10 := by unfold decE; rw [if_neg h1, if_neg h2, if_pos h3]
theorem decE_rest {bs : List UInt8} (h1 : ¬ (bs ≠ [] ∧ bs.headD 0 ≠ 3)) (h2 : ¬ bs.length < 12) (h3 : ¬ (256 < hN bs ∨ 256 < hM bs)) : decE bs = if bs.length - 12 < hN bs + hM bs then 2 else if hN bs + hM bs < bs.length - 12 then 3 else if wrongB (decF bs) = true then 1 else 0 := by unfold decE; rw [if_neg h1, if_neg h2, if_neg h3]
theorem u8_beq (x : UInt8) (k : Nat) (hk : k < 256) : ((x.toNat : Int) == (k : Int)) = (x == UInt8.ofNat k) := by
  rw [Bool.eq_iff_iff]
  simp only [beq_iff_eq]
  constructor
  · intro h
    apply UInt8.toNat.inj
    have : x.toNat = k := by omega
    rw [this, UInt8.toNat_ofNat']
    omega
  · rintro rfl
    rw [UInt8.toNat_ofNat']
    omega
set_option maxHeartbeats 4000000 in
theorem decode_early (A : Option Addr) (n c : Nat) (bs : List UInt8) (w : World) (hb : BS w A n c bs) (hn : n ≤ 100000) (h : (bs ≠ [] ∧ bs.headD 0 ≠ 3) ∨ bs.length < 12) :
    Calls Tryd.prog 16 #[.slice A n c] w (DecP bs w) := by
  have l1 := keep (below_lay w (.cells oZ.cells.toArray 25))
  have R1 := keep (SB.laid w oZ)
  have hl := hb.len
  by_cases h0 : bs = []
  · subst h0
    obtain rfl : n = 0 := hl
    have hE : decE [] = 2 := rfl
    go_enter Tryd.func16, Tryd.ntmps16
    go_wp2_with fail
    refine bodyPost_ret (ret_op1 rfl _ _ w.heap.size oZ rfl ?_) rfl (decP_bad hE (by decide) rfl ?_)
    · exact R1.out
    · exact l1.out
  · obtain ⟨b, o, rfl, hlt, hc0⟩ := hb.br.at_ (j := 0) (List.length_pos_iff.2 h0)
    have hn0 : (0 : Int) < (n : Int) := by have := List.length_pos_iff.2 h0; omega
    obtain ⟨x, r, rfl⟩ : ∃ x r, bs = x :: r := by cases bs with
      | nil => exact absurd rfl h0
      | cons x r => exact ⟨x, r, rfl⟩
    have hc1 : (w.alloc (.cells oZ.cells.toArray 25)).cell? ⟨b, o, none⟩ = some (.int .u8 (x.toNat : Int)) := by
      have := (l1.out.cell (p := ⟨b, o + 0, none⟩) hlt).trans hc0
      simpa [bc] using this
    have hl2 : n = r.length + 1 := by simpa using hl
    by_cases hx : x = 3
    · subst hx
      have hE : decE (3 :: r) = 2 := by
        refine decE_short (by simp) ?_
        rcases h with ⟨_, h⟩ | h
        · exact absurd rfl h
        · exact h
      have hlt12 : (n : Int) < 12 := by
        rcases h with ⟨_, h⟩ | h
        · exact absurd rfl h
        · have h' : (3 :: r).length < 12 := h
          rw [List.length_cons] at h'
          omega
      have hc2 : (w.alloc (.cells oZ.cells.toArray 25)).cell? ⟨b, o, none⟩ = some (.int .u8 3) := hc1
      dsimp only [oZ, OV.cells] at hc2
      clear hc0 hc1 hb h hl hl2
      go_enter Tryd.func16, Tryd.ntmps16
      go_wp2_with fail
      refine bodyPost_ret (ret_op1 rfl _ _ w.heap.size oZ rfl ?_) rfl (decP_bad hE (by decide) rfl ?_)
      · exact R1.out
      · exact l1.out
    · have hE : decE (x :: r) = 3 := decE_form (by simp) (by simpa using hx)
      have hx3 : ((x.toNat : Int) == 3) = false := by
        have := u8_beq x 3 (by decide)
        rw [show ((3 : Nat) : Int) = 3 from rfl] at this
        rw [this]
        simpa using hx
      have hx4 : ((x.toNat : Int) != 3) = true := by rw [bne, hx3]; rfl
      dsimp only [oZ, OV.cells] at hc1
      clear hc0 hb h hl hl2
      go_enter Tryd.func16, Tryd.ntmps16
      go_wp2_with fail
      refine bodyPost_ret (ret_op1 rfl _ _ w.heap.size oZ rfl ?_) rfl (decP_bad hE (by decide) rfl ?_)
      · exact R1.out
      · exact l1.out
theorem hK_take (bs : List UInt8) : hK (bs.take 12) = hK bs ∧ hP (bs.take 12) = hP bs ∧ hL (bs.take 12) = hL bs ∧ hN (bs.take 12) = hN bs ∧ hM (bs.take 12) = hM bs := by
  unfold hK hP hL hN hM
  simp only [List.drop_take, List.take_take]
  exact ⟨rfl, rfl, rfl, rfl, rfl⟩
-- LATE
theorem ba_size (l : List UInt8) : (⟨l.toArray⟩ : ByteArray).size = l.length := by simp [ByteArray.size]
theorem dec_ok (bs : List UInt8) (h : 12 ≤ bs.length) (hn : bs.length ≤ 100000) : (decF bs).Ok := by
  have h1 : numB ((bs.drop 1).take 1) < 256 ^ 1 := num_lt bs 1 1 (by omega)
  have h2 : numB ((bs.drop 2).take 2) < 256 ^ 2 := num_lt bs 2 2 (by omega)
  have h3 : numB ((bs.drop 4).take 4) < 256 ^ 4 := num_lt bs 4 4 (by omega)
  refine ⟨?_, ?_, ?_, ?_, ?_⟩
  · show 0 ≤ hK bs ∧ hK bs < 256
    unfold hK; omega
  · show 0 ≤ hP bs ∧ hP bs < 65536
    unfold hP; omega
  · show 0 ≤ hL bs ∧ hL bs < 4294967296
    unfold hL; omega
  · show (⟨((bs.drop 12).take (hN bs)).toArray⟩ : ByteArray).size ≤ _
    rw [ba_size, List.length_take, List.length_drop]
    omega
  · show (⟨((bs.drop 12).drop (hN bs)).toArray⟩ : ByteArray).size ≤ _
    rw [ba_size, List.length_drop, List.length_drop]
    omega
theorem conv_str {W : World} {A : Option Addr} {m d : Nat} {l : List UInt8} (h : BS W A m d l) : (convert 27 9 (.slice A m d)).run Tryd.prog W = .ok (.string ⟨l.toArray⟩) W := by
  have := run_bytes_str W 27 5 Tryd.underlying27 Tryd.underlying5 A l d h.br 9 Tryd.underlying9
  rw [← h.len] at this
  exact this
set_option maxHeartbeats 8000000 in
theorem decode_late1 (A : Option Addr) (n c : Nat) (bs : List UInt8) (w : World) (hb : BS w A n c bs) (hn : n ≤ 100000) (hT : Tabs w) (h12 : 12 ≤ bs.length) (h3 : bs.headD 0 = 3) (hc12 : c = 12) :
    Calls Tryd.prog 16 #[.slice A n c] w (DecP bs w) := by
  have l1 := keep (below_lay w (.cells oZ.cells.toArray 25))
  have R1 := keep (SB.laid w oZ)
  have hl := hb.len
  have hcap := hb.cap
  have HC12 := keep hc12
  clear hc12
  have h0 : bs ≠ [] := by intro h; rw [h] at h12; simp at h12
  have HE := keep (show ¬ (bs ≠ [] ∧ bs.headD 0 ≠ 3) from fun h => h.2 h3)
  obtain ⟨b, o, rfl, hlt, hc0⟩ := hb.br.at_ (j := 0) (List.length_pos_iff.2 h0)
  have hn0 : (0 : Int) < (n : Int) := by omega
  have hn12 : ((n : Int) < 12) = False := by simp; omega
  have hnI : (12 : Int) ≤ (n : Int) := by omega
  have hc1 : (w.alloc (.cells oZ.cells.toArray 25)).cell? ⟨b, o, none⟩ = some (.int .u8 3) := by
    have := (l1.out.cell (p := ⟨b, o + 0, none⟩) hlt).trans hc0
    cases bs with
    | nil => exact absurd rfl h0
    | cons x r =>
      have hx : x = 3 := h3
      subst hx
      simpa [bc] using this
  dsimp only [oZ, OV.cells] at hc1
  have KH := readHead_any (some ⟨b, o, none⟩) c (bs.take 12) _ ((hb.step l1.out).take 12 c (by omega) (by omega))
  obtain ⟨k1, k2, k3, k4, k5⟩ := hK_take bs
  rw [k1, k2, k3, k4, k5] at KH
  clear k1 k2 k3 k4 k5
  obtain ⟨vn, hvn⟩ : ∃ v, hN bs = v := ⟨_, rfl⟩
  obtain ⟨vm, hvm⟩ : ∃ v, hM bs = v := ⟨_, rfl⟩
  rw [hvn, hvm] at KH
  obtain ⟨vk, hvk⟩ : ∃ v, hK bs = v := ⟨_, rfl⟩
  obtain ⟨vp, hvp⟩ : ∃ v, hP bs = v := ⟨_, rfl⟩
  obtain ⟨vl, hvl⟩ : ∃ v, hL bs = v := ⟨_, rfl⟩
  rw [hvk, hvp, hvl] at KH
  have HVO := keep (And.intro hvk (And.intro hvp hvl))
  dsimp only [OV.cells] at KH
  have KH := keep KH
  have HLN := keep hl
  have hN9 := hN_lt bs h12
  have hM9 := hM_lt bs h12
  rw [hvn] at hN9
  rw [hvm] at hM9
  obtain ⟨la, hla⟩ : ∃ x : ByteArray, (⟨((bs.drop 12).take vn).toArray⟩ : ByteArray) = x := ⟨_, rfl⟩
  obtain ⟨pr, hpr⟩ : ∃ x : ByteArray, (⟨((bs.drop 12).drop vn).toArray⟩ : ByteArray) = x := ⟨_, rfl⟩
  have HLA := keep (And.intro hla hpr)
  clear hla hpr
  have HB := keep hb
  have HVN := keep hvn
  have HVM := keep hvm
  clear hc0 hb h0 hvn hvm h3 hvk hvp hvl hl h12
  go_enter Tryd.func16, Tryd.ntmps16
  go_wp2_with (go_at_call 43; refine KH.out.mono ?_; rintro e w1 ⟨rfl, hb1⟩; replace hb1 := keep hb1)
  all_goals first | (exfalso; have := HC12.out; omega) | skip
  all_goals
    have HX := keep (show ∀ W, Below w.heap.size w W → BS W (some ⟨b, o, none⟩) (n - 12) 0 (bs.drop 12) from fun W hW => by
      have h1 := (HB.out.step hW).drop 12 (by omega)
      first
      | (rw [if_pos rfl] at h1; exact h1)
      | (rw [if_pos HC12.out, show c - 12 = 0 by have := HC12.out; omega] at h1; exact h1))
    have B2 := keep ((l1.out.trans (hb1.out.mono l1.out.size)).alloc (l1.out.trans (hb1.out.mono l1.out.size)).size (.cells #[.int .u8 vk, .int .u16 vp, .int .u32 vl, .string ⟨#[]⟩, .string ⟨#[]⟩] 25))
    have R2 := keep ((R1.out.step hb1.out).step (below_lay w1 (.cells #[.int .u8 vk, .int .u16 vp, .int .u32 vl, .string ⟨#[]⟩, .string ⟨#[]⟩] 25)))
    have S2 := keep (SB.laid w1 ⟨vk, vp, vl, ⟨#[]⟩, ⟨#[]⟩⟩)
    have HNS := keep (show w.heap.size < w1.heap.size by have := (R1.out.step hb1.out).lt; exact this)
    dsimp only [OV.cells] at S2
    obtain ⟨W2, hW2⟩ : ∃ W2, w1.alloc (.cells #[.int .u8 vk, .int .u16 vp, .int .u32 vl, .string ⟨#[]⟩, .string ⟨#[]⟩] 25) = W2 := ⟨_, rfl⟩
    rw [hW2] at B2 R2 S2 ⊢
    obtain ⟨S, hS⟩ : ∃ S, w1.heap.size = S := ⟨_, rfl⟩
    rw [hS] at S2 HNS ⊢
    clear hS hW2 hb1 R1 KH hc1
    obtain ⟨z0, z1, z2, z3, z4⟩ := R2.out.ob
    dsimp only [oZ] at z0 z1 z2 z3 z4
    have y0 := R2.out.fz 0
    have y1 := R2.out.fz 1
    have y2 := R2.out.fz 2
    have y3 := R2.out.fz 3
    have y4 := R2.out.fz 4
    by_cases hbig : 256 < vn ∨ 256 < vm
    · have hE : decE bs = 10 := decE_large HE.out (by have := HLN.out; omega) (by rw [HVN.out, HVM.out]; exact hbig)
      by_cases hv : 256 < vn
      · have hv1 : decide ((256 : Int) < (vn : Int)) = true := decide_eq_true (by omega)
        refine (tooLong_any _ _).mono ?_
        rintro e w' ⟨rfl, rfl⟩
        go_wp2_with fail
        exact bodyPost_ret (ret_op1 rfl _ _ w.heap.size oZ rfl (R2.out.laid5 oZ)) rfl (decP_bad hE (by decide) rfl (below5 B2.out (Nat.le_refl _) _ _ _ _ _))
      · have hv1 : decide ((256 : Int) < (vn : Int)) = false := decide_eq_false (by omega)
        have hv2 : decide ((256 : Int) < (vm : Int)) = true := decide_eq_true (by omega)
        refine (tooLong_any _ _).mono ?_
        rintro e w' ⟨rfl, rfl⟩
        go_wp2_with (go_at_call 37; refine (tooLong_any _ _).mono ?_; rintro e w' ⟨rfl, rfl⟩)
        exact bodyPost_ret (ret_op1 rfl _ _ w.heap.size oZ rfl (R2.out.laid5 oZ)) rfl (decP_bad hE (by decide) rfl (below5 B2.out (Nat.le_refl _) _ _ _ _ _))
    · have hR := decE_rest HE.out (by have := HLN.out; omega) (by rw [HVN.out, HVM.out]; exact hbig)
      rw [HVN.out, HVM.out, ← HLN.out] at hR
      have HRR := keep hR
      clear hR
      have hv1 : decide ((256 : Int) < (vn : Int)) = false := decide_eq_false (by omega)
      have hv2 : decide ((256 : Int) < (vm : Int)) = false := decide_eq_false (by omega)
      by_cases hsh : n - 12 < vn + vm
      · have hE : decE bs = 2 := by rw [HRR.out, if_pos hsh]
        refine (tooLong_any _ _).mono ?_
        rintro e w' ⟨rfl, rfl⟩
        go_wp2_with (go_at_call 37; refine (tooLong_any _ _).mono ?_; rintro e w' ⟨rfl, rfl⟩)
        exact bodyPost_ret (ret_op1 rfl _ _ w.heap.size oZ rfl (R2.out.laid5 oZ)) rfl (decP_bad hE (by decide) rfl (below5 B2.out (Nat.le_refl _) _ _ _ _ _))
      · by_cases hlo : vn + vm < n - 12
        · have hE : decE bs = 3 := by rw [HRR.out, if_neg hsh, if_pos hlo]
          refine (tooLong_any _ _).mono ?_
          rintro e w' ⟨rfl, rfl⟩
          go_wp2_with (go_at_call 37; refine (tooLong_any _ _).mono ?_; rintro e w' ⟨rfl, rfl⟩)
          all_goals exact bodyPost_ret (ret_op1 rfl _ _ w.heap.size oZ rfl (R2.out.laid5 oZ)) rfl (decP_bad hE (by decide) rfl (below5 B2.out (Nat.le_refl _) _ _ _ _ _))
        · have hE : decE bs = if wrongB (decF bs) = true then 1 else 0 := by rw [HRR.out, if_neg hsh, if_neg hlo]
          have HEE := keep hE
          have hsum : n = vn + vm + 12 := by omega
          clear hE
          refine (tooLong_any _ _).mono ?_
          rintro e w' ⟨rfl, rfl⟩
          clear z0 z1 z2 z3 z4 y0 y1 y2 y3 y4
          go_wp2_with (go_at_call 37; refine (tooLong_any _ _).mono ?_; rintro e w' ⟨rfl, rfl⟩)
          obtain rfl : vn = 0 := by omega
          obtain rfl : vm = 0 := by omega
          have epr : pr = la := by
            rw [← HLA.out.1, ← HLA.out.2, show bs.drop 12 = [] from List.drop_eq_nil_of_le (by have := HLN.out; have := HB.out.cap; have := HC12.out; omega)]
            rfl
          subst epr
          have B2d := keep B2.out.drew
          have R2d := keep (R2.out.step (Below.refl _ _).drew)
          have S2d := keep (S2.out.step (Below.refl _ _).drew)
          have HS0 := keep (show ∀ W, Below w.heap.size w W → (convert 27 9 (.slice (some ⟨b, o, none⟩) 0 0)).run Tryd.prog W = .ok (.string pr) W ∧ (convert 27 9 (.slice (some ⟨b, o, none⟩) 0 0)).run Tryd.prog W = .ok (.string pr) W from fun W hW => by rw [← HLA.out.1]; exact ⟨conv_str ((HX.out W hW).take 0 0 (by omega) (by omega)), conv_str ((HX.out W hW).take 0 0 (by omega) (by omega))⟩)
          refine wp_region_held_drew (S := (fun w' => (convert 27 9 (.slice (some ⟨b, o, none⟩) 0 0)).run Tryd.prog w' = .ok (.string pr) w' ∧ (convert 27 9 (.slice (some ⟨b, o, none⟩) 0 0)).run Tryd.prog w' = .ok (.string pr) w')) (by kernel_rfl) (HS0.out _ B2d.out) (fun hHeld => ?_)
          refine wpAnyH_take (i := 0) (oi := ⟨some 57, _, _, _, _, _⟩) (v := ?vd11x0) rfl (by kernel_rfl) (by kernel_rfl) (by kernel_rfl) (fun _ _ _ h => h) (Or.inl ⟨by rfl, ?hyd11x0⟩) (by assumption) ?restd11x0
          case hyd11x0 => (intro wz hSw; obtain ⟨hs1, hs2⟩ := hSw; go_simp <;> (try with_reducible rfl))
          try simp only [Act.put, List.setIfInBounds_toArray, List.set_cons_zero, List.set_cons_succ]
          refine wpAnyH_take (i := 1) (oi := ⟨some 58, _, _, _, _, _⟩) (v := ?vd12x1) rfl (by kernel_rfl) (by kernel_rfl) (by kernel_rfl) (fun _ _ _ h => h) (Or.inl ⟨by rfl, ?hyd12x1⟩) (by assumption) ?restd12x1
          case hyd12x1 => (intro wz hSw; obtain ⟨hs1, hs2⟩ := hSw; go_simp <;> (try with_reducible rfl))
          try simp only [Act.put, List.setIfInBounds_toArray, List.set_cons_zero, List.set_cons_succ]
          refine wpAnyH_take (i := 4) (oi := ⟨some 61, _, _, _, _, _⟩) (v := ?vd13x4) rfl (by kernel_rfl) (by kernel_rfl) (by kernel_rfl) (fun _ _ _ h => h) (Or.inl ⟨by rfl, ?hyd13x4⟩) (by assumption) ?restd13x4
          case hyd13x4 => (intro wz hSw; obtain ⟨hs1, hs2⟩ := hSw; go_simp <;> (try with_reducible rfl))
          try simp only [Act.put, List.setIfInBounds_toArray, List.set_cons_zero, List.set_cons_succ]
          refine wpAnyH_take (i := 5) (oi := ⟨some 62, _, _, _, _, _⟩) (v := ?vd14x5) rfl (by kernel_rfl) (by kernel_rfl) (by kernel_rfl) (fun _ _ _ h => h) (Or.inl ⟨by rfl, ?hyd14x5⟩) (by assumption) ?restd14x5
          case hyd14x5 => (intro wz hSw; obtain ⟨hs1, hs2⟩ := hSw; go_simp <;> (try with_reducible rfl))
          try simp only [Act.put, List.setIfInBounds_toArray, List.set_cons_zero, List.set_cons_succ]
          refine wpAnyH_take (i := 2) (oi := ⟨some 59, _, _, _, _, _⟩) (v := ?vd15x2) rfl (by kernel_rfl) (by kernel_rfl) (by kernel_rfl) (fun _ _ _ h => h) (Or.inl ⟨by rfl, ?hyd15x2⟩) (by assumption) ?restd15x2
          case hyd15x2 => (intro wz hSw; obtain ⟨hs1, hs2⟩ := hSw; go_simp <;> (try with_reducible rfl))
          try simp only [Act.put, List.setIfInBounds_toArray, List.set_cons_zero, List.set_cons_succ]
          refine wpAnyH_take (i := 6) (oi := ⟨some 63, _, _, _, _, _⟩) (v := ?vd16x6) rfl (by kernel_rfl) (by kernel_rfl) (by kernel_rfl) (fun _ _ _ h => h) (Or.inl ⟨by rfl, ?hyd16x6⟩) (by assumption) ?restd16x6
          case hyd16x6 => (intro wz hSw; obtain ⟨hs1, hs2⟩ := hSw; go_simp <;> (try with_reducible rfl))
          try simp only [Act.put, List.setIfInBounds_toArray, List.set_cons_zero, List.set_cons_succ]
          refine wpAnyH_take (i := 3) (oi := ⟨some 60, _, _, _, _, _⟩) (v := ?vd17x3) rfl (by kernel_rfl) (by kernel_rfl) (by kernel_rfl) (fun _ _ _ h => h) (Or.inl ⟨by rfl, ?hyd17x3⟩) (by assumption) ?restd17x3
          case hyd17x3 => (intro wz hSw; obtain ⟨hs1, hs2⟩ := hSw; go_simp <;> (try with_reducible rfl))
          try simp only [Act.put, List.setIfInBounds_toArray, List.set_cons_zero, List.set_cons_succ]
          refine wpAnyH_take (i := 7) (oi := ⟨some 64, _, _, _, _, _⟩) (v := ?vd18x7) rfl (by kernel_rfl) (by kernel_rfl) (by kernel_rfl) (fun _ _ _ h => h) (Or.inl ⟨by rfl, ?hyd18x7⟩) (by assumption) ?restd18x7
          case hyd18x7 => (intro wz hSw; obtain ⟨hs1, hs2⟩ := hSw; go_simp <;> (try with_reducible rfl))
          try simp only [Act.put, List.setIfInBounds_toArray, List.set_cons_zero, List.set_cons_succ]
          refine wpAnyH_take (i := 8) (oi := ⟨some 65, _, _, _, _, _⟩) (v := ?vd19x8) rfl (by kernel_rfl) (by kernel_rfl) (by kernel_rfl) (fun _ _ _ h => h) (Or.inl ⟨by rfl, ?hyd19x8⟩) (by assumption) ?restd19x8
          case hyd19x8 => (intro wz hSw; obtain ⟨hs1, hs2⟩ := hSw; go_simp <;> (try with_reducible rfl))
          try simp only [Act.put, List.setIfInBounds_toArray, List.set_cons_zero, List.set_cons_succ]
          have c3 := S2d.out.ob.c3
          have f3 := S2d.out.fz 3
          dsimp only at c3
          refine wpAnyH_ready (rs := [9]) (by kernel_rfl) (by simp) (AllReadyH.cons (o := ⟨none, _, _, _, _, _⟩) rfl (fun K hK => ?_) AllReadyH.nil)
          go_simp
          refine hK.out _ _ (HS0.out _ (B2d.out.setCell (p := ⟨S, 3, none⟩) (Nat.le_of_lt HNS.out) _)) (fun hHeld => ?_)
          clear hK K
          try simp only [Act.put, List.setIfInBounds_toArray, List.set_cons_zero, List.set_cons_succ]
          have S3 := keep (S2d.out.put3 pr)
          have R3 := keep (R2d.out.else_ (k := S) (j := 3) (Nat.ne_of_lt HNS.out) (.string pr))
          have B3 := keep (B2d.out.setCell (p := ⟨S, 3, none⟩) (Nat.le_of_lt HNS.out) (.string pr))
          obtain ⟨W3, hW3⟩ : ∃ W3, (W2.setCell ⟨S, 3, none⟩ (.string pr)).drew = W3 := ⟨_, rfl⟩
          replace S3 := keep (show SB W3 S ⟨vk, vp, vl, pr, ⟨#[]⟩⟩ by rw [← hW3]; exact S3.out)
          replace R3 := keep (show SB W3 w.heap.size oZ by rw [← hW3]; exact R3.out)
          replace B3 := keep (show Below w.heap.size w W3 by rw [← hW3]; exact B3.out)
          simp only [hW3] at hHeld ⊢
          clear hW3 c3 f3
          refine wpAnyH_take (i := 10) (oi := ⟨some 66, _, _, _, _, _⟩) (v := ?vd110x10) rfl (by kernel_rfl) (by kernel_rfl) (by kernel_rfl) (fun _ _ _ h => h) (Or.inl ⟨by rfl, ?hyd110x10⟩) (by assumption) ?restd110x10
          case hyd110x10 => (intro wz hSw; obtain ⟨hs1, hs2⟩ := hSw; go_simp <;> (try with_reducible rfl))
          try simp only [Act.put, List.setIfInBounds_toArray, List.set_cons_zero, List.set_cons_succ]
          have c4 := S3.out.ob.c4
          have f4 := S3.out.fz 4
          dsimp only at c4
          refine wpAnyH_ready (rs := [11]) (by kernel_rfl) (by simp) (AllReadyH.cons (o := ⟨none, _, _, _, _, _⟩) rfl (fun K hK => ?_) AllReadyH.nil)
          go_simp
          refine hK.out _ _ (HS0.out _ (B3.out.setCell (p := ⟨S, 4, none⟩) (Nat.le_of_lt HNS.out) _)) (fun hHeld => ?_)
          clear hK K
          try simp only [Act.put, List.setIfInBounds_toArray, List.set_cons_zero, List.set_cons_succ]
          have S4 := keep (S3.out.put4 pr)
          have R4 := keep (R3.out.else_ (k := S) (j := 4) (Nat.ne_of_lt HNS.out) (.string pr))
          have B4 := keep (B3.out.setCell (p := ⟨S, 4, none⟩) (Nat.le_of_lt HNS.out) (.string pr))
          obtain ⟨W4, hW4⟩ : ∃ W4, W3.setCell ⟨S, 4, none⟩ (.string pr) = W4 := ⟨_, rfl⟩
          rw [hW4] at S4 R4 B4
          simp only [hW4] at hHeld ⊢
          clear hW4 c4 f4
          refine wpAnyH_done (by kernel_rfl) ?_ _
          have HD := keep (show decF bs = ⟨vk, vp, vl, pr, pr⟩ by unfold decF; rw [HVO.out.1, HVO.out.2.1, HVO.out.2.2, HVN.out, HLA.out.1, HLA.out.2])
          have HOK := keep (dec_ok bs (by have := HLN.out; omega) (by have := HLN.out; omega))
          rw [HD.out] at HOK
          have KW := wrong_any ⟨vk, vp, vl, pr, pr⟩ HOK.out W4 (hT.step B4.out)
          have HE2 := HEE.out
          rw [HD.out] at HE2
          have S4' := keep (show SB W4 S ⟨vk, vp, vl, pr, pr⟩ from S4.out)
          obtain ⟨a0, a1, a2, a3, a4⟩ := S4'.out.ob
          dsimp only at a0 a1 a2 a3 a4
          clear hHeld
          cases hw : wrongB ⟨vk, vp, vl, pr, pr⟩
          all_goals
            rw [hw] at KW HE2
            simp only [if_true, if_false, Bool.false_eq_true] at HE2
            dsimp only [OV.cells] at KW
            have KW := keep KW
            have HE3 := keep HE2
            clear HE2 hw
            go_wp2_with fail
            refine KW.out.mono ?_
            rintro e w5 ⟨rfl, hb5⟩
            have S5 := S4'.out.step hb5
            have R5 := keep (R4.out.step hb5)
            have B5 := keep (B4.out.trans (hb5.mono B4.out.size))
            obtain ⟨s0, s1, s2, s3, s4⟩ := S5.ob
            obtain ⟨z0, z1, z2, z3, z4⟩ := R5.out.ob
            dsimp only [oZ] at s0 s1 s2 s3 s4 z0 z1 z2 z3 z4
            have y0 := R5.out.fz 0
            have y1 := R5.out.fz 1
            have y2 := R5.out.fz 2
            have y3 := R5.out.fz 3
            have y4 := R5.out.fz 4
            clear S5 hb5 a0 a1 a2 a3 a4
            dsimp only
            go_wp2_with fail
          · exact bodyPost_ret (ret_op1 rfl _ _ w.heap.size ⟨vk, vp, vl, pr, pr⟩ rfl (R5.out.laid5 ⟨vk, vp, vl, pr, pr⟩)) rfl (decP_ok HE3.out (by rw [HD.out]; rfl) (below5 B5.out (Nat.le_refl _) _ _ _ _ _))
          · exact bodyPost_ret (ret_op1 rfl _ _ w.heap.size oZ rfl (R5.out.laid5 oZ)) rfl (decP_bad HE3.out (by decide) rfl (below5 B5.out (Nat.le_refl _) _ _ _ _ _))
set_option maxHeartbeats 8000000 in
theorem decode_late2 (A : Option Addr) (n c : Nat) (bs : List UInt8) (w : World) (hb : BS w A n c bs) (hn : n ≤ 100000) (hT : Tabs w) (h12 : 12 ≤ bs.length) (h3 : bs.headD 0 = 3) (hc12 : c ≠ 12) (hq : c - 12 = hN bs) :
    Calls Tryd.prog 16 #[.slice A n c] w (DecP bs w) := by
  have l1 := keep (below_lay w (.cells oZ.cells.toArray 25))
  have R1 := keep (SB.laid w oZ)
  have hl := hb.len
  have hcap := hb.cap
  have h0 : bs ≠ [] := by intro h; rw [h] at h12; simp at h12
  have HE := keep (show ¬ (bs ≠ [] ∧ bs.headD 0 ≠ 3) from fun h => h.2 h3)
  obtain ⟨b, o, rfl, hlt, hc0⟩ := hb.br.at_ (j := 0) (List.length_pos_iff.2 h0)
  have hn0 : (0 : Int) < (n : Int) := by omega
  have hn12 : ((n : Int) < 12) = False := by simp; omega
  have hnI : (12 : Int) ≤ (n : Int) := by omega
  have hc1 : (w.alloc (.cells oZ.cells.toArray 25)).cell? ⟨b, o, none⟩ = some (.int .u8 3) := by
    have := (l1.out.cell (p := ⟨b, o + 0, none⟩) hlt).trans hc0
    cases bs with
    | nil => exact absurd rfl h0
    | cons x r =>
      have hx : x = 3 := h3
      subst hx
      simpa [bc] using this
  dsimp only [oZ, OV.cells] at hc1
  have KH := readHead_any (some ⟨b, o, none⟩) c (bs.take 12) _ ((hb.step l1.out).take 12 c (by omega) (by omega))
  obtain ⟨k1, k2, k3, k4, k5⟩ := hK_take bs
  rw [k1, k2, k3, k4, k5] at KH
  clear k1 k2 k3 k4 k5
  obtain ⟨vn, hvn⟩ : ∃ v, hN bs = v := ⟨_, rfl⟩
  obtain ⟨vm, hvm⟩ : ∃ v, hM bs = v := ⟨_, rfl⟩
  rw [hvn] at hq
  rw [hvn, hvm] at KH
  obtain ⟨vk, hvk⟩ : ∃ v, hK bs = v := ⟨_, rfl⟩
  obtain ⟨vp, hvp⟩ : ∃ v, hP bs = v := ⟨_, rfl⟩
  obtain ⟨vl, hvl⟩ : ∃ v, hL bs = v := ⟨_, rfl⟩
  rw [hvk, hvp, hvl] at KH
  have HVO := keep (And.intro hvk (And.intro hvp hvl))
  dsimp only [OV.cells] at KH
  have KH := keep KH
  have HLN := keep hl
  have hN9 := hN_lt bs h12
  have hM9 := hM_lt bs h12
  rw [hvn] at hN9
  rw [hvm] at hM9
  obtain ⟨la, hla⟩ : ∃ x : ByteArray, (⟨((bs.drop 12).take vn).toArray⟩ : ByteArray) = x := ⟨_, rfl⟩
  obtain ⟨pr, hpr⟩ : ∃ x : ByteArray, (⟨((bs.drop 12).drop vn).toArray⟩ : ByteArray) = x := ⟨_, rfl⟩
  have HLA := keep (And.intro hla hpr)
  clear hla hpr
  have HB := keep hb
  have HVN := keep hvn
  have HVM := keep hvm
  clear hc0 hb h0 hvn hvm h3 hvk hvp hvl hl h12
  go_enter Tryd.func16, Tryd.ntmps16
  go_wp2_with (go_at_call 43; refine KH.out.mono ?_; rintro e w1 ⟨rfl, hb1⟩; replace hb1 := keep hb1)
  all_goals
    have HX := keep (show ∀ W, Below w.heap.size w W → BS W (some ⟨b, o + 12, none⟩) (n - 12) (c - 12) (bs.drop 12) from fun W hW => by
      have h1 := (HB.out.step hW).drop 12 (by omega)
      rw [if_neg hc12] at h1
      exact h1)
    have B2 := keep ((l1.out.trans (hb1.out.mono l1.out.size)).alloc (l1.out.trans (hb1.out.mono l1.out.size)).size (.cells #[.int .u8 vk, .int .u16 vp, .int .u32 vl, .string ⟨#[]⟩, .string ⟨#[]⟩] 25))
    have R2 := keep ((R1.out.step hb1.out).step (below_lay w1 (.cells #[.int .u8 vk, .int .u16 vp, .int .u32 vl, .string ⟨#[]⟩, .string ⟨#[]⟩] 25)))
    have S2 := keep (SB.laid w1 ⟨vk, vp, vl, ⟨#[]⟩, ⟨#[]⟩⟩)
    have HNS := keep (show w.heap.size < w1.heap.size by have := (R1.out.step hb1.out).lt; exact this)
    dsimp only [OV.cells] at S2
    obtain ⟨W2, hW2⟩ : ∃ W2, w1.alloc (.cells #[.int .u8 vk, .int .u16 vp, .int .u32 vl, .string ⟨#[]⟩, .string ⟨#[]⟩] 25) = W2 := ⟨_, rfl⟩
    rw [hW2] at B2 R2 S2 ⊢
    obtain ⟨S, hS⟩ : ∃ S, w1.heap.size = S := ⟨_, rfl⟩
    rw [hS] at S2 HNS ⊢
    clear hS hW2 hb1 R1 KH hc1
    obtain ⟨z0, z1, z2, z3, z4⟩ := R2.out.ob
    dsimp only [oZ] at z0 z1 z2 z3 z4
    have y0 := R2.out.fz 0
    have y1 := R2.out.fz 1
    have y2 := R2.out.fz 2
    have y3 := R2.out.fz 3
    have y4 := R2.out.fz 4
    by_cases hbig : 256 < vn ∨ 256 < vm
    · have hE : decE bs = 10 := decE_large HE.out (by have := HLN.out; omega) (by rw [HVN.out, HVM.out]; exact hbig)
      by_cases hv : 256 < vn
      · have hv1 : decide ((256 : Int) < (vn : Int)) = true := decide_eq_true (by omega)
        refine (tooLong_any _ _).mono ?_
        rintro e w' ⟨rfl, rfl⟩
        go_wp2_with fail
        exact bodyPost_ret (ret_op1 rfl _ _ w.heap.size oZ rfl (R2.out.laid5 oZ)) rfl (decP_bad hE (by decide) rfl (below5 B2.out (Nat.le_refl _) _ _ _ _ _))
      · have hv1 : decide ((256 : Int) < (vn : Int)) = false := decide_eq_false (by omega)
        have hv2 : decide ((256 : Int) < (vm : Int)) = true := decide_eq_true (by omega)
        refine (tooLong_any _ _).mono ?_
        rintro e w' ⟨rfl, rfl⟩
        go_wp2_with (go_at_call 37; refine (tooLong_any _ _).mono ?_; rintro e w' ⟨rfl, rfl⟩)
        exact bodyPost_ret (ret_op1 rfl _ _ w.heap.size oZ rfl (R2.out.laid5 oZ)) rfl (decP_bad hE (by decide) rfl (below5 B2.out (Nat.le_refl _) _ _ _ _ _))
    · have hR := decE_rest HE.out (by have := HLN.out; omega) (by rw [HVN.out, HVM.out]; exact hbig)
      rw [HVN.out, HVM.out, ← HLN.out] at hR
      have HRR := keep hR
      clear hR
      have hv1 : decide ((256 : Int) < (vn : Int)) = false := decide_eq_false (by omega)
      have hv2 : decide ((256 : Int) < (vm : Int)) = false := decide_eq_false (by omega)
      by_cases hsh : n - 12 < vn + vm
      · have hE : decE bs = 2 := by rw [HRR.out, if_pos hsh]
        refine (tooLong_any _ _).mono ?_
        rintro e w' ⟨rfl, rfl⟩
        go_wp2_with (go_at_call 37; refine (tooLong_any _ _).mono ?_; rintro e w' ⟨rfl, rfl⟩)
        exact bodyPost_ret (ret_op1 rfl _ _ w.heap.size oZ rfl (R2.out.laid5 oZ)) rfl (decP_bad hE (by decide) rfl (below5 B2.out (Nat.le_refl _) _ _ _ _ _))
      · by_cases hlo : vn + vm < n - 12
        · have hE : decE bs = 3 := by rw [HRR.out, if_neg hsh, if_pos hlo]
          refine (tooLong_any _ _).mono ?_
          rintro e w' ⟨rfl, rfl⟩
          go_wp2_with (go_at_call 37; refine (tooLong_any _ _).mono ?_; rintro e w' ⟨rfl, rfl⟩)
          all_goals exact bodyPost_ret (ret_op1 rfl _ _ w.heap.size oZ rfl (R2.out.laid5 oZ)) rfl (decP_bad hE (by decide) rfl (below5 B2.out (Nat.le_refl _) _ _ _ _ _))
        · have hE : decE bs = if wrongB (decF bs) = true then 1 else 0 := by rw [HRR.out, if_neg hsh, if_neg hlo]
          have HEE := keep hE
          have hsum : n = vn + vm + 12 := by omega
          clear hE
          refine (tooLong_any _ _).mono ?_
          rintro e w' ⟨rfl, rfl⟩
          clear z0 z1 z2 z3 z4 y0 y1 y2 y3 y4
          go_wp2_with (go_at_call 37; refine (tooLong_any _ _).mono ?_; rintro e w' ⟨rfl, rfl⟩)
          have B2d := keep B2.out.drew
          have R2d := keep (R2.out.step (Below.refl _ _).drew)
          have S2d := keep (S2.out.step (Below.refl _ _).drew)
          have hvI : (vn : Int) ≤ ((n - 12 : Nat) : Int) := by omega
          have hvI0 : (0 : Int) ≤ (vn : Int) := by omega
          have hvc : vn ≤ c - 12 := by omega
          have hvs : (vn : Int) ≤ (vn : Int) + (vm : Int) := by omega
          have hvn12 : n - 12 = vn + vm := by omega
          have HS0 := keep (show ∀ W, Below w.heap.size w W → (convert 27 9 (.slice (some ⟨b, o + 12, none⟩) vn vn)).run Tryd.prog W = .ok (.string la) W ∧ (convert 27 9 (.slice (some ⟨b, o + 12, none⟩) vm 0)).run Tryd.prog W = .ok (.string pr) W from fun W hW => by rw [← HLA.out.1, ← HLA.out.2]; exact ⟨conv_str ((HX.out W hW).take vn vn (by omega) (by omega)), conv_str (by have h1 := (HX.out W hW).drop vn (by omega); rw [if_pos hq, show c - 12 - vn = 0 by omega, show n - 12 - vn = vm by omega] at h1; exact h1)⟩)
          refine wp_region_held_drew (S := (fun w' => (convert 27 9 (.slice (some ⟨b, o + 12, none⟩) vn vn)).run Tryd.prog w' = .ok (.string la) w' ∧ (convert 27 9 (.slice (some ⟨b, o + 12, none⟩) vm 0)).run Tryd.prog w' = .ok (.string pr) w')) (by kernel_rfl) (HS0.out _ B2d.out) (fun hHeld => ?_)
          refine wpAnyH_take (i := 0) (oi := ⟨some 57, _, _, _, _, _⟩) (v := ?vd21x0) rfl (by kernel_rfl) (by kernel_rfl) (by kernel_rfl) (fun _ _ _ h => h) (Or.inl ⟨by rfl, ?hyd21x0⟩) (by assumption) ?restd21x0
          case hyd21x0 => (intro wz hSw; obtain ⟨hs1, hs2⟩ := hSw; go_simp <;> (try with_reducible rfl))
          try simp only [Act.put, List.setIfInBounds_toArray, List.set_cons_zero, List.set_cons_succ]
          refine wpAnyH_take (i := 1) (oi := ⟨some 58, _, _, _, _, _⟩) (v := ?vd22x1) rfl (by kernel_rfl) (by kernel_rfl) (by kernel_rfl) (fun _ _ _ h => h) (Or.inl ⟨by rfl, ?hyd22x1⟩) (by assumption) ?restd22x1
          case hyd22x1 => (intro wz hSw; obtain ⟨hs1, hs2⟩ := hSw; go_simp <;> (try with_reducible rfl))
          try simp only [Act.put, List.setIfInBounds_toArray, List.set_cons_zero, List.set_cons_succ]
          refine wpAnyH_take (i := 4) (oi := ⟨some 61, _, _, _, _, _⟩) (v := ?vd23x4) rfl (by kernel_rfl) (by kernel_rfl) (by kernel_rfl) (fun _ _ _ h => h) (Or.inl ⟨by rfl, ?hyd23x4⟩) (by assumption) ?restd23x4
          case hyd23x4 => (intro wz hSw; obtain ⟨hs1, hs2⟩ := hSw; go_simp <;> (try with_reducible rfl))
          try simp only [Act.put, List.setIfInBounds_toArray, List.set_cons_zero, List.set_cons_succ]
          refine wpAnyH_take (i := 5) (oi := ⟨some 62, _, _, _, _, _⟩) (v := ?vd24x5) rfl (by kernel_rfl) (by kernel_rfl) (by kernel_rfl) (fun _ _ _ h => h) (Or.inl ⟨by rfl, ?hyd24x5⟩) (by assumption) ?restd24x5
          case hyd24x5 => (intro wz hSw; obtain ⟨hs1, hs2⟩ := hSw; go_simp <;> (try with_reducible rfl))
          try simp only [Act.put, List.setIfInBounds_toArray, List.set_cons_zero, List.set_cons_succ]
          refine wpAnyH_take (i := 2) (oi := ⟨some 59, _, _, _, _, _⟩) (v := ?vd25x2) rfl (by kernel_rfl) (by kernel_rfl) (by kernel_rfl) (fun _ _ _ h => h) (Or.inl ⟨by rfl, ?hyd25x2⟩) (by assumption) ?restd25x2
          case hyd25x2 => (intro wz hSw; obtain ⟨hs1, hs2⟩ := hSw; go_simp <;> (try with_reducible rfl))
          try simp only [Act.put, List.setIfInBounds_toArray, List.set_cons_zero, List.set_cons_succ]
          refine wpAnyH_take (i := 6) (oi := ⟨some 63, _, _, _, _, _⟩) (v := ?vd26x6) rfl (by kernel_rfl) (by kernel_rfl) (by kernel_rfl) (fun _ _ _ h => h) (Or.inl ⟨by rfl, ?hyd26x6⟩) (by assumption) ?restd26x6
          case hyd26x6 => (intro wz hSw; obtain ⟨hs1, hs2⟩ := hSw; go_simp <;> (try with_reducible rfl))
          try simp only [Act.put, List.setIfInBounds_toArray, List.set_cons_zero, List.set_cons_succ]
          refine wpAnyH_take (i := 3) (oi := ⟨some 60, _, _, _, _, _⟩) (v := ?vd27x3) rfl (by kernel_rfl) (by kernel_rfl) (by kernel_rfl) (fun _ _ _ h => h) (Or.inl ⟨by rfl, ?hyd27x3⟩) (by assumption) ?restd27x3
          case hyd27x3 => (intro wz hSw; obtain ⟨hs1, hs2⟩ := hSw; go_simp <;> (try with_reducible rfl))
          try simp only [Act.put, List.setIfInBounds_toArray, List.set_cons_zero, List.set_cons_succ]
          refine wpAnyH_take (i := 7) (oi := ⟨some 64, _, _, _, _, _⟩) (v := ?vd28x7) rfl (by kernel_rfl) (by kernel_rfl) (by kernel_rfl) (fun _ _ _ h => h) (Or.inl ⟨by rfl, ?hyd28x7⟩) (by assumption) ?restd28x7
          case hyd28x7 => (intro wz hSw; obtain ⟨hs1, hs2⟩ := hSw; go_simp <;> (try with_reducible rfl))
          try simp only [Act.put, List.setIfInBounds_toArray, List.set_cons_zero, List.set_cons_succ]
          refine wpAnyH_take (i := 8) (oi := ⟨some 65, _, _, _, _, _⟩) (v := ?vd29x8) rfl (by kernel_rfl) (by kernel_rfl) (by kernel_rfl) (fun _ _ _ h => h) (Or.inl ⟨by rfl, ?hyd29x8⟩) (by assumption) ?restd29x8
          case hyd29x8 => (intro wz hSw; obtain ⟨hs1, hs2⟩ := hSw; go_simp <;> (try with_reducible rfl))
          try simp only [Act.put, List.setIfInBounds_toArray, List.set_cons_zero, List.set_cons_succ]
          have c3 := S2d.out.ob.c3
          have f3 := S2d.out.fz 3
          dsimp only at c3
          refine wpAnyH_ready (rs := [9]) (by kernel_rfl) (by simp) (AllReadyH.cons (o := ⟨none, _, _, _, _, _⟩) rfl (fun K hK => ?_) AllReadyH.nil)
          go_simp
          refine hK.out _ _ (HS0.out _ (B2d.out.setCell (p := ⟨S, 3, none⟩) (Nat.le_of_lt HNS.out) _)) (fun hHeld => ?_)
          clear hK K
          try simp only [Act.put, List.setIfInBounds_toArray, List.set_cons_zero, List.set_cons_succ]
          have S3 := keep (S2d.out.put3 la)
          have R3 := keep (R2d.out.else_ (k := S) (j := 3) (Nat.ne_of_lt HNS.out) (.string la))
          have B3 := keep (B2d.out.setCell (p := ⟨S, 3, none⟩) (Nat.le_of_lt HNS.out) (.string la))
          obtain ⟨W3, hW3⟩ : ∃ W3, (W2.setCell ⟨S, 3, none⟩ (.string la)).drew = W3 := ⟨_, rfl⟩
          replace S3 := keep (show SB W3 S ⟨vk, vp, vl, la, ⟨#[]⟩⟩ by rw [← hW3]; exact S3.out)
          replace R3 := keep (show SB W3 w.heap.size oZ by rw [← hW3]; exact R3.out)
          replace B3 := keep (show Below w.heap.size w W3 by rw [← hW3]; exact B3.out)
          simp only [hW3] at hHeld ⊢
          clear hW3 c3 f3
          refine wpAnyH_take (i := 10) (oi := ⟨some 66, _, _, _, _, _⟩) (v := ?vd210x10) rfl (by kernel_rfl) (by kernel_rfl) (by kernel_rfl) (fun _ _ _ h => h) (Or.inl ⟨by rfl, ?hyd210x10⟩) (by assumption) ?restd210x10
          case hyd210x10 => (intro wz hSw; obtain ⟨hs1, hs2⟩ := hSw; go_simp <;> (try with_reducible rfl))
          try simp only [Act.put, List.setIfInBounds_toArray, List.set_cons_zero, List.set_cons_succ]
          have c4 := S3.out.ob.c4
          have f4 := S3.out.fz 4
          dsimp only at c4
          refine wpAnyH_ready (rs := [11]) (by kernel_rfl) (by simp) (AllReadyH.cons (o := ⟨none, _, _, _, _, _⟩) rfl (fun K hK => ?_) AllReadyH.nil)
          go_simp
          refine hK.out _ _ (HS0.out _ (B3.out.setCell (p := ⟨S, 4, none⟩) (Nat.le_of_lt HNS.out) _)) (fun hHeld => ?_)
          clear hK K
          try simp only [Act.put, List.setIfInBounds_toArray, List.set_cons_zero, List.set_cons_succ]
          have S4 := keep (S3.out.put4 pr)
          have R4 := keep (R3.out.else_ (k := S) (j := 4) (Nat.ne_of_lt HNS.out) (.string pr))
          have B4 := keep (B3.out.setCell (p := ⟨S, 4, none⟩) (Nat.le_of_lt HNS.out) (.string pr))
          obtain ⟨W4, hW4⟩ : ∃ W4, W3.setCell ⟨S, 4, none⟩ (.string pr) = W4 := ⟨_, rfl⟩
          rw [hW4] at S4 R4 B4
          simp only [hW4] at hHeld ⊢
          clear hW4 c4 f4
          refine wpAnyH_done (by kernel_rfl) ?_ _
          have HD := keep (show decF bs = ⟨vk, vp, vl, la, pr⟩ by unfold decF; rw [HVO.out.1, HVO.out.2.1, HVO.out.2.2, HVN.out, HLA.out.1, HLA.out.2])
          have HOK := keep (dec_ok bs (by have := HLN.out; omega) (by have := HLN.out; omega))
          rw [HD.out] at HOK
          have KW := wrong_any ⟨vk, vp, vl, la, pr⟩ HOK.out W4 (hT.step B4.out)
          have HE2 := HEE.out
          rw [HD.out] at HE2
          have S4' := keep (show SB W4 S ⟨vk, vp, vl, la, pr⟩ from S4.out)
          obtain ⟨a0, a1, a2, a3, a4⟩ := S4'.out.ob
          dsimp only at a0 a1 a2 a3 a4
          clear hHeld
          cases hw : wrongB ⟨vk, vp, vl, la, pr⟩
          all_goals
            rw [hw] at KW HE2
            simp only [if_true, if_false, Bool.false_eq_true] at HE2
            dsimp only [OV.cells] at KW
            have KW := keep KW
            have HE3 := keep HE2
            clear HE2 hw
            go_wp2_with fail
            refine KW.out.mono ?_
            rintro e w5 ⟨rfl, hb5⟩
            have S5 := S4'.out.step hb5
            have R5 := keep (R4.out.step hb5)
            have B5 := keep (B4.out.trans (hb5.mono B4.out.size))
            obtain ⟨s0, s1, s2, s3, s4⟩ := S5.ob
            obtain ⟨z0, z1, z2, z3, z4⟩ := R5.out.ob
            dsimp only [oZ] at s0 s1 s2 s3 s4 z0 z1 z2 z3 z4
            have y0 := R5.out.fz 0
            have y1 := R5.out.fz 1
            have y2 := R5.out.fz 2
            have y3 := R5.out.fz 3
            have y4 := R5.out.fz 4
            clear S5 hb5 a0 a1 a2 a3 a4
            dsimp only
            go_wp2_with fail
          · exact bodyPost_ret (ret_op1 rfl _ _ w.heap.size ⟨vk, vp, vl, la, pr⟩ rfl (R5.out.laid5 ⟨vk, vp, vl, la, pr⟩)) rfl (decP_ok HE3.out (by rw [HD.out]; rfl) (below5 B5.out (Nat.le_refl _) _ _ _ _ _))
          · exact bodyPost_ret (ret_op1 rfl _ _ w.heap.size oZ rfl (R5.out.laid5 oZ)) rfl (decP_bad HE3.out (by decide) rfl (below5 B5.out (Nat.le_refl _) _ _ _ _ _))
set_option maxHeartbeats 8000000 in
theorem decode_late3 (A : Option Addr) (n c : Nat) (bs : List UInt8) (w : World) (hb : BS w A n c bs) (hn : n ≤ 100000) (hT : Tabs w) (h12 : 12 ≤ bs.length) (h3 : bs.headD 0 = 3) (hc12 : c ≠ 12) (hq : c - 12 ≠ hN bs) :
    Calls Tryd.prog 16 #[.slice A n c] w (DecP bs w) := by
  have l1 := keep (below_lay w (.cells oZ.cells.toArray 25))
  have R1 := keep (SB.laid w oZ)
  have hl := hb.len
  have hcap := hb.cap
  have h0 : bs ≠ [] := by intro h; rw [h] at h12; simp at h12
  have HE := keep (show ¬ (bs ≠ [] ∧ bs.headD 0 ≠ 3) from fun h => h.2 h3)
  obtain ⟨b, o, rfl, hlt, hc0⟩ := hb.br.at_ (j := 0) (List.length_pos_iff.2 h0)
  have hn0 : (0 : Int) < (n : Int) := by omega
  have hn12 : ((n : Int) < 12) = False := by simp; omega
  have hnI : (12 : Int) ≤ (n : Int) := by omega
  have hc1 : (w.alloc (.cells oZ.cells.toArray 25)).cell? ⟨b, o, none⟩ = some (.int .u8 3) := by
    have := (l1.out.cell (p := ⟨b, o + 0, none⟩) hlt).trans hc0
    cases bs with
    | nil => exact absurd rfl h0
    | cons x r =>
      have hx : x = 3 := h3
      subst hx
      simpa [bc] using this
  dsimp only [oZ, OV.cells] at hc1
  have KH := readHead_any (some ⟨b, o, none⟩) c (bs.take 12) _ ((hb.step l1.out).take 12 c (by omega) (by omega))
  obtain ⟨k1, k2, k3, k4, k5⟩ := hK_take bs
  rw [k1, k2, k3, k4, k5] at KH
  clear k1 k2 k3 k4 k5
  obtain ⟨vn, hvn⟩ : ∃ v, hN bs = v := ⟨_, rfl⟩
  obtain ⟨vm, hvm⟩ : ∃ v, hM bs = v := ⟨_, rfl⟩
  rw [hvn] at hq
  rw [hvn, hvm] at KH
  obtain ⟨vk, hvk⟩ : ∃ v, hK bs = v := ⟨_, rfl⟩
  obtain ⟨vp, hvp⟩ : ∃ v, hP bs = v := ⟨_, rfl⟩
  obtain ⟨vl, hvl⟩ : ∃ v, hL bs = v := ⟨_, rfl⟩
  rw [hvk, hvp, hvl] at KH
  have HVO := keep (And.intro hvk (And.intro hvp hvl))
  dsimp only [OV.cells] at KH
  have KH := keep KH
  have HLN := keep hl
  have hN9 := hN_lt bs h12
  have hM9 := hM_lt bs h12
  rw [hvn] at hN9
  rw [hvm] at hM9
  obtain ⟨la, hla⟩ : ∃ x : ByteArray, (⟨((bs.drop 12).take vn).toArray⟩ : ByteArray) = x := ⟨_, rfl⟩
  obtain ⟨pr, hpr⟩ : ∃ x : ByteArray, (⟨((bs.drop 12).drop vn).toArray⟩ : ByteArray) = x := ⟨_, rfl⟩
  have HLA := keep (And.intro hla hpr)
  clear hla hpr
  have HB := keep hb
  have HVN := keep hvn
  have HVM := keep hvm
  clear hc0 hb h0 hvn hvm h3 hvk hvp hvl hl h12
  go_enter Tryd.func16, Tryd.ntmps16
  go_wp2_with (go_at_call 43; refine KH.out.mono ?_; rintro e w1 ⟨rfl, hb1⟩; replace hb1 := keep hb1)
  all_goals
    have HX := keep (show ∀ W, Below w.heap.size w W → BS W (some ⟨b, o + 12, none⟩) (n - 12) (c - 12) (bs.drop 12) from fun W hW => by
      have h1 := (HB.out.step hW).drop 12 (by omega)
      rw [if_neg hc12] at h1
      exact h1)
    have B2 := keep ((l1.out.trans (hb1.out.mono l1.out.size)).alloc (l1.out.trans (hb1.out.mono l1.out.size)).size (.cells #[.int .u8 vk, .int .u16 vp, .int .u32 vl, .string ⟨#[]⟩, .string ⟨#[]⟩] 25))
    have R2 := keep ((R1.out.step hb1.out).step (below_lay w1 (.cells #[.int .u8 vk, .int .u16 vp, .int .u32 vl, .string ⟨#[]⟩, .string ⟨#[]⟩] 25)))
    have S2 := keep (SB.laid w1 ⟨vk, vp, vl, ⟨#[]⟩, ⟨#[]⟩⟩)
    have HNS := keep (show w.heap.size < w1.heap.size by have := (R1.out.step hb1.out).lt; exact this)
    dsimp only [OV.cells] at S2
    obtain ⟨W2, hW2⟩ : ∃ W2, w1.alloc (.cells #[.int .u8 vk, .int .u16 vp, .int .u32 vl, .string ⟨#[]⟩, .string ⟨#[]⟩] 25) = W2 := ⟨_, rfl⟩
    rw [hW2] at B2 R2 S2 ⊢
    obtain ⟨S, hS⟩ : ∃ S, w1.heap.size = S := ⟨_, rfl⟩
    rw [hS] at S2 HNS ⊢
    clear hS hW2 hb1 R1 KH hc1
    obtain ⟨z0, z1, z2, z3, z4⟩ := R2.out.ob
    dsimp only [oZ] at z0 z1 z2 z3 z4
    have y0 := R2.out.fz 0
    have y1 := R2.out.fz 1
    have y2 := R2.out.fz 2
    have y3 := R2.out.fz 3
    have y4 := R2.out.fz 4
    by_cases hbig : 256 < vn ∨ 256 < vm
    · have hE : decE bs = 10 := decE_large HE.out (by have := HLN.out; omega) (by rw [HVN.out, HVM.out]; exact hbig)
      by_cases hv : 256 < vn
      · have hv1 : decide ((256 : Int) < (vn : Int)) = true := decide_eq_true (by omega)
        refine (tooLong_any _ _).mono ?_
        rintro e w' ⟨rfl, rfl⟩
        go_wp2_with fail
        exact bodyPost_ret (ret_op1 rfl _ _ w.heap.size oZ rfl (R2.out.laid5 oZ)) rfl (decP_bad hE (by decide) rfl (below5 B2.out (Nat.le_refl _) _ _ _ _ _))
      · have hv1 : decide ((256 : Int) < (vn : Int)) = false := decide_eq_false (by omega)
        have hv2 : decide ((256 : Int) < (vm : Int)) = true := decide_eq_true (by omega)
        refine (tooLong_any _ _).mono ?_
        rintro e w' ⟨rfl, rfl⟩
        go_wp2_with (go_at_call 37; refine (tooLong_any _ _).mono ?_; rintro e w' ⟨rfl, rfl⟩)
        exact bodyPost_ret (ret_op1 rfl _ _ w.heap.size oZ rfl (R2.out.laid5 oZ)) rfl (decP_bad hE (by decide) rfl (below5 B2.out (Nat.le_refl _) _ _ _ _ _))
    · have hR := decE_rest HE.out (by have := HLN.out; omega) (by rw [HVN.out, HVM.out]; exact hbig)
      rw [HVN.out, HVM.out, ← HLN.out] at hR
      have HRR := keep hR
      clear hR
      have hv1 : decide ((256 : Int) < (vn : Int)) = false := decide_eq_false (by omega)
      have hv2 : decide ((256 : Int) < (vm : Int)) = false := decide_eq_false (by omega)
      by_cases hsh : n - 12 < vn + vm
      · have hE : decE bs = 2 := by rw [HRR.out, if_pos hsh]
        refine (tooLong_any _ _).mono ?_
        rintro e w' ⟨rfl, rfl⟩
        go_wp2_with (go_at_call 37; refine (tooLong_any _ _).mono ?_; rintro e w' ⟨rfl, rfl⟩)
        exact bodyPost_ret (ret_op1 rfl _ _ w.heap.size oZ rfl (R2.out.laid5 oZ)) rfl (decP_bad hE (by decide) rfl (below5 B2.out (Nat.le_refl _) _ _ _ _ _))
      · by_cases hlo : vn + vm < n - 12
        · have hE : decE bs = 3 := by rw [HRR.out, if_neg hsh, if_pos hlo]
          refine (tooLong_any _ _).mono ?_
          rintro e w' ⟨rfl, rfl⟩
          go_wp2_with (go_at_call 37; refine (tooLong_any _ _).mono ?_; rintro e w' ⟨rfl, rfl⟩)
          all_goals exact bodyPost_ret (ret_op1 rfl _ _ w.heap.size oZ rfl (R2.out.laid5 oZ)) rfl (decP_bad hE (by decide) rfl (below5 B2.out (Nat.le_refl _) _ _ _ _ _))
        · have hE : decE bs = if wrongB (decF bs) = true then 1 else 0 := by rw [HRR.out, if_neg hsh, if_neg hlo]
          have HEE := keep hE
          have hsum : n = vn + vm + 12 := by omega
          clear hE
          refine (tooLong_any _ _).mono ?_
          rintro e w' ⟨rfl, rfl⟩
          clear z0 z1 z2 z3 z4 y0 y1 y2 y3 y4
          go_wp2_with (go_at_call 37; refine (tooLong_any _ _).mono ?_; rintro e w' ⟨rfl, rfl⟩)
          have B2d := keep B2.out.drew
          have R2d := keep (R2.out.step (Below.refl _ _).drew)
          have S2d := keep (S2.out.step (Below.refl _ _).drew)
          have hvI : (vn : Int) ≤ ((n - 12 : Nat) : Int) := by omega
          have hvI0 : (0 : Int) ≤ (vn : Int) := by omega
          have hvc : vn ≤ c - 12 := by omega
          have hvs : (vn : Int) ≤ (vn : Int) + (vm : Int) := by omega
          have hvn12 : n - 12 = vn + vm := by omega
          have HS0 := keep (show ∀ W, Below w.heap.size w W → (convert 27 9 (.slice (some ⟨b, o + 12, none⟩) vn (c - 12))).run Tryd.prog W = .ok (.string la) W ∧ (convert 27 9 (.slice (some ⟨b, o + 12 + vn, none⟩) vm (c - 12 - vn))).run Tryd.prog W = .ok (.string pr) W from fun W hW => by rw [← HLA.out.1, ← HLA.out.2]; exact ⟨conv_str ((HX.out W hW).take vn (c - 12) (by omega) (by omega)), conv_str (by have h1 := (HX.out W hW).drop vn (by omega); rw [if_neg hq, show n - 12 - vn = vm by omega] at h1; simpa [Addr.add_lit] using h1)⟩)
          refine wp_region_held_drew (S := (fun w' => (convert 27 9 (.slice (some ⟨b, o + 12, none⟩) vn (c - 12))).run Tryd.prog w' = .ok (.string la) w' ∧ (convert 27 9 (.slice (some ⟨b, o + 12 + vn, none⟩) vm (c - 12 - vn))).run Tryd.prog w' = .ok (.string pr) w')) (by kernel_rfl) (HS0.out _ B2d.out) (fun hHeld => ?_)
          refine wpAnyH_take (i := 0) (oi := ⟨some 57, _, _, _, _, _⟩) (v := ?vd31x0) rfl (by kernel_rfl) (by kernel_rfl) (by kernel_rfl) (fun _ _ _ h => h) (Or.inl ⟨by rfl, ?hyd31x0⟩) (by assumption) ?restd31x0
          case hyd31x0 => (intro wz hSw; obtain ⟨hs1, hs2⟩ := hSw; go_simp <;> (try with_reducible rfl))
          try simp only [Act.put, List.setIfInBounds_toArray, List.set_cons_zero, List.set_cons_succ]
          refine wpAnyH_take (i := 1) (oi := ⟨some 58, _, _, _, _, _⟩) (v := ?vd32x1) rfl (by kernel_rfl) (by kernel_rfl) (by kernel_rfl) (fun _ _ _ h => h) (Or.inl ⟨by rfl, ?hyd32x1⟩) (by assumption) ?restd32x1
          case hyd32x1 => (intro wz hSw; obtain ⟨hs1, hs2⟩ := hSw; go_simp <;> (try with_reducible rfl))
          try simp only [Act.put, List.setIfInBounds_toArray, List.set_cons_zero, List.set_cons_succ]
          refine wpAnyH_take (i := 4) (oi := ⟨some 61, _, _, _, _, _⟩) (v := ?vd33x4) rfl (by kernel_rfl) (by kernel_rfl) (by kernel_rfl) (fun _ _ _ h => h) (Or.inl ⟨by rfl, ?hyd33x4⟩) (by assumption) ?restd33x4
          case hyd33x4 => (intro wz hSw; obtain ⟨hs1, hs2⟩ := hSw; go_simp <;> (try with_reducible rfl))
          try simp only [Act.put, List.setIfInBounds_toArray, List.set_cons_zero, List.set_cons_succ]
          refine wpAnyH_take (i := 5) (oi := ⟨some 62, _, _, _, _, _⟩) (v := ?vd34x5) rfl (by kernel_rfl) (by kernel_rfl) (by kernel_rfl) (fun _ _ _ h => h) (Or.inl ⟨by rfl, ?hyd34x5⟩) (by assumption) ?restd34x5
          case hyd34x5 => (intro wz hSw; obtain ⟨hs1, hs2⟩ := hSw; go_simp <;> (try with_reducible rfl))
          try simp only [Act.put, List.setIfInBounds_toArray, List.set_cons_zero, List.set_cons_succ]
          refine wpAnyH_take (i := 2) (oi := ⟨some 59, _, _, _, _, _⟩) (v := ?vd35x2) rfl (by kernel_rfl) (by kernel_rfl) (by kernel_rfl) (fun _ _ _ h => h) (Or.inl ⟨by rfl, ?hyd35x2⟩) (by assumption) ?restd35x2
          case hyd35x2 => (intro wz hSw; obtain ⟨hs1, hs2⟩ := hSw; go_simp <;> (try with_reducible rfl))
          try simp only [Act.put, List.setIfInBounds_toArray, List.set_cons_zero, List.set_cons_succ]
          refine wpAnyH_take (i := 6) (oi := ⟨some 63, _, _, _, _, _⟩) (v := ?vd36x6) rfl (by kernel_rfl) (by kernel_rfl) (by kernel_rfl) (fun _ _ _ h => h) (Or.inl ⟨by rfl, ?hyd36x6⟩) (by assumption) ?restd36x6
          case hyd36x6 => (intro wz hSw; obtain ⟨hs1, hs2⟩ := hSw; go_simp <;> (try with_reducible rfl))
          try simp only [Act.put, List.setIfInBounds_toArray, List.set_cons_zero, List.set_cons_succ]
          refine wpAnyH_take (i := 3) (oi := ⟨some 60, _, _, _, _, _⟩) (v := ?vd37x3) rfl (by kernel_rfl) (by kernel_rfl) (by kernel_rfl) (fun _ _ _ h => h) (Or.inl ⟨by rfl, ?hyd37x3⟩) (by assumption) ?restd37x3
          case hyd37x3 => (intro wz hSw; obtain ⟨hs1, hs2⟩ := hSw; go_simp <;> (try with_reducible rfl))
          try simp only [Act.put, List.setIfInBounds_toArray, List.set_cons_zero, List.set_cons_succ]
          refine wpAnyH_take (i := 7) (oi := ⟨some 64, _, _, _, _, _⟩) (v := ?vd38x7) rfl (by kernel_rfl) (by kernel_rfl) (by kernel_rfl) (fun _ _ _ h => h) (Or.inl ⟨by rfl, ?hyd38x7⟩) (by assumption) ?restd38x7
          case hyd38x7 => (intro wz hSw; obtain ⟨hs1, hs2⟩ := hSw; go_simp <;> (try with_reducible rfl))
          try simp only [Act.put, List.setIfInBounds_toArray, List.set_cons_zero, List.set_cons_succ]
          refine wpAnyH_take (i := 8) (oi := ⟨some 65, _, _, _, _, _⟩) (v := ?vd39x8) rfl (by kernel_rfl) (by kernel_rfl) (by kernel_rfl) (fun _ _ _ h => h) (Or.inl ⟨by rfl, ?hyd39x8⟩) (by assumption) ?restd39x8
          case hyd39x8 => (intro wz hSw; obtain ⟨hs1, hs2⟩ := hSw; go_simp <;> (try with_reducible rfl))
          try simp only [Act.put, List.setIfInBounds_toArray, List.set_cons_zero, List.set_cons_succ]
          have c3 := S2d.out.ob.c3
          have f3 := S2d.out.fz 3
          dsimp only at c3
          refine wpAnyH_ready (rs := [9]) (by kernel_rfl) (by simp) (AllReadyH.cons (o := ⟨none, _, _, _, _, _⟩) rfl (fun K hK => ?_) AllReadyH.nil)
          go_simp
          refine hK.out _ _ (HS0.out _ (B2d.out.setCell (p := ⟨S, 3, none⟩) (Nat.le_of_lt HNS.out) _)) (fun hHeld => ?_)
          clear hK K
          try simp only [Act.put, List.setIfInBounds_toArray, List.set_cons_zero, List.set_cons_succ]
          have S3 := keep (S2d.out.put3 la)
          have R3 := keep (R2d.out.else_ (k := S) (j := 3) (Nat.ne_of_lt HNS.out) (.string la))
          have B3 := keep (B2d.out.setCell (p := ⟨S, 3, none⟩) (Nat.le_of_lt HNS.out) (.string la))
          obtain ⟨W3, hW3⟩ : ∃ W3, (W2.setCell ⟨S, 3, none⟩ (.string la)).drew = W3 := ⟨_, rfl⟩
          replace S3 := keep (show SB W3 S ⟨vk, vp, vl, la, ⟨#[]⟩⟩ by rw [← hW3]; exact S3.out)
          replace R3 := keep (show SB W3 w.heap.size oZ by rw [← hW3]; exact R3.out)
          replace B3 := keep (show Below w.heap.size w W3 by rw [← hW3]; exact B3.out)
          simp only [hW3] at hHeld ⊢
          clear hW3 c3 f3
          refine wpAnyH_take (i := 10) (oi := ⟨some 66, _, _, _, _, _⟩) (v := ?vd310x10) rfl (by kernel_rfl) (by kernel_rfl) (by kernel_rfl) (fun _ _ _ h => h) (Or.inl ⟨by rfl, ?hyd310x10⟩) (by assumption) ?restd310x10
          case hyd310x10 => (intro wz hSw; obtain ⟨hs1, hs2⟩ := hSw; go_simp <;> (try with_reducible rfl))
          try simp only [Act.put, List.setIfInBounds_toArray, List.set_cons_zero, List.set_cons_succ]
          have c4 := S3.out.ob.c4
          have f4 := S3.out.fz 4
          dsimp only at c4
          refine wpAnyH_ready (rs := [11]) (by kernel_rfl) (by simp) (AllReadyH.cons (o := ⟨none, _, _, _, _, _⟩) rfl (fun K hK => ?_) AllReadyH.nil)
          go_simp
          refine hK.out _ _ (HS0.out _ (B3.out.setCell (p := ⟨S, 4, none⟩) (Nat.le_of_lt HNS.out) _)) (fun hHeld => ?_)
          clear hK K
          try simp only [Act.put, List.setIfInBounds_toArray, List.set_cons_zero, List.set_cons_succ]
          have S4 := keep (S3.out.put4 pr)
          have R4 := keep (R3.out.else_ (k := S) (j := 4) (Nat.ne_of_lt HNS.out) (.string pr))
          have B4 := keep (B3.out.setCell (p := ⟨S, 4, none⟩) (Nat.le_of_lt HNS.out) (.string pr))
          obtain ⟨W4, hW4⟩ : ∃ W4, W3.setCell ⟨S, 4, none⟩ (.string pr) = W4 := ⟨_, rfl⟩
          rw [hW4] at S4 R4 B4
          simp only [hW4] at hHeld ⊢
          clear hW4 c4 f4
          refine wpAnyH_done (by kernel_rfl) ?_ _
          have HD := keep (show decF bs = ⟨vk, vp, vl, la, pr⟩ by unfold decF; rw [HVO.out.1, HVO.out.2.1, HVO.out.2.2, HVN.out, HLA.out.1, HLA.out.2])
          have HOK := keep (dec_ok bs (by have := HLN.out; omega) (by have := HLN.out; omega))
          rw [HD.out] at HOK
          have KW := wrong_any ⟨vk, vp, vl, la, pr⟩ HOK.out W4 (hT.step B4.out)
          have HE2 := HEE.out
          rw [HD.out] at HE2
          have S4' := keep (show SB W4 S ⟨vk, vp, vl, la, pr⟩ from S4.out)
          obtain ⟨a0, a1, a2, a3, a4⟩ := S4'.out.ob
          dsimp only at a0 a1 a2 a3 a4
          clear hHeld
          cases hw : wrongB ⟨vk, vp, vl, la, pr⟩
          all_goals
            rw [hw] at KW HE2
            simp only [if_true, if_false, Bool.false_eq_true] at HE2
            dsimp only [OV.cells] at KW
            have KW := keep KW
            have HE3 := keep HE2
            clear HE2 hw
            go_wp2_with fail
            refine KW.out.mono ?_
            rintro e w5 ⟨rfl, hb5⟩
            have S5 := S4'.out.step hb5
            have R5 := keep (R4.out.step hb5)
            have B5 := keep (B4.out.trans (hb5.mono B4.out.size))
            obtain ⟨s0, s1, s2, s3, s4⟩ := S5.ob
            obtain ⟨z0, z1, z2, z3, z4⟩ := R5.out.ob
            dsimp only [oZ] at s0 s1 s2 s3 s4 z0 z1 z2 z3 z4
            have y0 := R5.out.fz 0
            have y1 := R5.out.fz 1
            have y2 := R5.out.fz 2
            have y3 := R5.out.fz 3
            have y4 := R5.out.fz 4
            clear S5 hb5 a0 a1 a2 a3 a4
            dsimp only
            go_wp2_with fail
          · exact bodyPost_ret (ret_op1 rfl _ _ w.heap.size ⟨vk, vp, vl, la, pr⟩ rfl (R5.out.laid5 ⟨vk, vp, vl, la, pr⟩)) rfl (decP_ok HE3.out (by rw [HD.out]; rfl) (below5 B5.out (Nat.le_refl _) _ _ _ _ _))
          · exact bodyPost_ret (ret_op1 rfl _ _ w.heap.size oZ rfl (R5.out.laid5 oZ)) rfl (decP_bad HE3.out (by decide) rfl (below5 B5.out (Nat.le_refl _) _ _ _ _ _))
theorem decode_any (A : Option Addr) (n c : Nat) (bs : List UInt8) (w : World) (hb : BS w A n c bs) (hn : n ≤ 100000) (hT : Tabs w) : Calls Tryd.prog 16 #[.slice A n c] w (DecP bs w) := by
  by_cases h : (bs ≠ [] ∧ bs.headD 0 ≠ 3) ∨ bs.length < 12
  · exact decode_early A n c bs w hb hn h
  · have h12 : 12 ≤ bs.length := by omega
    have h3 : bs.headD 0 = 3 := by
      apply Classical.byContradiction
      intro h3
      exact h (.inl ⟨by intro h0; rw [h0] at h12; simp at h12, h3⟩)
    by_cases hc : c = 12
    · exact decode_late1 A n c bs w hb hn hT h12 h3 hc
    · by_cases hq : c - 12 = hN bs
      · exact decode_late2 A n c bs w hb hn hT h12 h3 hc hq
      · exact decode_late3 A n c bs w hb hn hT h12 h3 hc hq
end Go.Proofs.YtapaiknghnbfmaaDoor
