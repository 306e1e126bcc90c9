/- The reference: Decode; what has a good head. -/
import Derived.Test.YtapaiknghnbfmaaDoorDX2
import Derived.Deep.RegionHeld3
namespace Go.Proofs.YtapaiknghnbfmaaDoor
open Go.RowKit
set_option linter.unusedVariables false

set_option maxRecDepth 100000 in
set_option maxHeartbeats 8000000 in
theorem decodeR_good1 (A : Option Addr) (n c : Nat) (bs : List UInt8) (w : World) (hb : BS w A n c bs) (hn : n ≤ 100000) (h12 : 12 ≤ bs.length) (h3 : bs.headD 0 = 3) (hg : hN bs ≤ 256 ∧ hM bs ≤ 256 ∧ n - 12 = hN bs + hM bs) (hc12 : c = 12) :
    Calls Tryd.prog 17 #[.slice A n c] w (DecP bs w) := by
  have l1 := below_lay w (.cells oZ.cells.toArray 32)
  have R1 := keep (SQ.laid w oZ)
  have hl := hb.len
  have hcap := hb.cap
  have h0 : bs ≠ [] := by intro h; rw [h] at h12; simp at h12
  have HE := keep (show ¬ (bs ≠ [] ∧ bs.headD 0 ≠ 3) from fun h => h.2 h3)
  obtain ⟨b, o, rfl, hlt, hc0⟩ := hb.br.at_ (j := 0) (List.length_pos_iff.2 h0)
  have hn0 : (0 : Int) < (n : Int) := by omega
  have hn12 : ((n : Int) < 12) = False := by simp; omega
  have hnI : (12 : Int) ≤ (n : Int) := by omega
  have hc1 : (w.alloc (.cells oZ.cells.toArray 32)).cell? ⟨b, o, none⟩ = some (.int .u8 3) := by
    have := (l1.cell (p := ⟨b, o + 0, none⟩) hlt).trans hc0
    cases bs with
    | nil => exact absurd rfl h0
    | cons x r =>
      have hx : x = 3 := h3
      subst hx
      simpa [bc] using this
  dsimp only [oZ, OV.cells] at hc1
  have HD := keep (fun k (hk : k ≤ 10) W (hW : Below w.heap.size w W) => show BS W (some ⟨b, o + k, none⟩) (n - k) (c - k) (bs.drop k) by
    have h1 := (hb.step hW).drop k (by omega)
    rw [if_neg (by omega)] at h1
    simp only [Option.map_some, Addr.add_lit] at h1
    exact h1)
  have G1 := keep (fun W (hW : Below w.heap.size w W) => refget_some _ _ _ _ 2 (by decide) (by decide) (by omega) W (HD.out 2 (by decide) W hW))
  have G2 := keep (fun W (hW : Below w.heap.size w W) => refget_some _ _ _ _ 4 (by decide) (by decide) (by omega) W (HD.out 4 (by decide) W hW))
  have G3 := keep (fun W (hW : Below w.heap.size w W) => refget_some _ _ _ _ 2 (by decide) (by decide) (by omega) W (HD.out 8 (by decide) W hW))
  have G4 := keep (fun W (hW : Below w.heap.size w W) => refget_some _ _ _ _ 2 (by decide) (by decide) (by omega) W (HD.out 10 (by decide) W hW))
  have hN9 := hN_lt bs h12
  have hM9 := hM_lt bs h12
  have hE : decE bs = if wrongB (decF bs) = true then 1 else 0 := by
    rw [decE_rest HE.out (by omega) (by omega), ← hl, if_neg (by omega), if_neg (by omega)]
  have hdf : decF bs = ⟨hK bs, hP bs, hL bs, ⟨((bs.drop 12).take (hN bs)).toArray⟩, ⟨((bs.drop 12).drop (hN bs)).toArray⟩⟩ := rfl
  have hok := dec_ok bs h12 (by omega)
  have hk1 : ∀ W, Below w.heap.size w W → W.cell? ⟨b, o + 1, none⟩ = some (.int .u8 (hK bs)) := fun W hW => by
    obtain ⟨b', o', e', _, hc⟩ := (hb.step hW).br.at_ (j := 1) (by omega)
    injection e' with e'
    injection e' with e1 e2
    subst e1
    subst e2
    rw [hc]
    congr 2
    unfold hK
    have hx : (bs.drop 1).take 1 = [bs[1]] := by
      rw [List.drop_eq_getElem_cons (by omega)]
      rfl
    rw [hx]
    simp [numB]
  obtain ⟨nk, hnk⟩ : ∃ x, hK bs = x := ⟨_, rfl⟩
  rw [hnk] at hk1 hdf
  have hp9 : hP bs < 65536 := by
    have := num_lt bs 2 2 (by omega)
    unfold hP
    omega
  unfold hN hM at *
  unfold hP at hp9
  unfold hP hL at hdf
  unfold GetPost at G1 G2 G3 G4
  obtain ⟨np, hnp⟩ : ∃ x, numB ((bs.drop 2).take 2) = x := ⟨_, rfl⟩
  obtain ⟨nl, hnl⟩ : ∃ x, numB ((bs.drop 4).take 4) = x := ⟨_, rfl⟩
  obtain ⟨vn, hvn⟩ : ∃ x, numB ((bs.drop 8).take 2) = x := ⟨_, rfl⟩
  obtain ⟨vm, hvm⟩ : ∃ x, numB ((bs.drop 10).take 2) = x := ⟨_, rfl⟩
  rw [hnp] at G1 hp9 hdf
  rw [hnl] at G2 hdf
  rw [hvn] at G3 hN9 hg hdf
  rw [hvm] at G4 hM9 hg
  obtain ⟨la, hla⟩ : ∃ x : ByteArray, (⟨((bs.drop 12).take vn).toArray⟩ : ByteArray) = x := ⟨_, rfl⟩
  obtain ⟨pr, hpr⟩ : ∃ x : ByteArray, (⟨((bs.drop 12).drop vn).toArray⟩ : ByteArray) = x := ⟨_, rfl⟩
  rw [hla, hpr] at hdf
  rw [hdf] at hE hok
  have HDF := keep hdf
  have HOK := keep hok
  have HEE := keep hE
  obtain rfl : vn = 0 := by omega
  obtain rfl : vm = 0 := by omega
  have epr : la = pr := by
    rw [← hla, ← hpr, show bs.drop 12 = [] from List.drop_eq_nil_of_le (by omega)]
    rfl
  subst epr
  have HS0 := keep (show ∀ W, Below w.heap.size w W → W.cell? ⟨b, o + 1, none⟩ = some (.int .u8 nk) ∧ (convert 27 9 (.slice (some ⟨b, o, none⟩) 0 0)).run Tryd.prog W = .ok (.string la) W ∧ (convert 27 9 (.slice (some ⟨b, o, none⟩) 0 0)).run Tryd.prog W = .ok (.string la) W from fun W hW => by
    have e1 := (hb.step hW).drop 12 (by omega)
    have e2 := (hb.step hW).drop (12 + 0) (by omega)
    rw [← List.drop_drop] at e2
    refine ⟨hk1 W hW, ?_, ?_⟩
    · rw [← hla]
      have e3 := e1.take 0 (c - 12) (by omega) (by omega)
      rw [if_pos hc12, show c - 12 = 0 by omega] at e3
      exact conv_str e3
    · rw [← hpr]
      rw [if_pos (by omega), show c - (12 + 0) = 0 by omega, show n - (12 + 0) = 0 by omega] at e2
      exact conv_str e2)
  have L1 := keep l1
  have HCP := keep hcap
  have wz0 : IntKind.i64.wrap 0 = 0 := IntWalk.i64_in _ (by omega)
  have wz1 : IntKind.i64.wrap 12 = 12 := IntWalk.i64_in _ (by omega)
  have wz2 : IntKind.i64.wrap (12 + 0) = 12 := wz1
  have wz3 : max (12 : Int) 0 = 12 := by omega
  have wz4 : (12 : Int).toNat = 12 := rfl
  have i4 : ¬ ((n : Int) < 12) := by omega
  have i5 : ¬ ((12 : Int) < (n : Int)) := by omega
  have hvC : (12 : Int) ≤ (c : Int) := by omega
  have hv3 : (1 : Int) < (n : Int) := by omega
  have HC12 := keep hc12
  clear hc12
  have hp65 : (np : Int) % 65536 = np := by omega
  have hp66 : IntKind.u16.wrap (np : Int) = np := hp65
  clear hc0 hb h0 hvn hvm h3 h12 hl hnp hnl hE hlt l1 hk1 hnk hla hpr hdf hok hN9 hM9 hp9
  go_enter Tryd.func17, Tryd.ntmps17
  go_wp2_with fail
  refine (G1.out _ L1.out).mono ?_
  rintro e w1 ⟨X1, d1, m1, rfl, _, hw1⟩
  have B1 := keep (show Below w.heap.size w w1 by rw [hw1]; exact below_drewNv L1.out m1)
  have Q1 := keep (show SQ w1 w.heap.size oZ by rw [hw1]; exact R1.out.step (below_drewNv (Below.refl _ _) m1))
  clear hw1 hc1
  go_wp2_with fail
  refine (G2.out _ B1.out).mono ?_
  rintro e w2 ⟨X2, d2, m2, rfl, _, hw2⟩
  have B2 := keep (show Below w.heap.size w w2 by rw [hw2]; exact below_drewNv B1.out m2)
  have Q2 := keep (show SQ w2 w.heap.size oZ by rw [hw2]; exact Q1.out.step (below_drewNv (Below.refl _ _) m2))
  clear hw2
  go_wp2_with fail
  refine (G3.out _ B2.out).mono ?_
  rintro e w3 ⟨X3, d3, m3, rfl, _, hw3⟩
  have B3 := keep (show Below w.heap.size w w3 by rw [hw3]; exact below_drewNv B2.out m3)
  have Q3 := keep (show SQ w3 w.heap.size oZ by rw [hw3]; exact Q2.out.step (below_drewNv (Below.refl _ _) m3))
  clear hw3
  go_wp2_with fail
  refine (G4.out _ B3.out).mono ?_
  rintro e w4 ⟨X4, d4, m4, rfl, _, hw4⟩
  have B4 := keep (show Below w.heap.size w w4 by rw [hw4]; exact below_drewNv B3.out m4)
  have Q4 := keep (show SQ w4 w.heap.size oZ by rw [hw4]; exact Q3.out.step (below_drewNv (Below.refl _ _) m4))
  clear hw4
  have B4d := keep B4.out.drew
  have Q4d := keep (Q4.out.step (Below.refl _ _).drew)
  go_wp2_with fail
  refine wp_region_held_drew (S := (fun w' => w'.cell? ⟨b, o + 1, none⟩ = some (.int .u8 nk) ∧ (convert 27 9 (.slice (some ⟨b, o, none⟩) 0 0)).run Tryd.prog w' = .ok (.string la) w' ∧ (convert 27 9 (.slice (some ⟨b, o, none⟩) 0 0)).run Tryd.prog w' = .ok (.string la) w')) (by kernel_rfl) (HS0.out _ B4d.out) (fun hHeld => ?_)
  refine wpAnyH_take (i := 0) (oi := ⟨some 83, _, _, _, _, _⟩) (v := ?vr11x0) rfl (by kernel_rfl) (by kernel_rfl) (by kernel_rfl) (fun _ _ _ h => h) (Or.inl ⟨by rfl, ?hyr11x0⟩) (by assumption) ?restr11x0
  case hyr11x0 => (intro wz hSw; obtain ⟨hs0, hs1, hs2⟩ := hSw; go_simp <;> (try with_reducible rfl))
  try simp only [Act.put, List.setIfInBounds_toArray, List.set_cons_zero, List.set_cons_succ]
  refine wpAnyH_take (i := 1) (oi := ⟨some 84, _, _, _, _, _⟩) (v := ?vr12x1) rfl (by kernel_rfl) (by kernel_rfl) (by kernel_rfl) (fun _ _ _ h => h) (Or.inl ⟨by rfl, ?hyr12x1⟩) (by assumption) ?restr12x1
  case hyr12x1 => (intro wz hSw; obtain ⟨hs0, hs1, hs2⟩ := hSw; go_simp <;> (try with_reducible rfl))
  try simp only [Act.put, List.setIfInBounds_toArray, List.set_cons_zero, List.set_cons_succ]
  refine wpAnyH_take (i := 2) (oi := ⟨some 85, _, _, _, _, _⟩) (v := ?vr13x2) rfl (by kernel_rfl) (by kernel_rfl) (by kernel_rfl) (fun _ _ _ h => h) (Or.inl ⟨by rfl, ?hyr13x2⟩) (by assumption) ?restr13x2
  case hyr13x2 => (intro wz hSw; obtain ⟨hs0, hs1, hs2⟩ := hSw; go_simp <;> (try with_reducible rfl))
  try simp only [Act.put, List.setIfInBounds_toArray, List.set_cons_zero, List.set_cons_succ]
  refine wpAnyH_take (i := 3) (oi := ⟨some 86, _, _, _, _, _⟩) (v := ?vr14x3) rfl (by kernel_rfl) (by kernel_rfl) (by kernel_rfl) (fun _ _ _ h => h) (Or.inl ⟨by rfl, ?hyr14x3⟩) (by assumption) ?restr14x3
  case hyr14x3 => (intro wz hSw; obtain ⟨hs0, hs1, hs2⟩ := hSw; go_simp <;> (try with_reducible rfl))
  try simp only [Act.put, List.setIfInBounds_toArray, List.set_cons_zero, List.set_cons_succ]
  refine wpAnyH_take (i := 4) (oi := ⟨some 87, _, _, _, _, _⟩) (v := ?vr15x4) rfl (by kernel_rfl) (by kernel_rfl) (by kernel_rfl) (fun _ _ _ h => h) (Or.inl ⟨by rfl, ?hyr15x4⟩) (by assumption) ?restr15x4
  case hyr15x4 => (intro wz hSw; obtain ⟨hs0, hs1, hs2⟩ := hSw; go_simp <;> (try with_reducible rfl))
  try simp only [Act.put, List.setIfInBounds_toArray, List.set_cons_zero, List.set_cons_succ]
  refine wpAnyH_take (i := 5) (oi := ⟨some 88, _, _, _, _, _⟩) (v := ?vr16x5) rfl (by kernel_rfl) (by kernel_rfl) (by kernel_rfl) (fun _ _ _ h => h) (Or.inl ⟨by rfl, ?hyr16x5⟩) (by assumption) ?restr16x5
  case hyr16x5 => (intro wz hSw; obtain ⟨hs0, hs1, hs2⟩ := hSw; go_simp <;> (try with_reducible rfl))
  try simp only [Act.put, List.setIfInBounds_toArray, List.set_cons_zero, List.set_cons_succ]
  refine wpAnyH_take (i := 6) (oi := ⟨some 89, _, _, _, _, _⟩) (v := ?vr17x6) rfl (by kernel_rfl) (by kernel_rfl) (by kernel_rfl) (fun _ _ _ h => h) (Or.inl ⟨by rfl, ?hyr17x6⟩) (by assumption) ?restr17x6
  case hyr17x6 => (intro wz hSw; obtain ⟨hs0, hs1, hs2⟩ := hSw; go_simp <;> (try with_reducible rfl))
  try simp only [Act.put, List.setIfInBounds_toArray, List.set_cons_zero, List.set_cons_succ]
  refine wpAnyH_take (i := 7) (oi := ⟨some 90, _, _, _, _, _⟩) (v := ?vr18x7) rfl (by kernel_rfl) (by kernel_rfl) (by kernel_rfl) (fun _ _ _ h => h) (Or.inl ⟨by rfl, ?hyr18x7⟩) (by assumption) ?restr18x7
  case hyr18x7 => (intro wz hSw; obtain ⟨hs0, hs1, hs2⟩ := hSw; go_simp <;> (try with_reducible rfl))
  try simp only [Act.put, List.setIfInBounds_toArray, List.set_cons_zero, List.set_cons_succ]
  refine wpAnyH_take (i := 8) (oi := ⟨some 91, _, _, _, _, _⟩) (v := ?vr19x8) rfl (by kernel_rfl) (by kernel_rfl) (by kernel_rfl) (fun _ _ _ h => h) (Or.inl ⟨by rfl, ?hyr19x8⟩) (by assumption) ?restr19x8
  case hyr19x8 => (intro wz hSw; obtain ⟨hs0, hs1, hs2⟩ := hSw; go_simp <;> (try with_reducible rfl))
  try simp only [Act.put, List.setIfInBounds_toArray, List.set_cons_zero, List.set_cons_succ]
  refine wpAnyH_take (i := 9) (oi := ⟨some 92, _, _, _, _, _⟩) (v := ?vr110x9) rfl (by kernel_rfl) (by kernel_rfl) (by kernel_rfl) (fun _ _ _ h => h) (Or.inl ⟨by rfl, ?hyr110x9⟩) (by assumption) ?restr110x9
  case hyr110x9 => (intro wz hSw; obtain ⟨hs0, hs1, hs2⟩ := hSw; go_simp <;> (try with_reducible rfl))
  try simp only [Act.put, List.setIfInBounds_toArray, List.set_cons_zero, List.set_cons_succ]
  refine wpAnyH_take (i := 10) (oi := ⟨some 93, _, _, _, _, _⟩) (v := ?vr111x10) rfl (by kernel_rfl) (by kernel_rfl) (by kernel_rfl) (fun _ _ _ h => h) (Or.inl ⟨by rfl, ?hyr111x10⟩) (by assumption) ?restr111x10
  case hyr111x10 => (intro wz hSw; obtain ⟨hs0, hs1, hs2⟩ := hSw; have hc12 := HC12.out; go_simp <;> (try with_reducible rfl))
  try simp only [Act.put, List.setIfInBounds_toArray, List.set_cons_zero, List.set_cons_succ]
  refine wpAnyH_take (i := 11) (oi := ⟨some 94, _, _, _, _, _⟩) (v := ?vr112x11) rfl (by kernel_rfl) (by kernel_rfl) (by kernel_rfl) (fun _ _ _ h => h) (Or.inl ⟨by rfl, ?hyr112x11⟩) (by assumption) ?restr112x11
  case hyr112x11 => (intro wz hSw; obtain ⟨hs0, hs1, hs2⟩ := hSw; go_simp <;> (try with_reducible rfl))
  try simp only [Act.put, List.setIfInBounds_toArray, List.set_cons_zero, List.set_cons_succ]
  refine wpAnyH_take (i := 12) (oi := ⟨some 95, _, _, _, _, _⟩) (v := ?vr113x12) rfl (by kernel_rfl) (by kernel_rfl) (by kernel_rfl) (fun _ _ _ h => h) (Or.inl ⟨by rfl, ?hyr113x12⟩) (by assumption) ?restr113x12
  case hyr113x12 => (intro wz hSw; obtain ⟨hs0, hs1, hs2⟩ := hSw; go_simp <;> (try with_reducible rfl))
  try simp only [Act.put, List.setIfInBounds_toArray, List.set_cons_zero, List.set_cons_succ]
  refine wpAnyH_take (i := 13) (oi := ⟨some 96, _, _, _, _, _⟩) (v := ?vr114x13) rfl (by kernel_rfl) (by kernel_rfl) (by kernel_rfl) (fun _ _ _ h => h) (Or.inl ⟨by rfl, ?hyr114x13⟩) (by assumption) ?restr114x13
  case hyr114x13 => (intro wz hSw; obtain ⟨hs0, hs1, hs2⟩ := hSw; go_simp <;> (try with_reducible rfl))
  try simp only [Act.put, List.setIfInBounds_toArray, List.set_cons_zero, List.set_cons_succ]
  refine wpAnyH_take (i := 14) (oi := ⟨some 97, _, _, _, _, _⟩) (v := ?vr115x14) rfl (by kernel_rfl) (by kernel_rfl) (by kernel_rfl) (fun _ _ _ h => h) (Or.inl ⟨by rfl, ?hyr115x14⟩) (by assumption) ?restr115x14
  case hyr115x14 => (intro wz hSw; obtain ⟨hs0, hs1, hs2⟩ := hSw; go_simp <;> (try with_reducible rfl))
  try simp only [Act.put, List.setIfInBounds_toArray, List.set_cons_zero, List.set_cons_succ]
  refine wpAnyH_take (i := 15) (oi := ⟨some 98, _, _, _, _, _⟩) (v := ?vr116x15) rfl (by kernel_rfl) (by kernel_rfl) (by kernel_rfl) (fun _ _ _ h => h) (Or.inl ⟨by rfl, ?hyr116x15⟩) (by assumption) ?restr116x15
  case hyr116x15 => (intro wz hSw; obtain ⟨hs0, hs1, hs2⟩ := hSw; go_simp <;> (try with_reducible rfl))
  try simp only [Act.put, List.setIfInBounds_toArray, List.set_cons_zero, List.set_cons_succ]
  refine wpAnyH_take (i := 16) (oi := ⟨some 99, _, _, _, _, _⟩) (v := ?vr117x16) rfl (by kernel_rfl) (by kernel_rfl) (by kernel_rfl) (fun _ _ _ h => h) (Or.inl ⟨by rfl, ?hyr117x16⟩) (by assumption) ?restr117x16
  case hyr117x16 => (intro wz hSw; obtain ⟨hs0, hs1, hs2⟩ := hSw; go_simp <;> (try with_reducible rfl))
  try simp only [Act.put, List.setIfInBounds_toArray, List.set_cons_zero, List.set_cons_succ]
  refine wpAnyH_take (i := 17) (oi := ⟨some 100, _, _, _, _, _⟩) (v := ?vr118x17) rfl (by kernel_rfl) (by kernel_rfl) (by kernel_rfl) (fun _ _ _ h => h) (Or.inl ⟨by rfl, ?hyr118x17⟩) (by assumption) ?restr118x17
  case hyr118x17 => (intro wz hSw; obtain ⟨hs0, hs1, hs2⟩ := hSw; have hc12 := HC12.out; go_simp <;> (try with_reducible rfl))
  try simp only [Act.put, List.setIfInBounds_toArray, List.set_cons_zero, List.set_cons_succ]
  refine wpAnyH_take (i := 18) (oi := ⟨some 101, _, _, _, _, _⟩) (v := ?vr119x18) rfl (by kernel_rfl) (by kernel_rfl) (by kernel_rfl) (fun _ _ _ h => h) (Or.inl ⟨by rfl, ?hyr119x18⟩) (by assumption) ?restr119x18
  case hyr119x18 => (intro wz hSw; obtain ⟨hs0, hs1, hs2⟩ := hSw; go_simp <;> (try with_reducible rfl))
  try simp only [Act.put, List.setIfInBounds_toArray, List.set_cons_zero, List.set_cons_succ]
  refine wpAnyH_take (i := 19) (oi := ⟨some 102, _, _, _, _, _⟩) (v := ?vr120x19) rfl (by kernel_rfl) (by kernel_rfl) (by kernel_rfl) (fun _ _ _ h => h) (Or.inl ⟨by rfl, ?hyr120x19⟩) (by assumption) ?restr120x19
  case hyr120x19 => (intro wz hSw; obtain ⟨hs0, hs1, hs2⟩ := hSw; go_simp <;> (try with_reducible rfl))
  try simp only [Act.put, List.setIfInBounds_toArray, List.set_cons_zero, List.set_cons_succ]
  refine wpAnyH_ready (rs := [20]) (by kernel_rfl) (by simp) (AllReadyH.cons (o := ⟨some 17, _, _, _, _, _⟩) rfl (fun K hK => ?_) AllReadyH.nil)
  go_simp
  refine hK.out _ _ (HS0.out _ (B4d.out.alloc B4d.out.size _)) (fun hHeld => ?_)
  clear hK K
  try simp only [Act.put, List.setIfInBounds_toArray, List.set_cons_zero, List.set_cons_succ]
  have B5 := keep (show Below w.heap.size w (w4.alloc (.cells #[.int .u8 0, .int .u16 0, .int .u32 0, .string ⟨#[]⟩, .string ⟨#[]⟩] 32)).drew from (B4.out.alloc B4.out.size _).drew)
  have S5 := keep (show SQ (w4.alloc (.cells #[.int .u8 0, .int .u16 0, .int .u32 0, .string ⟨#[]⟩, .string ⟨#[]⟩] 32)).drew w4.heap.size oZ from (SQ.laid w4 oZ).step (Below.refl _ _).drew)
  have Q5 := keep (show SQ (w4.alloc (.cells #[.int .u8 0, .int .u16 0, .int .u32 0, .string ⟨#[]⟩, .string ⟨#[]⟩] 32)).drew w.heap.size oZ from (Q4.out.step (below_lay w4 _)).step (Below.refl _ _).drew)
  have HNS := keep Q4.out.lt
  obtain ⟨W5, hW5⟩ : ∃ W5, (w4.alloc (.cells #[.int .u8 0, .int .u16 0, .int .u32 0, .string ⟨#[]⟩, .string ⟨#[]⟩] 32)).drew = W5 := ⟨_, rfl⟩
  rw [hW5] at B5 S5 Q5
  simp only [hW5] at hHeld ⊢
  obtain ⟨S, hS⟩ : ∃ S, w4.heap.size = S := ⟨_, rfl⟩
  rw [hS] at S5 HNS
  simp only [hS]
  clear hS hW5 B4d Q4d
  obtain ⟨c0, c1, c2, c3, c4⟩ := S5.out.ob
  dsimp only [oZ] at c0 c1 c2 c3 c4
  have f0 := S5.out.fz 0
  have f1 := S5.out.fz 1
  have f2 := S5.out.fz 2
  have f3 := S5.out.fz 3
  have f4 := S5.out.fz 4
  refine wpAnyH_ready (rs := [21]) (by kernel_rfl) (by simp) (AllReadyH.cons (o := ⟨none, _, _, _, _, _⟩) rfl (fun K hK => ?_) AllReadyH.nil)
  go_simp
  refine hK.out _ _ (HS0.out _ (below5 B5.out (Nat.le_of_lt HNS.out) _ _ _ _ _)) (fun hHeld => ?_)
  clear hK K
  try simp only [Act.put, List.setIfInBounds_toArray, List.set_cons_zero, List.set_cons_succ]
  have S6 := keep (S5.out.laid5 ⟨nk, (np : Int), (nl : Int), la, la⟩)
  have Q6 := keep (((((Q5.out.else_ (k := S) (j := 0) (Nat.ne_of_lt HNS.out) (.int .u8 nk)).else_ (k := S) (j := 1) (Nat.ne_of_lt HNS.out) (.int .u16 (np : Int))).else_ (k := S) (j := 2) (Nat.ne_of_lt HNS.out) (.int .u32 (nl : Int))).else_ (k := S) (j := 3) (Nat.ne_of_lt HNS.out) (.string la)).else_ (k := S) (j := 4) (Nat.ne_of_lt HNS.out) (.string la))
  have B6 := keep (below5 B5.out (Nat.le_of_lt HNS.out) (.int .u8 nk) (.int .u16 (np : Int)) (.int .u32 (nl : Int)) (.string la) (.string la))
  dsimp only at S6
  obtain ⟨W6, hW6⟩ : ∃ W6, ((((W5.setCell ⟨S, 0, none⟩ (.int .u8 nk)).setCell ⟨S, 1, none⟩ (.int .u16 (np : Int))).setCell ⟨S, 2, none⟩ (.int .u32 (nl : Int))).setCell ⟨S, 3, none⟩ (.string la)).setCell ⟨S, 4, none⟩ (.string la) = W6 := ⟨_, rfl⟩
  rw [hW6] at S6 Q6 B6
  simp only [hW6] at hHeld ⊢
  clear hW6 c0 c1 c2 c3 c4 f0 f1 f2 f3 f4 hHeld
  refine wpAnyH_done (by kernel_rfl) ?_ _
  have KW := may_any ⟨nk, (np : Int), (nl : Int), la, la⟩ HOK.out W6
  have HE2 := HEE.out
  have S4' := keep (show SQ W6 S ⟨nk, (np : Int), (nl : Int), la, la⟩ from S6.out)
  obtain ⟨a0, a1, a2, a3, a4⟩ := S4'.out.ob
  dsimp only at a0 a1 a2 a3 a4
  cases hw : wrongB ⟨nk, (np : Int), (nl : Int), la, la⟩
  all_goals
    rw [hw] at KW HE2
    simp only [if_true, if_false, Bool.false_eq_true] at HE2
    dsimp only [OV.cells] at KW
    have KW := keep KW
    have HE3 := keep HE2
    clear HE2 hw
    go_wp2_with fail
    refine KW.out.mono ?_
    rintro e w5 ⟨rfl, hb5⟩
    have S5' := S4'.out.step hb5
    have R5 := keep (Q6.out.step hb5)
    have B7 := keep (B6.out.trans (hb5.mono B6.out.size))
    obtain ⟨s0, s1, s2, s3, s4⟩ := S5'.ob
    obtain ⟨z0, z1, z2, z3, z4⟩ := R5.out.ob
    dsimp only [oZ] at s0 s1 s2 s3 s4 z0 z1 z2 z3 z4
    have y0 := R5.out.fz 0
    have y1 := R5.out.fz 1
    have y2 := R5.out.fz 2
    have y3 := R5.out.fz 3
    have y4 := R5.out.fz 4
    clear S5' hb5 a0 a1 a2 a3 a4
    dsimp only
    go_wp2_with fail
  · exact bodyPost_ret (ret_rq1 rfl _ _ w.heap.size ⟨nk, (np : Int), (nl : Int), la, la⟩ rfl (R5.out.laid5 ⟨nk, (np : Int), (nl : Int), la, la⟩)) rfl (decP_ok HE3.out (by rw [HDF.out]; rfl) (below5 B7.out (Nat.le_refl _) _ _ _ _ _))
  · exact bodyPost_ret (ret_rq1 rfl _ _ w.heap.size oZ rfl (R5.out.laid5 oZ)) rfl (decP_bad HE3.out (by decide) rfl (below5 B7.out (Nat.le_refl _) _ _ _ _ _))
set_option maxRecDepth 100000 in
set_option maxHeartbeats 8000000 in
theorem decodeR_good2 (A : Option Addr) (n c : Nat) (bs : List UInt8) (w : World) (hb : BS w A n c bs) (hn : n ≤ 100000) (h12 : 12 ≤ bs.length) (h3 : bs.headD 0 = 3) (hg : hN bs ≤ 256 ∧ hM bs ≤ 256 ∧ n - 12 = hN bs + hM bs) (hc12 : c ≠ 12) (hq : c = 12 + hN bs) :
    Calls Tryd.prog 17 #[.slice A n c] w (DecP bs w) := by
  have l1 := below_lay w (.cells oZ.cells.toArray 32)
  have R1 := keep (SQ.laid w oZ)
  have hl := hb.len
  have hcap := hb.cap
  have h0 : bs ≠ [] := by intro h; rw [h] at h12; simp at h12
  have HE := keep (show ¬ (bs ≠ [] ∧ bs.headD 0 ≠ 3) from fun h => h.2 h3)
  obtain ⟨b, o, rfl, hlt, hc0⟩ := hb.br.at_ (j := 0) (List.length_pos_iff.2 h0)
  have hn0 : (0 : Int) < (n : Int) := by omega
  have hn12 : ((n : Int) < 12) = False := by simp; omega
  have hnI : (12 : Int) ≤ (n : Int) := by omega
  have hc1 : (w.alloc (.cells oZ.cells.toArray 32)).cell? ⟨b, o, none⟩ = some (.int .u8 3) := by
    have := (l1.cell (p := ⟨b, o + 0, none⟩) hlt).trans hc0
    cases bs with
    | nil => exact absurd rfl h0
    | cons x r =>
      have hx : x = 3 := h3
      subst hx
      simpa [bc] using this
  dsimp only [oZ, OV.cells] at hc1
  have HD := keep (fun k (hk : k ≤ 10) W (hW : Below w.heap.size w W) => show BS W (some ⟨b, o + k, none⟩) (n - k) (c - k) (bs.drop k) by
    have h1 := (hb.step hW).drop k (by omega)
    rw [if_neg (by omega)] at h1
    simp only [Option.map_some, Addr.add_lit] at h1
    exact h1)
  have G1 := keep (fun W (hW : Below w.heap.size w W) => refget_some _ _ _ _ 2 (by decide) (by decide) (by omega) W (HD.out 2 (by decide) W hW))
  have G2 := keep (fun W (hW : Below w.heap.size w W) => refget_some _ _ _ _ 4 (by decide) (by decide) (by omega) W (HD.out 4 (by decide) W hW))
  have G3 := keep (fun W (hW : Below w.heap.size w W) => refget_some _ _ _ _ 2 (by decide) (by decide) (by omega) W (HD.out 8 (by decide) W hW))
  have G4 := keep (fun W (hW : Below w.heap.size w W) => refget_some _ _ _ _ 2 (by decide) (by decide) (by omega) W (HD.out 10 (by decide) W hW))
  have hN9 := hN_lt bs h12
  have hM9 := hM_lt bs h12
  have hE : decE bs = if wrongB (decF bs) = true then 1 else 0 := by
    rw [decE_rest HE.out (by omega) (by omega), ← hl, if_neg (by omega), if_neg (by omega)]
  have hdf : decF bs = ⟨hK bs, hP bs, hL bs, ⟨((bs.drop 12).take (hN bs)).toArray⟩, ⟨((bs.drop 12).drop (hN bs)).toArray⟩⟩ := rfl
  have hok := dec_ok bs h12 (by omega)
  have hk1 : ∀ W, Below w.heap.size w W → W.cell? ⟨b, o + 1, none⟩ = some (.int .u8 (hK bs)) := fun W hW => by
    obtain ⟨b', o', e', _, hc⟩ := (hb.step hW).br.at_ (j := 1) (by omega)
    injection e' with e'
    injection e' with e1 e2
    subst e1
    subst e2
    rw [hc]
    congr 2
    unfold hK
    have hx : (bs.drop 1).take 1 = [bs[1]] := by
      rw [List.drop_eq_getElem_cons (by omega)]
      rfl
    rw [hx]
    simp [numB]
  obtain ⟨nk, hnk⟩ : ∃ x, hK bs = x := ⟨_, rfl⟩
  rw [hnk] at hk1 hdf
  have hp9 : hP bs < 65536 := by
    have := num_lt bs 2 2 (by omega)
    unfold hP
    omega
  unfold hN hM at *
  unfold hP at hp9
  unfold hP hL at hdf
  unfold GetPost at G1 G2 G3 G4
  obtain ⟨np, hnp⟩ : ∃ x, numB ((bs.drop 2).take 2) = x := ⟨_, rfl⟩
  obtain ⟨nl, hnl⟩ : ∃ x, numB ((bs.drop 4).take 4) = x := ⟨_, rfl⟩
  obtain ⟨vn, hvn⟩ : ∃ x, numB ((bs.drop 8).take 2) = x := ⟨_, rfl⟩
  obtain ⟨vm, hvm⟩ : ∃ x, numB ((bs.drop 10).take 2) = x := ⟨_, rfl⟩
  rw [hnp] at G1 hp9 hdf
  rw [hnl] at G2 hdf
  rw [hvn] at G3 hN9 hg hdf hq
  rw [hvm] at G4 hM9 hg
  obtain ⟨la, hla⟩ : ∃ x : ByteArray, (⟨((bs.drop 12).take vn).toArray⟩ : ByteArray) = x := ⟨_, rfl⟩
  obtain ⟨pr, hpr⟩ : ∃ x : ByteArray, (⟨((bs.drop 12).drop vn).toArray⟩ : ByteArray) = x := ⟨_, rfl⟩
  rw [hla, hpr] at hdf
  rw [hdf] at hE hok
  have HDF := keep hdf
  have HOK := keep hok
  have HEE := keep hE
  obtain rfl : vm = 0 := by omega
  subst hq
  have HS0 := keep (show ∀ W, Below w.heap.size w W → W.cell? ⟨b, o + 1, none⟩ = some (.int .u8 nk) ∧ (convert 27 9 (.slice (some ⟨b, o + 12, none⟩) vn vn)).run Tryd.prog W = .ok (.string la) W ∧ (convert 27 9 (.slice (some ⟨b, o, none⟩) 0 0)).run Tryd.prog W = .ok (.string pr) W from fun W hW => by
    have e1 := (hb.step hW).drop 12 (by omega)
    have e2 := (hb.step hW).drop (12 + vn) (by omega)
    rw [← List.drop_drop] at e2
    refine ⟨hk1 W hW, ?_, ?_⟩
    · rw [← hla]
      have e3 := e1.take vn (12 + vn - 12) (by omega) (by omega)
      rw [if_neg hc12, show 12 + vn - 12 = vn by omega] at e3
      simp only [Option.map_some, Addr.add_lit] at e3
      exact conv_str e3
    · rw [← hpr]
      rw [if_pos (by omega), show 12 + vn - (12 + vn) = 0 by omega, show n - (12 + vn) = 0 by omega] at e2
      exact conv_str e2)
  have L1 := keep l1
  have HCP := keep hcap
  have hvz : ¬ (vn = 0) := by omega
  have i1 : ¬ ((256 : Int) < (vn : Int)) := by omega
  have i4 : ¬ ((n : Int) < 12 + (vn : Int)) := by omega
  have i5 : ¬ (12 + (vn : Int) < (n : Int)) := by omega
  have j1 : (vn : Int) < 256 + 1 := by omega
  have hv1 : (12 : Int) ≤ 12 + (vn : Int) := by omega
  have hv3 : (1 : Int) < (n : Int) := by omega
  have wv : IntKind.i64.wrap (vn : Int) = (vn : Int) := IntWalk.i64_in _ (by omega)
  have wv2 : IntKind.i64.wrap (12 + (vn : Int)) = 12 + (vn : Int) := IntWalk.i64_in _ (by omega)
  have wv3 : max (12 + (vn : Int)) 0 = 12 + (vn : Int) := by omega
  have wv5 : (12 + (vn : Int)).toNat = 12 + vn := by omega
  have hv4 : (0 : Int) ≤ 12 + (vn : Int) := by omega
  have hp65 : (np : Int) % 65536 = np := by omega
  have hp66 : IntKind.u16.wrap (np : Int) = np := hp65
  clear hc0 hb h0 hvn hvm h3 h12 hl hnp hnl hE hlt l1 hk1 hnk hla hpr hdf hok hN9 hM9 hp9
  go_enter Tryd.func17, Tryd.ntmps17
  go_wp2_with fail
  refine (G1.out _ L1.out).mono ?_
  rintro e w1 ⟨X1, d1, m1, rfl, _, hw1⟩
  have B1 := keep (show Below w.heap.size w w1 by rw [hw1]; exact below_drewNv L1.out m1)
  have Q1 := keep (show SQ w1 w.heap.size oZ by rw [hw1]; exact R1.out.step (below_drewNv (Below.refl _ _) m1))
  clear hw1 hc1
  go_wp2_with fail
  refine (G2.out _ B1.out).mono ?_
  rintro e w2 ⟨X2, d2, m2, rfl, _, hw2⟩
  have B2 := keep (show Below w.heap.size w w2 by rw [hw2]; exact below_drewNv B1.out m2)
  have Q2 := keep (show SQ w2 w.heap.size oZ by rw [hw2]; exact Q1.out.step (below_drewNv (Below.refl _ _) m2))
  clear hw2
  go_wp2_with fail
  refine (G3.out _ B2.out).mono ?_
  rintro e w3 ⟨X3, d3, m3, rfl, _, hw3⟩
  have B3 := keep (show Below w.heap.size w w3 by rw [hw3]; exact below_drewNv B2.out m3)
  have Q3 := keep (show SQ w3 w.heap.size oZ by rw [hw3]; exact Q2.out.step (below_drewNv (Below.refl _ _) m3))
  clear hw3
  go_wp2_with fail
  refine (G4.out _ B3.out).mono ?_
  rintro e w4 ⟨X4, d4, m4, rfl, _, hw4⟩
  have B4 := keep (show Below w.heap.size w w4 by rw [hw4]; exact below_drewNv B3.out m4)
  have Q4 := keep (show SQ w4 w.heap.size oZ by rw [hw4]; exact Q3.out.step (below_drewNv (Below.refl _ _) m4))
  clear hw4
  have B4d := keep B4.out.drew
  have Q4d := keep (Q4.out.step (Below.refl _ _).drew)
  go_wp2_with fail
  refine wp_region_held_drew (S := (fun w' => w'.cell? ⟨b, o + 1, none⟩ = some (.int .u8 nk) ∧ (convert 27 9 (.slice (some ⟨b, o + 12, none⟩) vn vn)).run Tryd.prog w' = .ok (.string la) w' ∧ (convert 27 9 (.slice (some ⟨b, o, none⟩) 0 0)).run Tryd.prog w' = .ok (.string pr) w')) (by kernel_rfl) (HS0.out _ B4d.out) (fun hHeld => ?_)
  refine wpAnyH_take (i := 0) (oi := ⟨some 83, _, _, _, _, _⟩) (v := ?vr21x0) rfl (by kernel_rfl) (by kernel_rfl) (by kernel_rfl) (fun _ _ _ h => h) (Or.inl ⟨by rfl, ?hyr21x0⟩) (by assumption) ?restr21x0
  case hyr21x0 => (intro wz hSw; obtain ⟨hs0, hs1, hs2⟩ := hSw; go_simp <;> (try with_reducible rfl))
  try simp only [Act.put, List.setIfInBounds_toArray, List.set_cons_zero, List.set_cons_succ]
  refine wpAnyH_take (i := 1) (oi := ⟨some 84, _, _, _, _, _⟩) (v := ?vr22x1) rfl (by kernel_rfl) (by kernel_rfl) (by kernel_rfl) (fun _ _ _ h => h) (Or.inl ⟨by rfl, ?hyr22x1⟩) (by assumption) ?restr22x1
  case hyr22x1 => (intro wz hSw; obtain ⟨hs0, hs1, hs2⟩ := hSw; go_simp <;> (try with_reducible rfl))
  try simp only [Act.put, List.setIfInBounds_toArray, List.set_cons_zero, List.set_cons_succ]
  refine wpAnyH_take (i := 2) (oi := ⟨some 85, _, _, _, _, _⟩) (v := ?vr23x2) rfl (by kernel_rfl) (by kernel_rfl) (by kernel_rfl) (fun _ _ _ h => h) (Or.inl ⟨by rfl, ?hyr23x2⟩) (by assumption) ?restr23x2
  case hyr23x2 => (intro wz hSw; obtain ⟨hs0, hs1, hs2⟩ := hSw; go_simp <;> (try with_reducible rfl))
  try simp only [Act.put, List.setIfInBounds_toArray, List.set_cons_zero, List.set_cons_succ]
  refine wpAnyH_take (i := 3) (oi := ⟨some 86, _, _, _, _, _⟩) (v := ?vr24x3) rfl (by kernel_rfl) (by kernel_rfl) (by kernel_rfl) (fun _ _ _ h => h) (Or.inl ⟨by rfl, ?hyr24x3⟩) (by assumption) ?restr24x3
  case hyr24x3 => (intro wz hSw; obtain ⟨hs0, hs1, hs2⟩ := hSw; go_simp <;> (try with_reducible rfl))
  try simp only [Act.put, List.setIfInBounds_toArray, List.set_cons_zero, List.set_cons_succ]
  refine wpAnyH_take (i := 4) (oi := ⟨some 87, _, _, _, _, _⟩) (v := ?vr25x4) rfl (by kernel_rfl) (by kernel_rfl) (by kernel_rfl) (fun _ _ _ h => h) (Or.inl ⟨by rfl, ?hyr25x4⟩) (by assumption) ?restr25x4
  case hyr25x4 => (intro wz hSw; obtain ⟨hs0, hs1, hs2⟩ := hSw; go_simp <;> (try with_reducible rfl))
  try simp only [Act.put, List.setIfInBounds_toArray, List.set_cons_zero, List.set_cons_succ]
  refine wpAnyH_take (i := 5) (oi := ⟨some 88, _, _, _, _, _⟩) (v := ?vr26x5) rfl (by kernel_rfl) (by kernel_rfl) (by kernel_rfl) (fun _ _ _ h => h) (Or.inl ⟨by rfl, ?hyr26x5⟩) (by assumption) ?restr26x5
  case hyr26x5 => (intro wz hSw; obtain ⟨hs0, hs1, hs2⟩ := hSw; go_simp <;> (try with_reducible rfl))
  try simp only [Act.put, List.setIfInBounds_toArray, List.set_cons_zero, List.set_cons_succ]
  refine wpAnyH_take (i := 6) (oi := ⟨some 89, _, _, _, _, _⟩) (v := ?vr27x6) rfl (by kernel_rfl) (by kernel_rfl) (by kernel_rfl) (fun _ _ _ h => h) (Or.inl ⟨by rfl, ?hyr27x6⟩) (by assumption) ?restr27x6
  case hyr27x6 => (intro wz hSw; obtain ⟨hs0, hs1, hs2⟩ := hSw; go_simp <;> (try with_reducible rfl))
  try simp only [Act.put, List.setIfInBounds_toArray, List.set_cons_zero, List.set_cons_succ]
  refine wpAnyH_take (i := 7) (oi := ⟨some 90, _, _, _, _, _⟩) (v := ?vr28x7) rfl (by kernel_rfl) (by kernel_rfl) (by kernel_rfl) (fun _ _ _ h => h) (Or.inl ⟨by rfl, ?hyr28x7⟩) (by assumption) ?restr28x7
  case hyr28x7 => (intro wz hSw; obtain ⟨hs0, hs1, hs2⟩ := hSw; go_simp <;> (try with_reducible rfl))
  try simp only [Act.put, List.setIfInBounds_toArray, List.set_cons_zero, List.set_cons_succ]
  refine wpAnyH_take (i := 8) (oi := ⟨some 91, _, _, _, _, _⟩) (v := ?vr29x8) rfl (by kernel_rfl) (by kernel_rfl) (by kernel_rfl) (fun _ _ _ h => h) (Or.inl ⟨by rfl, ?hyr29x8⟩) (by assumption) ?restr29x8
  case hyr29x8 => (intro wz hSw; obtain ⟨hs0, hs1, hs2⟩ := hSw; go_simp <;> (try with_reducible rfl))
  try simp only [Act.put, List.setIfInBounds_toArray, List.set_cons_zero, List.set_cons_succ]
  refine wpAnyH_take (i := 9) (oi := ⟨some 92, _, _, _, _, _⟩) (v := ?vr210x9) rfl (by kernel_rfl) (by kernel_rfl) (by kernel_rfl) (fun _ _ _ h => h) (Or.inl ⟨by rfl, ?hyr210x9⟩) (by assumption) ?restr210x9
  case hyr210x9 => (intro wz hSw; obtain ⟨hs0, hs1, hs2⟩ := hSw; go_simp <;> (try with_reducible rfl))
  try simp only [Act.put, List.setIfInBounds_toArray, List.set_cons_zero, List.set_cons_succ]
  refine wpAnyH_take (i := 10) (oi := ⟨some 93, _, _, _, _, _⟩) (v := ?vr211x10) rfl (by kernel_rfl) (by kernel_rfl) (by kernel_rfl) (fun _ _ _ h => h) (Or.inl ⟨by rfl, ?hyr211x10⟩) (by assumption) ?restr211x10
  case hyr211x10 => (intro wz hSw; obtain ⟨hs0, hs1, hs2⟩ := hSw; go_simp <;> (try with_reducible rfl))
  try simp only [Act.put, List.setIfInBounds_toArray, List.set_cons_zero, List.set_cons_succ]
  refine wpAnyH_take (i := 11) (oi := ⟨some 94, _, _, _, _, _⟩) (v := ?vr212x11) rfl (by kernel_rfl) (by kernel_rfl) (by kernel_rfl) (fun _ _ _ h => h) (Or.inl ⟨by rfl, ?hyr212x11⟩) (by assumption) ?restr212x11
  case hyr212x11 => (intro wz hSw; obtain ⟨hs0, hs1, hs2⟩ := hSw; go_simp <;> (try with_reducible rfl))
  try simp only [Act.put, List.setIfInBounds_toArray, List.set_cons_zero, List.set_cons_succ]
  refine wpAnyH_take (i := 12) (oi := ⟨some 95, _, _, _, _, _⟩) (v := ?vr213x12) rfl (by kernel_rfl) (by kernel_rfl) (by kernel_rfl) (fun _ _ _ h => h) (Or.inl ⟨by rfl, ?hyr213x12⟩) (by assumption) ?restr213x12
  case hyr213x12 => (intro wz hSw; obtain ⟨hs0, hs1, hs2⟩ := hSw; go_simp <;> (try with_reducible rfl))
  try simp only [Act.put, List.setIfInBounds_toArray, List.set_cons_zero, List.set_cons_succ]
  refine wpAnyH_take (i := 13) (oi := ⟨some 96, _, _, _, _, _⟩) (v := ?vr214x13) rfl (by kernel_rfl) (by kernel_rfl) (by kernel_rfl) (fun _ _ _ h => h) (Or.inl ⟨by rfl, ?hyr214x13⟩) (by assumption) ?restr214x13
  case hyr214x13 => (intro wz hSw; obtain ⟨hs0, hs1, hs2⟩ := hSw; go_simp <;> (try with_reducible rfl))
  try simp only [Act.put, List.setIfInBounds_toArray, List.set_cons_zero, List.set_cons_succ]
  refine wpAnyH_take (i := 14) (oi := ⟨some 97, _, _, _, _, _⟩) (v := ?vr215x14) rfl (by kernel_rfl) (by kernel_rfl) (by kernel_rfl) (fun _ _ _ h => h) (Or.inl ⟨by rfl, ?hyr215x14⟩) (by assumption) ?restr215x14
  case hyr215x14 => (intro wz hSw; obtain ⟨hs0, hs1, hs2⟩ := hSw; go_simp <;> (try with_reducible rfl))
  try simp only [Act.put, List.setIfInBounds_toArray, List.set_cons_zero, List.set_cons_succ]
  refine wpAnyH_take (i := 15) (oi := ⟨some 98, _, _, _, _, _⟩) (v := ?vr216x15) rfl (by kernel_rfl) (by kernel_rfl) (by kernel_rfl) (fun _ _ _ h => h) (Or.inl ⟨by rfl, ?hyr216x15⟩) (by assumption) ?restr216x15
  case hyr216x15 => (intro wz hSw; obtain ⟨hs0, hs1, hs2⟩ := hSw; go_simp <;> (try with_reducible rfl))
  try simp only [Act.put, List.setIfInBounds_toArray, List.set_cons_zero, List.set_cons_succ]
  refine wpAnyH_take (i := 16) (oi := ⟨some 99, _, _, _, _, _⟩) (v := ?vr217x16) rfl (by kernel_rfl) (by kernel_rfl) (by kernel_rfl) (fun _ _ _ h => h) (Or.inl ⟨by rfl, ?hyr217x16⟩) (by assumption) ?restr217x16
  case hyr217x16 => (intro wz hSw; obtain ⟨hs0, hs1, hs2⟩ := hSw; go_simp <;> (try with_reducible rfl))
  try simp only [Act.put, List.setIfInBounds_toArray, List.set_cons_zero, List.set_cons_succ]
  refine wpAnyH_take (i := 17) (oi := ⟨some 100, _, _, _, _, _⟩) (v := ?vr218x17) rfl (by kernel_rfl) (by kernel_rfl) (by kernel_rfl) (fun _ _ _ h => h) (Or.inl ⟨by rfl, ?hyr218x17⟩) (by assumption) ?restr218x17
  case hyr218x17 => (intro wz hSw; obtain ⟨hs0, hs1, hs2⟩ := hSw; go_simp <;> (try with_reducible rfl))
  try simp only [Act.put, List.setIfInBounds_toArray, List.set_cons_zero, List.set_cons_succ]
  refine wpAnyH_take (i := 18) (oi := ⟨some 101, _, _, _, _, _⟩) (v := ?vr219x18) rfl (by kernel_rfl) (by kernel_rfl) (by kernel_rfl) (fun _ _ _ h => h) (Or.inl ⟨by rfl, ?hyr219x18⟩) (by assumption) ?restr219x18
  case hyr219x18 => (intro wz hSw; obtain ⟨hs0, hs1, hs2⟩ := hSw; go_simp <;> (try with_reducible rfl))
  try simp only [Act.put, List.setIfInBounds_toArray, List.set_cons_zero, List.set_cons_succ]
  refine wpAnyH_take (i := 19) (oi := ⟨some 102, _, _, _, _, _⟩) (v := ?vr220x19) rfl (by kernel_rfl) (by kernel_rfl) (by kernel_rfl) (fun _ _ _ h => h) (Or.inl ⟨by rfl, ?hyr220x19⟩) (by assumption) ?restr220x19
  case hyr220x19 => (intro wz hSw; obtain ⟨hs0, hs1, hs2⟩ := hSw; go_simp <;> (try with_reducible rfl))
  try simp only [Act.put, List.setIfInBounds_toArray, List.set_cons_zero, List.set_cons_succ]
  refine wpAnyH_ready (rs := [20]) (by kernel_rfl) (by simp) (AllReadyH.cons (o := ⟨some 17, _, _, _, _, _⟩) rfl (fun K hK => ?_) AllReadyH.nil)
  go_simp
  refine hK.out _ _ (HS0.out _ (B4d.out.alloc B4d.out.size _)) (fun hHeld => ?_)
  clear hK K
  try simp only [Act.put, List.setIfInBounds_toArray, List.set_cons_zero, List.set_cons_succ]
  have B5 := keep (show Below w.heap.size w (w4.alloc (.cells #[.int .u8 0, .int .u16 0, .int .u32 0, .string ⟨#[]⟩, .string ⟨#[]⟩] 32)).drew from (B4.out.alloc B4.out.size _).drew)
  have S5 := keep (show SQ (w4.alloc (.cells #[.int .u8 0, .int .u16 0, .int .u32 0, .string ⟨#[]⟩, .string ⟨#[]⟩] 32)).drew w4.heap.size oZ from (SQ.laid w4 oZ).step (Below.refl _ _).drew)
  have Q5 := keep (show SQ (w4.alloc (.cells #[.int .u8 0, .int .u16 0, .int .u32 0, .string ⟨#[]⟩, .string ⟨#[]⟩] 32)).drew w.heap.size oZ from (Q4.out.step (below_lay w4 _)).step (Below.refl _ _).drew)
  have HNS := keep Q4.out.lt
  obtain ⟨W5, hW5⟩ : ∃ W5, (w4.alloc (.cells #[.int .u8 0, .int .u16 0, .int .u32 0, .string ⟨#[]⟩, .string ⟨#[]⟩] 32)).drew = W5 := ⟨_, rfl⟩
  rw [hW5] at B5 S5 Q5
  simp only [hW5] at hHeld ⊢
  obtain ⟨S, hS⟩ : ∃ S, w4.heap.size = S := ⟨_, rfl⟩
  rw [hS] at S5 HNS
  simp only [hS]
  clear hS hW5 B4d Q4d
  obtain ⟨c0, c1, c2, c3, c4⟩ := S5.out.ob
  dsimp only [oZ] at c0 c1 c2 c3 c4
  have f0 := S5.out.fz 0
  have f1 := S5.out.fz 1
  have f2 := S5.out.fz 2
  have f3 := S5.out.fz 3
  have f4 := S5.out.fz 4
  refine wpAnyH_ready (rs := [21]) (by kernel_rfl) (by simp) (AllReadyH.cons (o := ⟨none, _, _, _, _, _⟩) rfl (fun K hK => ?_) AllReadyH.nil)
  go_simp
  refine hK.out _ _ (HS0.out _ (below5 B5.out (Nat.le_of_lt HNS.out) _ _ _ _ _)) (fun hHeld => ?_)
  clear hK K
  try simp only [Act.put, List.setIfInBounds_toArray, List.set_cons_zero, List.set_cons_succ]
  have S6 := keep (S5.out.laid5 ⟨nk, (np : Int), (nl : Int), la, pr⟩)
  have Q6 := keep (((((Q5.out.else_ (k := S) (j := 0) (Nat.ne_of_lt HNS.out) (.int .u8 nk)).else_ (k := S) (j := 1) (Nat.ne_of_lt HNS.out) (.int .u16 (np : Int))).else_ (k := S) (j := 2) (Nat.ne_of_lt HNS.out) (.int .u32 (nl : Int))).else_ (k := S) (j := 3) (Nat.ne_of_lt HNS.out) (.string la)).else_ (k := S) (j := 4) (Nat.ne_of_lt HNS.out) (.string pr))
  have B6 := keep (below5 B5.out (Nat.le_of_lt HNS.out) (.int .u8 nk) (.int .u16 (np : Int)) (.int .u32 (nl : Int)) (.string la) (.string pr))
  dsimp only at S6
  obtain ⟨W6, hW6⟩ : ∃ W6, ((((W5.setCell ⟨S, 0, none⟩ (.int .u8 nk)).setCell ⟨S, 1, none⟩ (.int .u16 (np : Int))).setCell ⟨S, 2, none⟩ (.int .u32 (nl : Int))).setCell ⟨S, 3, none⟩ (.string la)).setCell ⟨S, 4, none⟩ (.string pr) = W6 := ⟨_, rfl⟩
  rw [hW6] at S6 Q6 B6
  simp only [hW6] at hHeld ⊢
  clear hW6 c0 c1 c2 c3 c4 f0 f1 f2 f3 f4 hHeld
  refine wpAnyH_done (by kernel_rfl) ?_ _
  have KW := may_any ⟨nk, (np : Int), (nl : Int), la, pr⟩ HOK.out W6
  have HE2 := HEE.out
  have S4' := keep (show SQ W6 S ⟨nk, (np : Int), (nl : Int), la, pr⟩ from S6.out)
  obtain ⟨a0, a1, a2, a3, a4⟩ := S4'.out.ob
  dsimp only at a0 a1 a2 a3 a4
  cases hw : wrongB ⟨nk, (np : Int), (nl : Int), la, pr⟩
  all_goals
    rw [hw] at KW HE2
    simp only [if_true, if_false, Bool.false_eq_true] at HE2
    dsimp only [OV.cells] at KW
    have KW := keep KW
    have HE3 := keep HE2
    clear HE2 hw
    go_wp2_with fail
    refine KW.out.mono ?_
    rintro e w5 ⟨rfl, hb5⟩
    have S5' := S4'.out.step hb5
    have R5 := keep (Q6.out.step hb5)
    have B7 := keep (B6.out.trans (hb5.mono B6.out.size))
    obtain ⟨s0, s1, s2, s3, s4⟩ := S5'.ob
    obtain ⟨z0, z1, z2, z3, z4⟩ := R5.out.ob
    dsimp only [oZ] at s0 s1 s2 s3 s4 z0 z1 z2 z3 z4
    have y0 := R5.out.fz 0
    have y1 := R5.out.fz 1
    have y2 := R5.out.fz 2
    have y3 := R5.out.fz 3
    have y4 := R5.out.fz 4
    clear S5' hb5 a0 a1 a2 a3 a4
    dsimp only
    go_wp2_with fail
  · exact bodyPost_ret (ret_rq1 rfl _ _ w.heap.size ⟨nk, (np : Int), (nl : Int), la, pr⟩ rfl (R5.out.laid5 ⟨nk, (np : Int), (nl : Int), la, pr⟩)) rfl (decP_ok HE3.out (by rw [HDF.out]; rfl) (below5 B7.out (Nat.le_refl _) _ _ _ _ _))
  · exact bodyPost_ret (ret_rq1 rfl _ _ w.heap.size oZ rfl (R5.out.laid5 oZ)) rfl (decP_bad HE3.out (by decide) rfl (below5 B7.out (Nat.le_refl _) _ _ _ _ _))
set_option maxRecDepth 100000 in
set_option maxHeartbeats 8000000 in
theorem decodeR_good3 (A : Option Addr) (n c : Nat) (bs : List UInt8) (w : World) (hb : BS w A n c bs) (hn : n ≤ 100000) (h12 : 12 ≤ bs.length) (h3 : bs.headD 0 = 3) (hg : hN bs ≤ 256 ∧ hM bs ≤ 256 ∧ n - 12 = hN bs + hM bs) (hc12 : c ≠ 12) (hq : c ≠ 12 + hN bs) :
    Calls Tryd.prog 17 #[.slice A n c] w (DecP bs w) := by
  have l1 := below_lay w (.cells oZ.cells.toArray 32)
  have R1 := keep (SQ.laid w oZ)
  have hl := hb.len
  have hcap := hb.cap
  have h0 : bs ≠ [] := by intro h; rw [h] at h12; simp at h12
  have HE := keep (show ¬ (bs ≠ [] ∧ bs.headD 0 ≠ 3) from fun h => h.2 h3)
  obtain ⟨b, o, rfl, hlt, hc0⟩ := hb.br.at_ (j := 0) (List.length_pos_iff.2 h0)
  have hn0 : (0 : Int) < (n : Int) := by omega
  have hn12 : ((n : Int) < 12) = False := by simp; omega
  have hnI : (12 : Int) ≤ (n : Int) := by omega
  have hc1 : (w.alloc (.cells oZ.cells.toArray 32)).cell? ⟨b, o, none⟩ = some (.int .u8 3) := by
    have := (l1.cell (p := ⟨b, o + 0, none⟩) hlt).trans hc0
    cases bs with
    | nil => exact absurd rfl h0
    | cons x r =>
      have hx : x = 3 := h3
      subst hx
      simpa [bc] using this
  dsimp only [oZ, OV.cells] at hc1
  have HD := keep (fun k (hk : k ≤ 10) W (hW : Below w.heap.size w W) => show BS W (some ⟨b, o + k, none⟩) (n - k) (c - k) (bs.drop k) by
    have h1 := (hb.step hW).drop k (by omega)
    rw [if_neg (by omega)] at h1
    simp only [Option.map_some, Addr.add_lit] at h1
    exact h1)
  have G1 := keep (fun W (hW : Below w.heap.size w W) => refget_some _ _ _ _ 2 (by decide) (by decide) (by omega) W (HD.out 2 (by decide) W hW))
  have G2 := keep (fun W (hW : Below w.heap.size w W) => refget_some _ _ _ _ 4 (by decide) (by decide) (by omega) W (HD.out 4 (by decide) W hW))
  have G3 := keep (fun W (hW : Below w.heap.size w W) => refget_some _ _ _ _ 2 (by decide) (by decide) (by omega) W (HD.out 8 (by decide) W hW))
  have G4 := keep (fun W (hW : Below w.heap.size w W) => refget_some _ _ _ _ 2 (by decide) (by decide) (by omega) W (HD.out 10 (by decide) W hW))
  have hN9 := hN_lt bs h12
  have hM9 := hM_lt bs h12
  have hE : decE bs = if wrongB (decF bs) = true then 1 else 0 := by
    rw [decE_rest HE.out (by omega) (by omega), ← hl, if_neg (by omega), if_neg (by omega)]
  have hdf : decF bs = ⟨hK bs, hP bs, hL bs, ⟨((bs.drop 12).take (hN bs)).toArray⟩, ⟨((bs.drop 12).drop (hN bs)).toArray⟩⟩ := rfl
  have hok := dec_ok bs h12 (by omega)
  have hk1 : ∀ W, Below w.heap.size w W → W.cell? ⟨b, o + 1, none⟩ = some (.int .u8 (hK bs)) := fun W hW => by
    obtain ⟨b', o', e', _, hc⟩ := (hb.step hW).br.at_ (j := 1) (by omega)
    injection e' with e'
    injection e' with e1 e2
    subst e1
    subst e2
    rw [hc]
    congr 2
    unfold hK
    have hx : (bs.drop 1).take 1 = [bs[1]] := by
      rw [List.drop_eq_getElem_cons (by omega)]
      rfl
    rw [hx]
    simp [numB]
  obtain ⟨nk, hnk⟩ : ∃ x, hK bs = x := ⟨_, rfl⟩
  rw [hnk] at hk1 hdf
  have hp9 : hP bs < 65536 := by
    have := num_lt bs 2 2 (by omega)
    unfold hP
    omega
  unfold hN hM at *
  unfold hP at hp9
  unfold hP hL at hdf
  unfold GetPost at G1 G2 G3 G4
  obtain ⟨np, hnp⟩ : ∃ x, numB ((bs.drop 2).take 2) = x := ⟨_, rfl⟩
  obtain ⟨nl, hnl⟩ : ∃ x, numB ((bs.drop 4).take 4) = x := ⟨_, rfl⟩
  obtain ⟨vn, hvn⟩ : ∃ x, numB ((bs.drop 8).take 2) = x := ⟨_, rfl⟩
  obtain ⟨vm, hvm⟩ : ∃ x, numB ((bs.drop 10).take 2) = x := ⟨_, rfl⟩
  rw [hnp] at G1 hp9 hdf
  rw [hnl] at G2 hdf
  rw [hvn] at G3 hN9 hg hdf hq
  rw [hvm] at G4 hM9 hg
  obtain ⟨la, hla⟩ : ∃ x : ByteArray, (⟨((bs.drop 12).take vn).toArray⟩ : ByteArray) = x := ⟨_, rfl⟩
  obtain ⟨pr, hpr⟩ : ∃ x : ByteArray, (⟨((bs.drop 12).drop vn).toArray⟩ : ByteArray) = x := ⟨_, rfl⟩
  rw [hla, hpr] at hdf
  rw [hdf] at hE hok
  have HDF := keep hdf
  have HOK := keep hok
  have HEE := keep hE
  have HS0 := keep (show ∀ W, Below w.heap.size w W → W.cell? ⟨b, o + 1, none⟩ = some (.int .u8 nk) ∧ (convert 27 9 (.slice (some ⟨b, o + 12, none⟩) vn (c - 12))).run Tryd.prog W = .ok (.string la) W ∧ (convert 27 9 (.slice (some ⟨b, o + (12 + vn), none⟩) vm (c - (12 + vn)))).run Tryd.prog W = .ok (.string pr) W from fun W hW => by
    have e1 := (hb.step hW).drop 12 (by omega)
    have e2 := (hb.step hW).drop (12 + vn) (by omega)
    rw [← List.drop_drop] at e2
    refine ⟨hk1 W hW, ?_, ?_⟩
    · rw [← hla]
      have e3 := e1.take vn (c - 12) (by omega) (by omega)
      rw [if_neg hc12] at e3
      simp only [Option.map_some, Addr.add_lit] at e3
      exact conv_str e3
    · rw [← hpr]
      rw [if_neg (by omega), show n - (12 + vn) = vm by omega] at e2
      simp only [Option.map_some, Addr.add_lit] at e2
      exact conv_str e2)
  have L1 := keep l1
  have HCP := keep hcap
  have i1 : ¬ ((256 : Int) < (vn : Int)) := by omega
  have i2 : ¬ ((256 : Int) < (vm : Int)) := by omega
  have i4 : ¬ ((n : Int) < 12 + (vn : Int) + (vm : Int)) := by omega
  have i5 : ¬ (12 + (vn : Int) + (vm : Int) < (n : Int)) := by omega
  have j1 : (vn : Int) < 256 + 1 := by omega
  have j2 : (vm : Int) < 256 + 1 := by omega
  have hvc : 12 + vn ≤ c := by omega
  have hvC : (12 : Int) + (vn : Int) ≤ (c : Int) := by omega
  have hvD : (12 : Int) + (vn : Int) + (vm : Int) ≤ (c : Int) := by omega
  have hv1 : (12 : Int) ≤ 12 + (vn : Int) := by omega
  have hv2 : (12 : Int) + (vn : Int) ≤ 12 + (vn : Int) + (vm : Int) := by omega
  have hv3 : (1 : Int) < (n : Int) := by omega
  have wv : IntKind.i64.wrap (vn : Int) = (vn : Int) := IntWalk.i64_in _ (by omega)
  have wv2 : IntKind.i64.wrap (12 + (vn : Int)) = 12 + (vn : Int) := IntWalk.i64_in _ (by omega)
  have wv3 : max (12 + (vn : Int)) 0 = 12 + (vn : Int) := by omega
  have wv4 : max (12 + (vn : Int) + (vm : Int)) 0 = 12 + (vn : Int) + (vm : Int) := by omega
  have wv5 : (12 + (vn : Int)).toNat = 12 + vn := by omega
  have wv6 : (12 + (vn : Int) + (vm : Int)).toNat = 12 + vn + vm := by omega
  have hv4 : (0 : Int) ≤ 12 + (vn : Int) := by omega
  have hv5 : (0 : Int) ≤ 12 + (vn : Int) + (vm : Int) := by omega
  have hp65 : (np : Int) % 65536 = np := by omega
  have hp66 : IntKind.u16.wrap (np : Int) = np := hp65
  clear hc0 hb h0 hvn hvm h3 h12 hl hnp hnl hE hlt l1 hk1 hnk hla hpr hdf hok hN9 hM9 hp9
  go_enter Tryd.func17, Tryd.ntmps17
  go_wp2_with fail
  refine (G1.out _ L1.out).mono ?_
  rintro e w1 ⟨X1, d1, m1, rfl, _, hw1⟩
  have B1 := keep (show Below w.heap.size w w1 by rw [hw1]; exact below_drewNv L1.out m1)
  have Q1 := keep (show SQ w1 w.heap.size oZ by rw [hw1]; exact R1.out.step (below_drewNv (Below.refl _ _) m1))
  clear hw1 hc1
  go_wp2_with fail
  refine (G2.out _ B1.out).mono ?_
  rintro e w2 ⟨X2, d2, m2, rfl, _, hw2⟩
  have B2 := keep (show Below w.heap.size w w2 by rw [hw2]; exact below_drewNv B1.out m2)
  have Q2 := keep (show SQ w2 w.heap.size oZ by rw [hw2]; exact Q1.out.step (below_drewNv (Below.refl _ _) m2))
  clear hw2
  go_wp2_with fail
  refine (G3.out _ B2.out).mono ?_
  rintro e w3 ⟨X3, d3, m3, rfl, _, hw3⟩
  have B3 := keep (show Below w.heap.size w w3 by rw [hw3]; exact below_drewNv B2.out m3)
  have Q3 := keep (show SQ w3 w.heap.size oZ by rw [hw3]; exact Q2.out.step (below_drewNv (Below.refl _ _) m3))
  clear hw3
  go_wp2_with fail
  refine (G4.out _ B3.out).mono ?_
  rintro e w4 ⟨X4, d4, m4, rfl, _, hw4⟩
  have B4 := keep (show Below w.heap.size w w4 by rw [hw4]; exact below_drewNv B3.out m4)
  have Q4 := keep (show SQ w4 w.heap.size oZ by rw [hw4]; exact Q3.out.step (below_drewNv (Below.refl _ _) m4))
  clear hw4
  have B4d := keep B4.out.drew
  have Q4d := keep (Q4.out.step (Below.refl _ _).drew)
  go_wp2_with fail
  refine wp_region_held_drew (S := (fun w' => w'.cell? ⟨b, o + 1, none⟩ = some (.int .u8 nk) ∧ (convert 27 9 (.slice (some ⟨b, o + 12, none⟩) vn (c - 12))).run Tryd.prog w' = .ok (.string la) w' ∧ (convert 27 9 (.slice (some ⟨b, o + (12 + vn), none⟩) vm (c - (12 + vn)))).run Tryd.prog w' = .ok (.string pr) w')) (by kernel_rfl) (HS0.out _ B4d.out) (fun hHeld => ?_)
  refine wpAnyH_take (i := 0) (oi := ⟨some 83, _, _, _, _, _⟩) (v := ?vr31x0) rfl (by kernel_rfl) (by kernel_rfl) (by kernel_rfl) (fun _ _ _ h => h) (Or.inl ⟨by rfl, ?hyr31x0⟩) (by assumption) ?restr31x0
  case hyr31x0 => (intro wz hSw; obtain ⟨hs0, hs1, hs2⟩ := hSw; go_simp <;> (try with_reducible rfl))
  try simp only [Act.put, List.setIfInBounds_toArray, List.set_cons_zero, List.set_cons_succ]
  refine wpAnyH_take (i := 1) (oi := ⟨some 84, _, _, _, _, _⟩) (v := ?vr32x1) rfl (by kernel_rfl) (by kernel_rfl) (by kernel_rfl) (fun _ _ _ h => h) (Or.inl ⟨by rfl, ?hyr32x1⟩) (by assumption) ?restr32x1
  case hyr32x1 => (intro wz hSw; obtain ⟨hs0, hs1, hs2⟩ := hSw; go_simp <;> (try with_reducible rfl))
  try simp only [Act.put, List.setIfInBounds_toArray, List.set_cons_zero, List.set_cons_succ]
  refine wpAnyH_take (i := 2) (oi := ⟨some 85, _, _, _, _, _⟩) (v := ?vr33x2) rfl (by kernel_rfl) (by kernel_rfl) (by kernel_rfl) (fun _ _ _ h => h) (Or.inl ⟨by rfl, ?hyr33x2⟩) (by assumption) ?restr33x2
  case hyr33x2 => (intro wz hSw; obtain ⟨hs0, hs1, hs2⟩ := hSw; go_simp <;> (try with_reducible rfl))
  try simp only [Act.put, List.setIfInBounds_toArray, List.set_cons_zero, List.set_cons_succ]
  refine wpAnyH_take (i := 3) (oi := ⟨some 86, _, _, _, _, _⟩) (v := ?vr34x3) rfl (by kernel_rfl) (by kernel_rfl) (by kernel_rfl) (fun _ _ _ h => h) (Or.inl ⟨by rfl, ?hyr34x3⟩) (by assumption) ?restr34x3
  case hyr34x3 => (intro wz hSw; obtain ⟨hs0, hs1, hs2⟩ := hSw; go_simp <;> (try with_reducible rfl))
  try simp only [Act.put, List.setIfInBounds_toArray, List.set_cons_zero, List.set_cons_succ]
  refine wpAnyH_take (i := 4) (oi := ⟨some 87, _, _, _, _, _⟩) (v := ?vr35x4) rfl (by kernel_rfl) (by kernel_rfl) (by kernel_rfl) (fun _ _ _ h => h) (Or.inl ⟨by rfl, ?hyr35x4⟩) (by assumption) ?restr35x4
  case hyr35x4 => (intro wz hSw; obtain ⟨hs0, hs1, hs2⟩ := hSw; go_simp <;> (try with_reducible rfl))
  try simp only [Act.put, List.setIfInBounds_toArray, List.set_cons_zero, List.set_cons_succ]
  refine wpAnyH_take (i := 5) (oi := ⟨some 88, _, _, _, _, _⟩) (v := ?vr36x5) rfl (by kernel_rfl) (by kernel_rfl) (by kernel_rfl) (fun _ _ _ h => h) (Or.inl ⟨by rfl, ?hyr36x5⟩) (by assumption) ?restr36x5
  case hyr36x5 => (intro wz hSw; obtain ⟨hs0, hs1, hs2⟩ := hSw; go_simp <;> (try with_reducible rfl))
  try simp only [Act.put, List.setIfInBounds_toArray, List.set_cons_zero, List.set_cons_succ]
  refine wpAnyH_take (i := 6) (oi := ⟨some 89, _, _, _, _, _⟩) (v := ?vr37x6) rfl (by kernel_rfl) (by kernel_rfl) (by kernel_rfl) (fun _ _ _ h => h) (Or.inl ⟨by rfl, ?hyr37x6⟩) (by assumption) ?restr37x6
  case hyr37x6 => (intro wz hSw; obtain ⟨hs0, hs1, hs2⟩ := hSw; go_simp <;> (try with_reducible rfl))
  try simp only [Act.put, List.setIfInBounds_toArray, List.set_cons_zero, List.set_cons_succ]
  refine wpAnyH_take (i := 7) (oi := ⟨some 90, _, _, _, _, _⟩) (v := ?vr38x7) rfl (by kernel_rfl) (by kernel_rfl) (by kernel_rfl) (fun _ _ _ h => h) (Or.inl ⟨by rfl, ?hyr38x7⟩) (by assumption) ?restr38x7
  case hyr38x7 => (intro wz hSw; obtain ⟨hs0, hs1, hs2⟩ := hSw; go_simp <;> (try with_reducible rfl))
  try simp only [Act.put, List.setIfInBounds_toArray, List.set_cons_zero, List.set_cons_succ]
  refine wpAnyH_take (i := 8) (oi := ⟨some 91, _, _, _, _, _⟩) (v := ?vr39x8) rfl (by kernel_rfl) (by kernel_rfl) (by kernel_rfl) (fun _ _ _ h => h) (Or.inl ⟨by rfl, ?hyr39x8⟩) (by assumption) ?restr39x8
  case hyr39x8 => (intro wz hSw; obtain ⟨hs0, hs1, hs2⟩ := hSw; go_simp <;> (try with_reducible rfl))
  try simp only [Act.put, List.setIfInBounds_toArray, List.set_cons_zero, List.set_cons_succ]
  refine wpAnyH_take (i := 9) (oi := ⟨some 92, _, _, _, _, _⟩) (v := ?vr310x9) rfl (by kernel_rfl) (by kernel_rfl) (by kernel_rfl) (fun _ _ _ h => h) (Or.inl ⟨by rfl, ?hyr310x9⟩) (by assumption) ?restr310x9
  case hyr310x9 => (intro wz hSw; obtain ⟨hs0, hs1, hs2⟩ := hSw; go_simp <;> (try with_reducible rfl))
  try simp only [Act.put, List.setIfInBounds_toArray, List.set_cons_zero, List.set_cons_succ]
  refine wpAnyH_take (i := 10) (oi := ⟨some 93, _, _, _, _, _⟩) (v := ?vr311x10) rfl (by kernel_rfl) (by kernel_rfl) (by kernel_rfl) (fun _ _ _ h => h) (Or.inl ⟨by rfl, ?hyr311x10⟩) (by assumption) ?restr311x10
  case hyr311x10 => (intro wz hSw; obtain ⟨hs0, hs1, hs2⟩ := hSw; go_simp <;> (try with_reducible rfl))
  try simp only [Act.put, List.setIfInBounds_toArray, List.set_cons_zero, List.set_cons_succ]
  refine wpAnyH_take (i := 11) (oi := ⟨some 94, _, _, _, _, _⟩) (v := ?vr312x11) rfl (by kernel_rfl) (by kernel_rfl) (by kernel_rfl) (fun _ _ _ h => h) (Or.inl ⟨by rfl, ?hyr312x11⟩) (by assumption) ?restr312x11
  case hyr312x11 => (intro wz hSw; obtain ⟨hs0, hs1, hs2⟩ := hSw; go_simp <;> (try with_reducible rfl))
  try simp only [Act.put, List.setIfInBounds_toArray, List.set_cons_zero, List.set_cons_succ]
  refine wpAnyH_take (i := 12) (oi := ⟨some 95, _, _, _, _, _⟩) (v := ?vr313x12) rfl (by kernel_rfl) (by kernel_rfl) (by kernel_rfl) (fun _ _ _ h => h) (Or.inl ⟨by rfl, ?hyr313x12⟩) (by assumption) ?restr313x12
  case hyr313x12 => (intro wz hSw; obtain ⟨hs0, hs1, hs2⟩ := hSw; go_simp <;> (try with_reducible rfl))
  try simp only [Act.put, List.setIfInBounds_toArray, List.set_cons_zero, List.set_cons_succ]
  refine wpAnyH_take (i := 13) (oi := ⟨some 96, _, _, _, _, _⟩) (v := ?vr314x13) rfl (by kernel_rfl) (by kernel_rfl) (by kernel_rfl) (fun _ _ _ h => h) (Or.inl ⟨by rfl, ?hyr314x13⟩) (by assumption) ?restr314x13
  case hyr314x13 => (intro wz hSw; obtain ⟨hs0, hs1, hs2⟩ := hSw; go_simp <;> (try with_reducible rfl))
  try simp only [Act.put, List.setIfInBounds_toArray, List.set_cons_zero, List.set_cons_succ]
  refine wpAnyH_take (i := 14) (oi := ⟨some 97, _, _, _, _, _⟩) (v := ?vr315x14) rfl (by kernel_rfl) (by kernel_rfl) (by kernel_rfl) (fun _ _ _ h => h) (Or.inl ⟨by rfl, ?hyr315x14⟩) (by assumption) ?restr315x14
  case hyr315x14 => (intro wz hSw; obtain ⟨hs0, hs1, hs2⟩ := hSw; go_simp <;> (try with_reducible rfl))
  try simp only [Act.put, List.setIfInBounds_toArray, List.set_cons_zero, List.set_cons_succ]
  refine wpAnyH_take (i := 15) (oi := ⟨some 98, _, _, _, _, _⟩) (v := ?vr316x15) rfl (by kernel_rfl) (by kernel_rfl) (by kernel_rfl) (fun _ _ _ h => h) (Or.inl ⟨by rfl, ?hyr316x15⟩) (by assumption) ?restr316x15
  case hyr316x15 => (intro wz hSw; obtain ⟨hs0, hs1, hs2⟩ := hSw; go_simp <;> (try with_reducible rfl))
  try simp only [Act.put, List.setIfInBounds_toArray, List.set_cons_zero, List.set_cons_succ]
  refine wpAnyH_take (i := 16) (oi := ⟨some 99, _, _, _, _, _⟩) (v := ?vr317x16) rfl (by kernel_rfl) (by kernel_rfl) (by kernel_rfl) (fun _ _ _ h => h) (Or.inl ⟨by rfl, ?hyr317x16⟩) (by assumption) ?restr317x16
  case hyr317x16 => (intro wz hSw; obtain ⟨hs0, hs1, hs2⟩ := hSw; go_simp <;> (try with_reducible rfl))
  try simp only [Act.put, List.setIfInBounds_toArray, List.set_cons_zero, List.set_cons_succ]
  refine wpAnyH_take (i := 17) (oi := ⟨some 100, _, _, _, _, _⟩) (v := ?vr318x17) rfl (by kernel_rfl) (by kernel_rfl) (by kernel_rfl) (fun _ _ _ h => h) (Or.inl ⟨by rfl, ?hyr318x17⟩) (by assumption) ?restr318x17
  case hyr318x17 => (intro wz hSw; obtain ⟨hs0, hs1, hs2⟩ := hSw; go_simp <;> (try with_reducible rfl))
  try simp only [Act.put, List.setIfInBounds_toArray, List.set_cons_zero, List.set_cons_succ]
  refine wpAnyH_take (i := 18) (oi := ⟨some 101, _, _, _, _, _⟩) (v := ?vr319x18) rfl (by kernel_rfl) (by kernel_rfl) (by kernel_rfl) (fun _ _ _ h => h) (Or.inl ⟨by rfl, ?hyr319x18⟩) (by assumption) ?restr319x18
  case hyr319x18 => (intro wz hSw; obtain ⟨hs0, hs1, hs2⟩ := hSw; go_simp <;> (try with_reducible rfl))
  try simp only [Act.put, List.setIfInBounds_toArray, List.set_cons_zero, List.set_cons_succ]
  refine wpAnyH_take (i := 19) (oi := ⟨some 102, _, _, _, _, _⟩) (v := ?vr320x19) rfl (by kernel_rfl) (by kernel_rfl) (by kernel_rfl) (fun _ _ _ h => h) (Or.inl ⟨by rfl, ?hyr320x19⟩) (by assumption) ?restr320x19
  case hyr320x19 => (intro wz hSw; obtain ⟨hs0, hs1, hs2⟩ := hSw; go_simp <;> (try with_reducible rfl))
  try simp only [Act.put, List.setIfInBounds_toArray, List.set_cons_zero, List.set_cons_succ]
  refine wpAnyH_ready (rs := [20]) (by kernel_rfl) (by simp) (AllReadyH.cons (o := ⟨some 17, _, _, _, _, _⟩) rfl (fun K hK => ?_) AllReadyH.nil)
  go_simp
  refine hK.out _ _ (HS0.out _ (B4d.out.alloc B4d.out.size _)) (fun hHeld => ?_)
  clear hK K
  try simp only [Act.put, List.setIfInBounds_toArray, List.set_cons_zero, List.set_cons_succ]
  have B5 := keep (show Below w.heap.size w (w4.alloc (.cells #[.int .u8 0, .int .u16 0, .int .u32 0, .string ⟨#[]⟩, .string ⟨#[]⟩] 32)).drew from (B4.out.alloc B4.out.size _).drew)
  have S5 := keep (show SQ (w4.alloc (.cells #[.int .u8 0, .int .u16 0, .int .u32 0, .string ⟨#[]⟩, .string ⟨#[]⟩] 32)).drew w4.heap.size oZ from (SQ.laid w4 oZ).step (Below.refl _ _).drew)
  have Q5 := keep (show SQ (w4.alloc (.cells #[.int .u8 0, .int .u16 0, .int .u32 0, .string ⟨#[]⟩, .string ⟨#[]⟩] 32)).drew w.heap.size oZ from (Q4.out.step (below_lay w4 _)).step (Below.refl _ _).drew)
  have HNS := keep Q4.out.lt
  obtain ⟨W5, hW5⟩ : ∃ W5, (w4.alloc (.cells #[.int .u8 0, .int .u16 0, .int .u32 0, .string ⟨#[]⟩, .string ⟨#[]⟩] 32)).drew = W5 := ⟨_, rfl⟩
  rw [hW5] at B5 S5 Q5
  simp only [hW5] at hHeld ⊢
  obtain ⟨S, hS⟩ : ∃ S, w4.heap.size = S := ⟨_, rfl⟩
  rw [hS] at S5 HNS
  simp only [hS]
  clear hS hW5 B4d Q4d
  obtain ⟨c0, c1, c2, c3, c4⟩ := S5.out.ob
  dsimp only [oZ] at c0 c1 c2 c3 c4
  have f0 := S5.out.fz 0
  have f1 := S5.out.fz 1
  have f2 := S5.out.fz 2
  have f3 := S5.out.fz 3
  have f4 := S5.out.fz 4
  refine wpAnyH_ready (rs := [21]) (by kernel_rfl) (by simp) (AllReadyH.cons (o := ⟨none, _, _, _, _, _⟩) rfl (fun K hK => ?_) AllReadyH.nil)
  go_simp
  refine hK.out _ _ (HS0.out _ (below5 B5.out (Nat.le_of_lt HNS.out) _ _ _ _ _)) (fun hHeld => ?_)
  clear hK K
  try simp only [Act.put, List.setIfInBounds_toArray, List.set_cons_zero, List.set_cons_succ]
  have S6 := keep (S5.out.laid5 ⟨nk, (np : Int), (nl : Int), la, pr⟩)
  have Q6 := keep (((((Q5.out.else_ (k := S) (j := 0) (Nat.ne_of_lt HNS.out) (.int .u8 nk)).else_ (k := S) (j := 1) (Nat.ne_of_lt HNS.out) (.int .u16 (np : Int))).else_ (k := S) (j := 2) (Nat.ne_of_lt HNS.out) (.int .u32 (nl : Int))).else_ (k := S) (j := 3) (Nat.ne_of_lt HNS.out) (.string la)).else_ (k := S) (j := 4) (Nat.ne_of_lt HNS.out) (.string pr))
  have B6 := keep (below5 B5.out (Nat.le_of_lt HNS.out) (.int .u8 nk) (.int .u16 (np : Int)) (.int .u32 (nl : Int)) (.string la) (.string pr))
  dsimp only at S6
  obtain ⟨W6, hW6⟩ : ∃ W6, ((((W5.setCell ⟨S, 0, none⟩ (.int .u8 nk)).setCell ⟨S, 1, none⟩ (.int .u16 (np : Int))).setCell ⟨S, 2, none⟩ (.int .u32 (nl : Int))).setCell ⟨S, 3, none⟩ (.string la)).setCell ⟨S, 4, none⟩ (.string pr) = W6 := ⟨_, rfl⟩
  rw [hW6] at S6 Q6 B6
  simp only [hW6] at hHeld ⊢
  clear hW6 c0 c1 c2 c3 c4 f0 f1 f2 f3 f4 hHeld
  refine wpAnyH_done (by kernel_rfl) ?_ _
  have KW := may_any ⟨nk, (np : Int), (nl : Int), la, pr⟩ HOK.out W6
  have HE2 := HEE.out
  have S4' := keep (show SQ W6 S ⟨nk, (np : Int), (nl : Int), la, pr⟩ from S6.out)
  obtain ⟨a0, a1, a2, a3, a4⟩ := S4'.out.ob
  dsimp only at a0 a1 a2 a3 a4
  cases hw : wrongB ⟨nk, (np : Int), (nl : Int), la, pr⟩
  all_goals
    rw [hw] at KW HE2
    simp only [if_true, if_false, Bool.false_eq_true] at HE2
    dsimp only [OV.cells] at KW
    have KW := keep KW
    have HE3 := keep HE2
    clear HE2 hw
    go_wp2_with fail
    refine KW.out.mono ?_
    rintro e w5 ⟨rfl, hb5⟩
    have S5' := S4'.out.step hb5
    have R5 := keep (Q6.out.step hb5)
    have B7 := keep (B6.out.trans (hb5.mono B6.out.size))
    obtain ⟨s0, s1, s2, s3, s4⟩ := S5'.ob
    obtain ⟨z0, z1, z2, z3, z4⟩ := R5.out.ob
    dsimp only [oZ] at s0 s1 s2 s3 s4 z0 z1 z2 z3 z4
    have y0 := R5.out.fz 0
    have y1 := R5.out.fz 1
    have y2 := R5.out.fz 2
    have y3 := R5.out.fz 3
    have y4 := R5.out.fz 4
    clear S5' hb5 a0 a1 a2 a3 a4
    dsimp only
    go_wp2_with fail
  · exact bodyPost_ret (ret_rq1 rfl _ _ w.heap.size ⟨nk, (np : Int), (nl : Int), la, pr⟩ rfl (R5.out.laid5 ⟨nk, (np : Int), (nl : Int), la, pr⟩)) rfl (decP_ok HE3.out (by rw [HDF.out]; rfl) (below5 B7.out (Nat.le_refl _) _ _ _ _ _))
  · exact bodyPost_ret (ret_rq1 rfl _ _ w.heap.size oZ rfl (R5.out.laid5 oZ)) rfl (decP_bad HE3.out (by decide) rfl (below5 B7.out (Nat.le_refl _) _ _ _ _ _))
end Go.Proofs.YtapaiknghnbfmaaDoor
