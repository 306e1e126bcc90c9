/- Package audio: Decode. -/
import Derived.Test.YtacmfoljbjdcjaaUI
import Derived.Test.YtacmfoljbjdcjaaRd5
namespace Go.Proofs.Ytacmfoljbjdcjaa
open Go.RowKit Go.Maps
set_option linter.unusedVariables false
set_option linter.unusedSimpArgs false

/-- The packet that octets say. -/
def d1 (bs : List UInt8) : Nat := numB ((bs.drop 1).take 1)
def decK (bs : List UInt8) : Pk := ⟨decide (128 ≤ ((d1 bs : Nat) : Int)), ((d1 bs : Nat) : Int) % 128, (numB ((bs.drop 2).take 2) : Nat), (numB ((bs.drop 4).take 4) : Nat), (numB ((bs.drop 8).take 4) : Nat), bs.drop 12⟩
def decE (bs : List UInt8) : Int := if 1200 < bs.length then 10 else if bs.length < 12 then 2 else if bs.headD 0 ≠ 128 then 3 else 0
def decD (bs : List UInt8) : Pk := if decE bs = 0 then decK bs else pkZ
def DecP (bs : List UInt8) (w : World) (e : Ending) (w' : World) : Prop := ∃ A n c, e = .returned (.tuple #[.agg #[.bool (decD bs).mr, .int .u8 (decD bs).kd, .int .u16 (decD bs).sq, .int .u32 (decD bs).st, .int .u32 (decD bs).so, .slice A n c], .int .i64 (decE bs)]) ∧ BS w' A n c (decD bs).bs ∧ Below w.heap.size w w'
theorem decP_bad {bs : List UInt8} {w w' : World} {e : Ending} {x : Int} (h : decE bs = x) (hx : x ≠ 0) (he : e = .returned (.tuple #[.agg pvZ.cells.toArray, .int .i64 x])) (hb : Below w.heap.size w w') : DecP bs w e w' := by
  have h1 : decD bs = pkZ := by unfold decD; rw [h, if_neg hx]
  unfold DecP
  rw [h1, h]
  exact ⟨none, 0, 0, he, BS.nil _, hb⟩
/-- Between two reads. -/
structure RH (w1 : World) (g : Nat) (r : List UInt8) (W : World) : Prop where
  rd : ∃ A c, RD W g A r.length c r
  bl : Below w1.heap.size w1 W
  gw : w1.heap.size ≤ g
theorem RH.next {w1 W W' : World} {g k : Nat} {r : List UInt8} (h : RH w1 g r W) (hp : RdPost W g (r.drop k) W') : RH w1 g (r.drop k) W' := by
  obtain ⟨A, c, hr⟩ := h.rd
  obtain ⟨A', n', c', hr', hg', hs'⟩ := hp
  have hn : n' = (r.drop k).length := hr'.2.len
  subst hn
  exact ⟨⟨A', c', hr'⟩, h.bl.trans (grown_below hg' h.gw hr.lt), h.gw⟩
theorem RH.get8 {w1 W : World} {g : Nat} {r : List UInt8} (h : RH w1 g r W) (hl : 1 ≤ r.length) : Calls Try.prog 30 #[.pointer (some ⟨g, 0, none⟩)] W fun e w' => e = .returned (.tuple #[.int .u8 (numB (r.take 1) : Nat), .int .i64 0]) ∧ Hid (RH w1 g (r.drop 1) w') := by
  obtain ⟨A, c, hr⟩ := h.rd
  refine (get8_any g A _ c r W hr).mono ?_
  rintro e w' (⟨_, rfl, hp⟩ | ⟨hc, _⟩)
  · exact ⟨rfl, keep (h.next hp)⟩
  · omega
theorem RH.get16 {w1 W : World} {g : Nat} {r : List UInt8} (h : RH w1 g r W) (hl : 2 ≤ r.length) : Calls Try.prog 31 #[.pointer (some ⟨g, 0, none⟩)] W fun e w' => e = .returned (.tuple #[.int .u16 (numB (r.take 2) : Nat), .int .i64 0]) ∧ Hid (RH w1 g (r.drop 2) w') := by
  obtain ⟨A, c, hr⟩ := h.rd
  refine (get16_any g A _ c r W hr).mono ?_
  rintro e w' (⟨_, rfl, hp⟩ | ⟨hc, _⟩)
  · exact ⟨rfl, keep (h.next hp)⟩
  · omega
theorem RH.get32 {w1 W : World} {g : Nat} {r : List UInt8} (h : RH w1 g r W) (hl : 4 ≤ r.length) : Calls Try.prog 32 #[.pointer (some ⟨g, 0, none⟩)] W fun e w' => e = .returned (.tuple #[.int .u32 (numB (r.take 4) : Nat), .int .i64 0]) ∧ Hid (RH w1 g (r.drop 4) w') := by
  obtain ⟨A, c, hr⟩ := h.rd
  refine (get32_any g A _ c r W hr).mono ?_
  rintro e w' (⟨_, rfl, hp⟩ | ⟨hc, _⟩)
  · exact ⟨rfl, keep (h.next hp)⟩
  · omega
theorem RH.left {w1 W : World} {g : Nat} {r : List UInt8} (h : RH w1 g r W) : Calls Try.prog 34 #[.pointer (some ⟨g, 0, none⟩)] W fun e w' => e = .returned (.int .i64 (r.length : Nat)) ∧ W = w' := by
  obtain ⟨A, c, hr⟩ := h.rd
  exact left_any g A _ c r W hr
theorem RH.bytes {w1 W : World} {g : Nat} {r : List UInt8} (h : RH w1 g r W) (hb : r.length ≤ 100000) : Calls Try.prog 33 #[.pointer (some ⟨g, 0, none⟩), .int .i64 (r.length : Nat)] W fun e w' => ∃ A' c', e = .returned (.tuple #[.slice A' r.length c', .int .i64 0]) ∧ Hid (BS w' A' r.length c' r) ∧ Hid (Below w1.heap.size w1 w') ∧ Hid (TY w' A') := by
  obtain ⟨A, c, hr⟩ := h.rd
  refine (bytes_some g A _ c r r.length (Nat.le_refl _) (by omega) W hr).mono ?_
  rintro e w' ⟨A', c', rfl, hbs, hp, hty⟩
  rw [List.take_length] at hbs
  exact ⟨A', c', rfl, keep hbs, keep (h.next hp).bl, keep hty⟩
theorem u8_eq (x : UInt8) (k : Nat) (hk : k < 256) : ((x.toNat : Int) == (k : Int)) = decide (x = UInt8.ofNat k) := by
  rw [Bool.eq_iff_iff]
  simp only [beq_iff_eq, decide_eq_true_eq]
  constructor
  · intro h
    apply UInt8.toNat.inj
    have : x.toNat = k := by omega
    rw [this, UInt8.toNat_ofNat']
    omega
  · rintro rfl
    rw [UInt8.toNat_ofNat']
    omega
set_option maxHeartbeats 8000000 in
set_option maxRecDepth 1000000 in
theorem decode_any (A : Option Addr) (n c : Nat) (bs : List UInt8) (w : World) (hb : BS w A n c bs) (hn : n ≤ 100000) :
    Calls Try.prog 12 #[.slice A n c] w (DecP bs w) := by
  have l1 := keep (below_lay w (.cells #[.bool false, .int .u8 0, .int .u16 0, .int .u32 0, .int .u32 0, .slice none 0 0] 26))
  have HZ := keep (show IB (w.alloc (.cells #[.bool false, .int .u8 0, .int .u16 0, .int .u32 0, .int .u32 0, .slice none 0 0] 26)) w.heap.size pvZ from heap_alloc_new w _)
  obtain ⟨f0, f1, f2, f3, f4, f5⟩ := HZ.out.fz
  have hl := hb.len
  have hcap := hb.cap
  by_cases h1 : 1200 < n
  · have hE : decE bs = 10 := by unfold decE; rw [if_pos (by omega)]
    have h1I : (1200 : Int) < (n : Int) := by omega
    clear hb hl hcap h1
    go_enter Try.func12, Try.ntmps12
    go_wp2_with fail
    exact bodyPost_ret (ret_pkt (p := 2) (u := 3) rfl _ _ w.heap.size pvZ rfl HZ.out) rfl (decP_bad hE (by decide) rfl l1.out)
  have h1I : ¬ (1200 : Int) < (n : Int) := by omega
  by_cases h2 : n < 12
  · have hE : decE bs = 2 := by unfold decE; rw [if_neg (by omega), if_pos (by omega)]
    have h2I : (n : Int) < 12 := by omega
    clear hb hl hcap h1 h2
    go_enter Try.func12, Try.ntmps12
    go_wp2_with fail
    exact bodyPost_ret (ret_pkt (p := 2) (u := 3) rfl _ _ w.heap.size pvZ rfl HZ.out) rfl (decP_bad hE (by decide) rfl l1.out)
  have h2I : ¬ (n : Int) < 12 := by omega
  have hn0 : (0 : Int) < (n : Int) := by omega
  have hn1 : (1 : Int) ≤ (n : Int) := by omega
  obtain ⟨b, o, rfl, hlt, hc0⟩ := hb.br.at_ (j := 0) (by omega)
  obtain ⟨x, r, hxr⟩ : ∃ x r, bs = x :: r := by cases bs with
    | nil => simp at hl; omega
    | cons x r => exact ⟨x, r, rfl⟩
  have hc1 : (w.alloc (.cells #[.bool false, .int .u8 0, .int .u16 0, .int .u32 0, .int .u32 0, .slice none 0 0] 26)).cell? ⟨b, o, none⟩ = some (.int .u8 (x.toNat : Int)) := by
    have := (l1.out.cell (p := ⟨b, o + 0, none⟩) hlt).trans hc0
    rw [Nat.add_zero] at this
    rw [this]
    subst hxr
    rfl
  have hx8 := u8_eq x 128 (by decide)
  rw [show ((128 : Nat) : Int) = 128 from rfl] at hx8
  obtain ⟨v, hv⟩ : ∃ v : Int, (x.toNat : Int) = v := ⟨_, rfl⟩
  rw [hv] at hc1 hx8
  by_cases hx : x = 128
  case neg =>
    have hE : decE bs = 3 := by unfold decE; rw [if_neg (by omega), if_neg (by omega), if_pos (by rw [hxr]; exact hx)]
    have hv8 : (v == 128) = false := by rw [hx8]; exact decide_eq_false hx
    clear hb hl hcap h1 h2 hc0 hx8 hv hx hxr
    go_enter Try.func12, Try.ntmps12
    go_wp2_with fail
    exact bodyPost_ret (ret_pkt (p := 2) (u := 3) rfl _ _ w.heap.size pvZ rfl HZ.out) rfl (decP_bad hE (by decide) rfl l1.out)
  case pos =>
    have hE : decE bs = 0 := by unfold decE; rw [if_neg (by omega), if_neg (by omega), if_neg (by rw [hxr, hx]; show ¬ ((128 : UInt8) ≠ 128); exact fun h => h rfl)]
    have hv8 : v = 128 := by rw [← hv, hx]; rfl
    subst hv8
    have hD : decD bs = decK bs := by unfold decD; rw [if_pos hE]
    have hcut := keep ((hb.drop 1 (by omega)).step l1.out)
    have hcn : ¬ (c = 1) := by omega
    rw [if_neg hcn] at hcut
    have HN := keep (And.intro hl (And.intro h2 hn))
    have HED := keep (And.intro hE hD)
    have hcI : (1 : Int) ≤ (c : Int) := by omega
    clear hb hl hcap h1 h2 hc0 hx8 hv hx hxr hE hD
    unfold DecP
    rw [HED.out.1, HED.out.2]
    go_enter Try.func12, Try.ntmps12
    go_wp2_with fail
    refine (new_any (some ⟨b, o + 1, none⟩) (n - 1) (c - 1) (bs.drop 1) _ hcut.out (by have := HN.out; omega)).mono ?_
    rintro e w2 ⟨g, A', n', c', rfl, hrd, hg, hb2, _⟩
    have HR0 := keep (show RH (w.alloc (.cells #[.bool false, .int .u8 0, .int .u16 0, .int .u32 0, .int .u32 0, .slice none 0 0] 26)) g (bs.drop 1) w2 from ⟨⟨A', c', by rw [← hrd.2.len]; exact hrd⟩, hb2, hg⟩)
    clear hrd hg hb2 hcut
    have hv1 : numB ((bs.drop 1).take 1) < 256 ^ 1 := numB_take_lt (bs.drop 1) 1 (by rw [List.length_drop]; have := HN.out; omega)
    have K8 := keep (HR0.out.get8 (by rw [List.length_drop]; have := HN.out; omega))
    obtain ⟨v1, hv1e⟩ : ∃ v1, numB ((bs.drop 1).take 1) = v1 := ⟨_, rfl⟩
    rw [hv1e] at hv1 K8
    have hv1I : (v1 : Int) < 256 := by omega
    have HV1 := keep hv1e
    clear hv1 hv1e
    go_wp2_with fail
    refine K8.out.mono ?_
    rintro e w3 ⟨rfl, HR1⟩
    rw [List.drop_drop] at HR1
    have K16 := keep (HR1.out.get16 (by simp only [List.length_drop]; have := HN.out; omega))
    obtain ⟨v2, hv2e⟩ : ∃ v2, numB ((bs.drop (1 + 1)).take 2) = v2 := ⟨_, rfl⟩
    rw [hv2e] at K16
    have HV2 := keep (show numB ((bs.drop 2).take 2) = v2 from hv2e)
    clear hv2e K8
    go_wp2_with fail
    refine K16.out.mono ?_
    rintro e w4 ⟨rfl, HR2⟩
    rw [List.drop_drop] at HR2
    have K32 := keep (HR2.out.get32 (by simp only [List.length_drop]; have := HN.out; omega))
    obtain ⟨v3, hv3e⟩ : ∃ v3, numB ((bs.drop (1 + 1 + 2)).take 4) = v3 := ⟨_, rfl⟩
    rw [hv3e] at K32
    have HV3 := keep (show numB ((bs.drop 4).take 4) = v3 from hv3e)
    clear hv3e K16
    go_wp2_with fail
    refine K32.out.mono ?_
    rintro e w5 ⟨rfl, HR3⟩
    rw [List.drop_drop] at HR3
    have K33 := keep (HR3.out.get32 (by simp only [List.length_drop]; have := HN.out; omega))
    obtain ⟨v4, hv4e⟩ : ∃ v4, numB ((bs.drop (1 + 1 + 2 + 4)).take 4) = v4 := ⟨_, rfl⟩
    rw [hv4e] at K33
    have HV4 := keep (show numB ((bs.drop 8).take 4) = v4 from hv4e)
    clear hv4e K32
    go_wp2_with fail
    refine K33.out.mono ?_
    rintro e w6 ⟨rfl, HR4⟩
    clear K33
    rw [List.drop_drop] at HR4
    have HR4 := keep (show RH (w.alloc (.cells #[.bool false, .int .u8 0, .int .u16 0, .int .u32 0, .int .u32 0, .slice none 0 0] 26)) g (bs.drop 12) w6 from HR4.out)
    obtain ⟨rr, hrr⟩ : ∃ rr, bs.drop 12 = rr := ⟨_, rfl⟩
    rw [hrr] at HR4
    have hrrl := keep (show rr.length ≤ 100000 by rw [← hrr, List.length_drop]; have := HN.out; omega)
    have KL := keep HR4.out.left
    have KB := keep (HR4.out.bytes hrrl.out)
    have HRR := keep hrr
    clear hrr HR0 HR1 HR2 HR3
    go_wp2_with fail
    refine KL.out.mono ?_
    rintro e w7 ⟨rfl, rfl⟩
    go_wp2_with fail
    refine KB.out.mono ?_
    rintro e w8 ⟨A8, c8, rfl, hbs8, hb8, hty8⟩
    have hz8 := (hb8.out.block w.heap.size HZ.out.lt).trans HZ.out
    have HZ8 := keep (show IB w8 w.heap.size pvZ from hz8)
    have hne : ∀ a, A8 = some a → a.block ≠ w.heap.size := fun a ha e => by
      obtain ⟨cs, hcs⟩ := hty8.out a ha
      rw [e] at hcs
      have := hcs.symm.trans hz8
      injection this with this
      injection this with t1 t2
      exact absurd t2 (by decide)
    have HNE := keep hne
    obtain ⟨k0, k1, k2, k3, k4, k5⟩ := HZ8.out.fz
    obtain ⟨j0, j1, j2, j3, j4, j5⟩ := HZ8.out.c0
    have HL8 := keep (l1.out.trans (hb8.out.mono l1.out.size))
    clear hz8 hne hb8 hty8 KL KB HR4 f0 f1 f2 f3 f4 f5
    have hK : decK bs = ⟨decide (128 ≤ (v1 : Int)), (v1 : Int) % 128, (v2 : Int), (v3 : Int), (v4 : Int), rr⟩ := by
      unfold decK d1
      rw [HV1.out, HV2.out, HV3.out, HV4.out, HRR.out]
    have HRES := keep (HZ8.out.laid6 ⟨decide (128 ≤ (v1 : Int)), (v1 : Int) % 128, (v2 : Int), (v3 : Int), (v4 : Int), (A8, rr.length, c8), rr⟩)
    have HPT := keep (part6 (S := fun k => k = w.heap.size) w8 w.heap.size rfl (.bool (decide (128 ≤ (v1 : Int)))) (.int .u8 ((v1 : Int) % 128)) (.int .u16 (v2 : Int)) (.int .u32 (v3 : Int)) (.int .u32 (v4 : Int)) (.slice A8 rr.length c8))
    have HK := keep hK
    clear hK
    go_wp2_with fail
    exact bodyPost_ret (ret_pkt (p := 2) (u := 3) rfl _ _ w.heap.size ⟨decide (128 ≤ (v1 : Int)), (v1 : Int) % 128, (v2 : Int), (v3 : Int), (v4 : Int), (A8, rr.length, c8), rr⟩ rfl HRES.out) rfl ⟨A8, rr.length, c8, by rw [HK.out]; rfl, by rw [HK.out]; exact bs_part hbs8.out HPT.out (fun a ha e => HNE.out a ha e), HL8.out.trans (HPT.out.below HL8.out.size (fun k hk => by rw [hk]; exact Nat.le_refl _))⟩
end Go.Proofs.Ytacmfoljbjdcjaa
