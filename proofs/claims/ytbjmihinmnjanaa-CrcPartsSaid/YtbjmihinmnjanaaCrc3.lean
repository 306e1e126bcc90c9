/- Package crc and its reference: Sum, the reference's Step and Own, and the examples. -/
import Derived.Test.YtbjmihinmnjanaaCrc2
namespace Go.Proofs.Ytbjmihinmnjanaa
open Go.RowKit
set_option linter.unusedVariables false

/-- What Sum answers. -/
def summ (zs : List Int) (bs : List UInt8) : Nat := if zs.length = 256 then stp zs 4294967295 bs ^^^ 4294967295 else 0
def sumOf (bs : List UInt8) : Nat := octs 4294967295 bs ^^^ 4294967295
theorem summ_entries (bs : List UInt8) : summ entries bs = sumOf bs := by
  unfold summ sumOf
  rw [if_pos entries_length, stp_entries]
theorem Sum_any (A : Option Addr) (n c : Nat) (zs : List Int) (B : Option Addr) (m d : Nat) (bs : List UInt8) (w : World) (hz : NS .u32 w A n c zs) (hb : BS w B m d bs) (hm : m ≤ 1000000) :
    Calls Try.prog 13 #[.slice A n c, .slice B m d] w fun e w' => e = .returned (.int .u32 (summ zs bs : Nat)) ∧ w = w' := by
  have hstep := Step_any A n c zs B m d bs 4294967295 w hz hb (by decide) hm
  have HS := keep hstep
  by_cases hn : n = 256
  · obtain ⟨u, hu⟩ : ∃ u, stp zs 4294967295 bs = u := ⟨_, rfl⟩
    have hu1 : u < 4294967296 := hu ▸ stp_lt zs hz.2.2.2 _ (by decide) bs
    have hx : bits .xor .u32 (u : Int) 4294967295 = ((u ^^^ 4294967295 : Nat) : Int) := xor_u32 u 4294967295 hu1 (by decide)
    have hE : Hid (u ^^^ 4294967295 = summ zs bs) := by show _ = _; unfold summ; rw [if_pos (by have := hz.1; omega), hu]
    rw [hu] at HS
    subst hn
    clear hz hb hu hstep
    go_enter Try.func13, Try.ntmps13
    go_wp2_with (first
      | (go_at_call 19; refine (fits_any _ _ _ _).mono ?_; rintro e w' ⟨rfl, rfl⟩)
      | (go_at_call 15; refine HS.out.mono ?_; rintro e w' ⟨rfl, rfl⟩))
    go_ret
    exact ⟨ret_int (by rw [hE.out]), rfl⟩
  · have hn' : ((n : Int) == 256) = false := by simp; omega
    have hE : Hid (summ zs bs = 0) := by show _ = _; unfold summ; rw [if_neg (by have := hz.1; omega)]
    clear hn hz hb hstep
    go_enter Try.func13, Try.ntmps13
    go_wp2_with (go_at_call 19; refine (fits_any _ _ _ _).mono ?_; rintro e w' ⟨rfl, rfl⟩)
    go_ret
    exact ⟨ret_int (by rw [hE.out]; rfl), rfl⟩

theorem xor_u8 (a b : Nat) (ha : a < 256) (hb : b < 256) : bits .xor .u8 (a : Int) (b : Int) = ((a ^^^ b : Nat) : Int) := by
  have h1 : (BitVec.ofInt 8 (a : Int)).toNat = a := by
    rw [BitVec.ofInt_natCast, BitVec.toNat_ofNat]; exact Nat.mod_eq_of_lt (by omega)
  have h2 : (BitVec.ofInt 8 (b : Int)).toNat = b := by
    rw [BitVec.ofInt_natCast, BitVec.toNat_ofNat]; exact Nat.mod_eq_of_lt (by omega)
  show IntKind.u8.wrap ((BitVec.ofInt 8 (a : Int) ^^^ BitVec.ofInt 8 (b : Int)).toNat : Int) = _
  rw [BitVec.toNat_xor, h1, h2, wrap_u8]
  have := Nat.xor_lt_two_pow (n := 8) ha hb
  omega

set_option maxRecDepth 100000 in
theorem refStep_any (A : Option Addr) (n c : Nat) (zs : List Int) (B : Option Addr) (m d : Nat) (bs : List UInt8) (v : Nat) (w : World) (hz : NS .u32 w A n c zs) (hb : BS w B m d bs) (hv : v < 4294967296) (hm : m ≤ 1000000) :
    Calls Try.prog 14 #[.slice A n c, .int .u32 v, .slice B m d] w fun e w' => e = .returned (.int .u32 (stp zs v bs : Nat)) ∧ w = w' := by
  by_cases hn : n = 256
  · subst hn
    have hml := hb.len
    subst hml
    have HZ := keep hz
    have HB := keep hb
    have hE : Hid (byTable (tbl zs) v bs = stp zs v bs) := stp_of zs hz.1 v bs
    clear hz hb
    go_enter Try.func14, Try.ntmps14
    go_wp2_with fail
    go_loop [1, 7] (fun s i => ∃ j : Nat, j ≤ bs.length ∧ i = .int .i64 j ∧ s = .int .u32 (byTable (tbl zs) v (bs.take j) : Nat)) (fun _ i => bs.length - (intOf i).toNat)
    case atStart => exact ⟨0, Nat.zero_le _, rfl, rfl⟩
    case round =>
      obtain ⟨j, hj, rfl, rfl⟩ := hrel
      by_cases hlt : j < bs.length
      · obtain ⟨u, hu⟩ : ∃ u, byTable (tbl zs) v (bs.take j) = u := ⟨_, rfl⟩
        have hu1 : u < 4294967296 := hu ▸ byTable_lt _ (fun k _ => tbl_lt zs HZ.out.2.2.2 k) v hv _
        obtain ⟨b2, o2, rfl, _, hc2⟩ := HB.out.br.at_ hlt
        obtain ⟨x, hx⟩ : ∃ x, bs[j].toNat = x := ⟨_, rfl⟩
        have hx1 : x < 256 := hx ▸ bs[j].toNat_lt
        obtain ⟨k, hk⟩ : ∃ k, (u ^^^ x) % 256 = k := ⟨_, rfl⟩
        have hk1 : k < 256 := hk ▸ Nat.mod_lt _ (by decide)
        obtain ⟨b1, o1, rfl, hc1, ht1⟩ := HZ.out.cell hk1
        obtain ⟨t, ht⟩ : ∃ t, tbl zs k = t := ⟨_, rfl⟩
        rw [ht] at hc1 ht1
        have hs : Hid (byTable (tbl zs) v (bs.take (j + 1)) = u / 256 ^^^ t) := by
          show _ = _
          rw [byTable_snoc _ _ _ _ hlt, hu, hx, hk, ht]
        rw [hx] at hc2
        rw [hu]
        have hX1 : bits .xor .u8 ((u : Int) % 256) (x : Int) = k := by
          refine (xor_u8 (u % 256) x (by omega) hx1).trans ?_
          rw [← hk, xor_lo, Nat.mod_eq_of_lt hx1]
        have hX3 : bits .xor .u32 ((u : Int) / 256) (t : Int) = ((u / 256 ^^^ t : Nat) : Int) := xor_u32 (u / 256) t (by omega) ht1
        have hX0 : IntKind.u8.wrap (u : Int) = (u : Int) % 256 := wrap_u8 _
        have hk2 : (k : Int) < 256 := by omega
        have HK := keep hk1
        clear hu hx hk ht hk1 hx1 ht1
        go_wp2_with fail
        go_round
        case rel => 
          exact ⟨j + 1, by omega, by go_num, by rw [hs.out]⟩
        case measure => simp [intOf]; omega
      · obtain rfl : j = bs.length := by omega
        go_wp2_with fail
        go_ret
        exact ⟨ret_int (by rw [hE.out]), rfl⟩
  · have hn' : ((n : Int) == 256) = false := by simp; omega
    have hE : Hid (stp zs v bs = 0) := by show _ = _; unfold stp; rw [if_neg (by have := hz.1; omega)]
    clear hn hz hb
    go_enter Try.func14, Try.ntmps14
    go_wp2_with fail
    go_ret
    exact ⟨ret_int (by rw [hE.out]; rfl), rfl⟩

theorem octs_snoc (v : Nat) (bs : List UInt8) (j : Nat) (hj : j < bs.length) : octs v (bs.take (j + 1)) = bits8 8 (octs v (bs.take j) ^^^ bs[j].toNat) := by
  rw [List.take_succ_eq_append_getElem hj, octs_append]
  rfl
set_option maxRecDepth 100000 in
theorem Own_any (B : Option Addr) (m d : Nat) (bs : List UInt8) (w : World) (hb : BS w B m d bs) (hm : m ≤ 1000000) :
    Calls Try.prog 16 #[.slice B m d] w fun e w' => e = .returned (.int .u32 (sumOf bs : Nat)) ∧ w = w' := by
  have hml := hb.len
  subst hml
  have HB := keep hb
  obtain ⟨f, hf⟩ : ∃ f, octs 4294967295 bs = f := ⟨_, rfl⟩
  have hf1 : f < 4294967296 := hf ▸ octs_lt _ _ (by decide)
  have hE : Hid (f ^^^ 4294967295 = sumOf bs) := by show _ = _; unfold sumOf; rw [hf]
  have HF := keep hf
  have hxf : bits .xor .u32 (f : Int) 4294967295 = ((f ^^^ 4294967295 : Nat) : Int) := xor_u32 f 4294967295 hf1 (by decide)
  clear hb hf
  go_enter Try.func16, Try.ntmps16
  go_wp2_with fail
  go_loop [3, 4, 5] (fun s i _ => ∃ j : Nat, j ≤ bs.length ∧ i = .int .i64 j ∧ s = .int .u32 (octs 4294967295 (bs.take j) : Nat)) (fun _ i _ => bs.length - (intOf i).toNat)
  case atStart => exact ⟨0, Nat.zero_le _, rfl, rfl⟩
  case round =>
    obtain ⟨j, hj, rfl, rfl⟩ := hrel
    by_cases hlt : j < bs.length
    · obtain ⟨u, hu⟩ : ∃ u, octs 4294967295 (bs.take j) = u := ⟨_, rfl⟩
      have hu1 : u < 4294967296 := hu ▸ octs_lt _ _ (by decide)
      obtain ⟨b2, o2, rfl, _, hc2⟩ := HB.out.br.at_ hlt
      obtain ⟨x, hx⟩ : ∃ x, bs[j].toNat = x := ⟨_, rfl⟩
      have hx1 : x < 256 := hx ▸ bs[j].toNat_lt
      have hs : Hid (octs 4294967295 (bs.take (j + 1)) = bits8 8 (u ^^^ x)) := by
        show _ = _
        rw [octs_snoc _ _ _ hlt, hu, hx]
      rw [hx] at hc2
      rw [hu]
      obtain ⟨y, hy⟩ : ∃ y, u ^^^ x = y := ⟨_, rfl⟩
      have hy1 : y < 4294967296 := hy ▸ xor_lt32 hu1 (by omega)
      have hX1 : bits .xor .u32 (u : Int) (x : Int) = y := by rw [xor_u32 u x hu1 (by omega), hy]
      rw [hy] at hs
      have hX0 : (x : Int) % 4294967296 = x := by omega
      clear hu hx hx1 hy
      go_wp2_with fail
      go_loop [3, 5] (fun s k => ∃ i : Nat, i ≤ 8 ∧ k = .int .i64 i ∧ s = .int .u32 (bits8 i y : Nat)) (fun _ k => 8 - (intOf k).toNat)
      case atStart => exact ⟨0, Nat.zero_le _, rfl, rfl⟩
      case round =>
        obtain ⟨i, hi, rfl, rfl⟩ := hrel
        by_cases hi8 : i < 8
        · obtain ⟨p, hp⟩ : ∃ p, bits8 i y = p := ⟨_, rfl⟩
          have hp1 : p < 4294967296 := hp ▸ bits8_lt i y hy1
          have hq : Hid (bit p = bits8 (i + 1) y) := by show _ = _; rw [bits8_succ, hp]
          rw [hp]
          clear hp
          go_wp2_with (go_at_call 18; refine (bit_any _ hp1 _).mono ?_; rintro e w' ⟨rfl, rfl⟩)
          go_round
          case rel => exact ⟨i + 1, by omega, by go_num, by rw [hq.out]⟩
          case measure => simp [intOf]; omega
        · obtain rfl : i = 8 := by omega
          go_wp2_with fail
          go_round
          case rel => exact ⟨j + 1, by omega, by go_num, by rw [hs.out]⟩
          case measure => simp [intOf]; omega
    · obtain rfl : j = bs.length := by omega
      have hT : octs 4294967295 (bs.take bs.length) = f := by rw [List.take_length]; exact HF.out
      rw [hT]
      clear hT
      go_wp2_with fail
      go_ret
      exact ⟨ret_int (by rw [hE.out]), rfl⟩
end Go.Proofs.Ytbjmihinmnjanaa
