/- Package crc and its reference: the steps over octets, by any table and by the polynomial. -/
import Derived.Test.YtbjmihinmnjanaaCrc1
namespace Go.Proofs.Ytbjmihinmnjanaa
open Go.RowKit
set_option linter.unusedVariables false

/-- The number of a table at a place. -/
def tbl (zs : List Int) (k : Nat) : Nat := (zs.getD k 0).toNat
/-- What Step answers. -/
def stp (zs : List Int) (v : Nat) (bs : List UInt8) : Nat := if zs.length = 256 then byTable (tbl zs) v bs else 0
theorem byTable_lt (T : Nat → Nat) (hT : ∀ k, k < 256 → T k < 4294967296) (v : Nat) (hv : v < 4294967296) (bs : List UInt8) : byTable T v bs < 4294967296 := by
  induction bs generalizing v with
  | nil => exact hv
  | cons x bs ih => exact ih _ (xor_lt32 (by omega) (hT _ (Nat.mod_lt _ (by decide))))
theorem byTable_snoc (T : Nat → Nat) (v : Nat) (bs : List UInt8) (j : Nat) (hj : j < bs.length) :
    byTable T v (bs.take (j + 1)) = byTable T v (bs.take j) / 256 ^^^ T ((byTable T v (bs.take j) ^^^ bs[j].toNat) % 256) := by
  rw [List.take_succ_eq_append_getElem hj]
  unfold byTable
  rw [List.foldl_append]
  rfl
theorem tbl_lt (zs : List Int) (h : ∀ z ∈ zs, (Lit.int .u32 z).wf = true) (k : Nat) : tbl zs k < 4294967296 := by
  unfold tbl
  have := range_u32 h k
  rw [List.getD_eq_getElem?_getD]
  omega
theorem tbl_entries (k : Nat) (hk : k < 256) : tbl entries k = entry k := by
  unfold tbl
  rw [List.getD_eq_getElem?_getD, entries_get k hk]
  simp
theorem byTable_congr (S T : Nat → Nat) (h : ∀ k, k < 256 → S k = T k) (v : Nat) (bs : List UInt8) : byTable S v bs = byTable T v bs := by
  induction bs generalizing v with
  | nil => rfl
  | cons x bs ih =>
    show byTable S (v / 256 ^^^ S _) bs = byTable T (v / 256 ^^^ T _) bs
    rw [h _ (Nat.mod_lt _ (by decide)), ih]
theorem stp_entries (v : Nat) (bs : List UInt8) : stp entries v bs = octs v bs := by
  unfold stp
  rw [if_pos entries_length, byTable_congr _ _ tbl_entries, byTable_entry]
theorem stp_lt (zs : List Int) (h : ∀ z ∈ zs, (Lit.int .u32 z).wf = true) (v : Nat) (hv : v < 4294967296) (bs : List UInt8) : stp zs v bs < 4294967296 := by
  unfold stp
  split
  · exact byTable_lt _ (fun k _ => tbl_lt zs h k) v hv bs
  · decide
theorem stp_of (zs : List Int) (hz : 256 = zs.length) (v : Nat) (bs : List UInt8) : byTable (tbl zs) v bs = stp zs v bs := by
  unfold stp
  rw [if_pos hz.symm]
theorem NS.cell {w : World} {A : Option Addr} {n c : Nat} {zs : List Int} (h : NS .u32 w A n c zs) {j : Nat} (hj : j < n) :
    ∃ b o, A = some ⟨b, o, none⟩ ∧ w.cell? ⟨b, o + j, none⟩ = some (.int .u32 (tbl zs j : Nat)) ∧ tbl zs j < 4294967296 := by
  obtain ⟨b, o, z, e, hlt, hc, hz, hw⟩ := h.at_ hj
  have := bounds_u32 hw
  refine ⟨b, o, e, ?_, tbl_lt zs h.2.2.2 j⟩
  rw [hc]
  unfold tbl
  rw [List.getD_eq_getElem?_getD, hz]
  simp only [Option.getD_some]
  rw [Int.toNat_of_nonneg (by omega)]

set_option maxRecDepth 100000 in
theorem Step_any (A : Option Addr) (n c : Nat) (zs : List Int) (B : Option Addr) (m d : Nat) (bs : List UInt8) (v : Nat) (w : World) (hz : NS .u32 w A n c zs) (hb : BS w B m d bs) (hv : v < 4294967296) (hm : m ≤ 1000000) :
    Calls Try.prog 15 #[.slice A n c, .int .u32 v, .slice B m d] w fun e w' => e = .returned (.int .u32 (stp zs v bs : Nat)) ∧ w = w' := by
  by_cases hn : n = 256
  · subst hn
    have hml := hb.len
    subst hml
    have HZ := keep hz
    have HB := keep hb
    have hE : Hid (byTable (tbl zs) v bs = stp zs v bs) := stp_of zs hz.1 v bs
    clear hz hb
    go_enter Try.func15, Try.ntmps15
    go_wp2_with (go_at_call 19; refine (fits_any _ _ _ _).mono ?_; rintro e w' ⟨rfl, rfl⟩)
    go_loop [1, 14] (fun s i => ∃ j : Nat, j ≤ bs.length ∧ i = .int .i64 j ∧ s = .int .u32 (byTable (tbl zs) v (bs.take j) : Nat)) (fun _ i => bs.length - (intOf i).toNat)
    case atStart => exact ⟨0, Nat.zero_le _, rfl, rfl⟩
    case round =>
      obtain ⟨j, hj, rfl, rfl⟩ := hrel
      by_cases hlt : j < bs.length
      · obtain ⟨u, hu⟩ : ∃ u, byTable (tbl zs) v (bs.take j) = u := ⟨_, rfl⟩
        have hu1 : u < 4294967296 := hu ▸ byTable_lt _ (fun k _ => tbl_lt zs HZ.out.2.2.2 k) v hv _
        obtain ⟨b2, o2, rfl, _, hc2⟩ := HB.out.br.at_ hlt
        obtain ⟨x, hx⟩ : ∃ x, bs[j].toNat = x := ⟨_, rfl⟩
        have hx1 : x < 256 := hx ▸ bs[j].toNat_lt
        obtain ⟨k, hk⟩ : ∃ k, (u ^^^ x) % 256 = k := ⟨_, rfl⟩
        have hk1 : k < 256 := hk ▸ Nat.mod_lt _ (by decide)
        obtain ⟨b1, o1, rfl, hc1, ht1⟩ := HZ.out.cell hk1
        obtain ⟨t, ht⟩ : ∃ t, tbl zs k = t := ⟨_, rfl⟩
        rw [ht] at hc1 ht1
        have hs : Hid (byTable (tbl zs) v (bs.take (j + 1)) = u / 256 ^^^ t) := by
          show _ = _
          rw [byTable_snoc _ _ _ _ hlt, hu, hx, hk, ht]
        rw [hx] at hc2
        rw [hu]
        have hX0 : (x : Int) % 4294967296 = x := by omega
        have hX1 := xor_u32 u x hu1 (by omega)
        have hX2 : ((u ^^^ x : Nat) : Int) % 256 = k := by omega
        have hX3 : bits .xor .u32 ((u : Int) / 256) (t : Int) = ((u / 256 ^^^ t : Nat) : Int) := xor_u32 (u / 256) t (by omega) ht1
        have hk2 : (k : Int) < 256 := by omega
        have HK := keep hk1
        clear hu hx hk ht hk1 hx1 ht1
        go_wp2_with fail
        go_round
        case rel => 
          exact ⟨j + 1, by omega, by go_num, by rw [hs.out]⟩
        case measure => simp [intOf]; omega
      · obtain rfl : j = bs.length := by omega
        go_wp2_with fail
        go_ret
        exact ⟨ret_int (by rw [hE.out]), rfl⟩
  · have hn' : ((n : Int) == 256) = false := by simp; omega
    have hE : Hid (stp zs v bs = 0) := by show _ = _; unfold stp; rw [if_neg (by have := hz.1; omega)]
    clear hn hz hb
    go_enter Try.func15, Try.ntmps15
    go_wp2_with (go_at_call 19; refine (fits_any _ _ _ _).mono ?_; rintro e w' ⟨rfl, rfl⟩)
    go_ret
    exact ⟨ret_int (by rw [hE.out]; rfl), rfl⟩
end Go.Proofs.Ytbjmihinmnjanaa
