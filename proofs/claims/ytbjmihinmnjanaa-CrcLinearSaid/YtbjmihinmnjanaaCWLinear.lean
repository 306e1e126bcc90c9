/- The walk of the law CrcLinear. -/
import Derived.Test.YtbjmihinmnjanaaCRow
import Derived.Test.YtbjmihinmnjanaaCWTables
import Derived.Test.YtbjmihinmnjanaaCWParts
import Derived.Deep.RegionHeld3
import Derived.Deep.AppendLies
namespace Go.Proofs.Ytbjmihinmnjanaa
open Go.RowKit
set_option linter.unusedVariables false

/-- The first j octets of two texts, added. -/
def sums (xs ys : List UInt8) (j : Nat) : List UInt8 := List.zipWith (· ^^^ ·) (xs.take j) (ys.take j)
theorem sums_snoc (xs ys : List UInt8) (j : Nat) (hx : j < xs.length) (hy : j < ys.length) : sums xs ys (j + 1) = sums xs ys j ++ [xs[j] ^^^ ys[j]] := by
  unfold sums
  rw [List.take_succ_eq_append_getElem hx, List.take_succ_eq_append_getElem hy, List.zipWith_append (by rw [List.length_take, List.length_take]; omega)]
  rfl
theorem sums_length (xs ys : List UInt8) (j : Nat) (hx : j ≤ xs.length) (hy : j ≤ ys.length) : (sums xs ys j).length = j := by
  unfold sums
  rw [List.length_zipWith, List.length_take, List.length_take]
  omega
theorem octs_sums (xs ys : List UInt8) (j : Nat) (hx : j ≤ xs.length) (hy : j ≤ ys.length) : octs 0 (sums xs ys j) = octs 0 (xs.take j) ^^^ octs 0 (ys.take j) := by
  have h := octs_xor 0 0 (xs.take j) (ys.take j) (by rw [List.length_take, List.length_take]; omega)
  exact h

set_option maxRecDepth 100000 in
theorem crcLinear_some (A : Option Addr) (n c : Nat) (xs : List UInt8) (B : Option Addr) (m d : Nat) (ys : List UInt8) (l : Nat) (hl : (n ≤ m ∧ l = n) ∨ (m ≤ n ∧ l = m)) (w : World) (ha : BS w A n c xs) (hb : BS w B m d ys) (hm : l ≤ 2000) :
    Calls Try.prog 7 #[.slice A n c, .slice B m d] w fun e w' => e = .returned (.bool true) ∧ Below w.heap.size w w' := by
  obtain ⟨i0, hi0, hz0, hz1, hz2⟩ := info_parts u8_info
  have hmin : (if m < n then (m : Int) else (n : Int)) = (l : Int) := by split <;> omega
  have hm' : (l : Int) ≤ 2000 := by omega
  have hl1 : l ≤ n := by omega
  have hl2 : l ≤ m := by omega
  have hac : (l : Int) ≤ (c : Int) := by have := ha.cap; omega
  have hbd : (l : Int) ≤ (d : Int) := by have := hb.cap; omega
  have hE := octs_sums xs ys l (by have := ha.len; omega) (by have := hb.len; omega)
  have HL1 := keep hl1
  have HL2 := keep hl2
  have HM := keep hm
  have HA := keep ha
  have HB := keep hb
  replace hE := keep hE
  have HA2 := keep (show BS w A l c (xs.take l) from ⟨by rw [List.length_take]; have := ha.len; omega, by have := ha.cap; omega, ha.br.take l⟩)
  have HB2 := keep (show BS w B l d (ys.take l) from ⟨by rw [List.length_take]; have := hb.len; omega, by have := hb.cap; omega, hb.br.take l⟩)
  clear hl hl1 hl2 hm ha hb
  go_enter Try.func7, Try.ntmps7
  go_wp2_with (go_at_call 10; refine (awake_any _).mono ?_; rintro e w2 ⟨rfl, hb2⟩; replace hb2 := keep hb2)
  go_loopw [7, 8] (fun o i wr => ∃ j : Nat, j ≤ l ∧ i = .int .i64 j ∧ (∃ A' c', o = .slice A' j c' ∧ Hid (wr.ownsRow w.heap.size 5 1 (.slice A' j c') j (bc (sums xs ys j)))) ∧ Hid (Below w.heap.size w wr)) (fun _ i _ => l - (intOf i).toNat)
  case atStart => exact ⟨0, Nat.zero_le _, rfl, ⟨none, 0, rfl, World.ownsRow_nil _ _ _ _⟩, hb2⟩
  case round =>
    obtain ⟨j, hj, rfl, ⟨A', c', rfl, HO⟩, hbw⟩ := hrel
    by_cases hlt : j < l
    · have hja : j < xs.length := by have := HL1.out; have := HA.out.len; omega
      have hjb : j < ys.length := by have := HL2.out; have := HB.out.len; omega
      obtain ⟨ba, oa, rfl, hba, hca⟩ := HA.out.br.at_ hja
      obtain ⟨bb, ob, rfl, hbb, hcb⟩ := HB.out.br.at_ hjb
      have hca' := (hbw.out.cell (p := ⟨ba, oa + j, none⟩) hba).trans hca
      have hcb' := (hbw.out.cell (p := ⟨bb, ob + j, none⟩) hbb).trans hcb
      obtain ⟨x, hx⟩ : ∃ x, xs[j] = x := ⟨_, rfl⟩
      obtain ⟨z, hz⟩ : ∃ z, ys[j] = z := ⟨_, rfl⟩
      obtain ⟨p, hp⟩ : ∃ p : UInt8, x ^^^ z = p := ⟨_, rfl⟩
      have hxz : bits .xor .u8 (x.toNat : Int) (z.toNat : Int) = (p.toNat : Int) := by
        rw [xor_u8 _ _ x.toNat_lt z.toNat_lt, ← UInt8.toNat_xor, hp]
      have hsn := keep (sums_snoc xs ys j hja hjb)
      rw [hx, hz, hp] at hsn
      rw [hx] at hca' hca
      rw [hz] at hcb' hcb
      have hca0 := keep hca
      have hcb0 := keep hcb
      have hjn : (j : Int) < (n : Int) := by have := HL1.out; omega
      have hjm : (j : Int) < (m : Int) := by have := HL2.out; omega
      have hj0 : (0 : Int) ≤ (j : Int) := by omega
      have hjl : (j : Int) < (l : Int) := by omega
      have hsz := hbw.out.size
      have HJ := keep hlt
      clear hx hz hp hca hcb hja hjb hj hlt
      go_wp2_with fail
      go_region_held3 (fun w' => w'.cell? ⟨ba, oa + j, none⟩ = some (.int .u8 (x.toNat : Int)) ∧ w'.cell? ⟨bb, ob + j, none⟩ = some (.int .u8 (z.toNat : Int)))
        (first
          | go_keep
          | (exact ⟨(hgb.cell (p := ⟨ba, oa + j, none⟩) hba).trans hca0.out, (hgb.cell (p := ⟨bb, ob + j, none⟩) hbb).trans hcb0.out⟩))
        ((refine step_append_lies _ (by rfl) _ _ _ (by rfl) w.heap.size 5 i0 _ 1 1 Try.underlying28 hi0 hz0 hz1 hz2 rfl (by omega) _ j (bc (sums xs ys j)) (by rfl) ((HO.out.alloc _).drew)
            ⟨wr.heap.size, 0, none⟩ 1 1 [.int .u8 (p.toNat : Int)] (by rfl) (by rfl) (World.news_of_block (cs := #[.int .u8 (p.toNat : Int)]) (t := 5) (fr := (0, 0)) (heap_alloc_new wr _)) (by simp [Value.oneCell'])
            (by omega) (by have := HJ.out; have := HM.out; unfold maxLen; omega) (by have := HJ.out; have := HM.out; omega) (by simp; omega) (wr.heap.size + 1) (by simp) ?_; intro gg cap w1 hown1 hgrow hat hlt1; have hgb : Below w.heap.size w w1 := ((hbw.out.alloc hsz _).drew).grown hgrow (by simp; omega) (fun k hk => (HO.out.lt k hk).1)))
      replace hown1 := keep hown1
      replace hgb := keep hgb
      clear hgrow hat hlt1 hca' hcb'
      go_wp2_with fail
      go_roundw
      case rel =>
        refine ⟨j + 1, by have := HJ.out; omega, by go_num, ⟨_, cap, rfl, ?_⟩, hgb⟩
        have h1 := hown1.out
        have e : bc (sums xs ys j) ++ [.int .u8 (p.toNat : Int)] = bc (sums xs ys (j + 1)) := by rw [hsn.out, bc_append]; rfl
        rw [e] at h1
        exact h1
      case measure => simp [intOf]; have := HJ.out; omega
    · obtain rfl : l = j := by omega
      go_wp2_with (first
       | (go_at_call 11; refine (Table_any _).mono ?_
          rintro e w6 ⟨rfl, hb6, ht6⟩
          have hsz := hbw.out.size
          have hb7 := hbw.out.trans (hb6.mono hsz)
          have hs1 : ∀ k, Below w.heap.size w (w6.drewN k) := fun k => below_drewN hb7 k
          have ht7 : ∀ k, Tab (w6.drewN k) wr.heap.size := fun k => ht6.step (below_drewN (Below.refl _ _) k)
          have hc7 : ∀ k, BS (w6.drewN k) A' l c' (sums xs ys l) := fun k => (BS.of_own HO.out).step (below_drewN hb6 k)
          have h1 : ∀ k, Calls Try.prog 15 #[.slice (some ⟨wr.heap.size, 0, none⟩) 256 256, .int .u32 0, .slice A' l c'] (w6.drewN k) fun e w' => e = .returned (.int .u32 (octs 0 (sums xs ys l) : Nat)) ∧ w' = w6.drewN k := fun k => by
            have h := Step_any _ 256 256 entries _ _ _ _ 0 _ (ht7 k).reads (hc7 k) (by decide) (by have := HM.out; omega)
            rw [stp_entries] at h
            exact h.mono fun _ _ h => ⟨h.1, h.2.symm⟩
          have h2 : ∀ k, Calls Try.prog 15 #[.slice (some ⟨wr.heap.size, 0, none⟩) 256 256, .int .u32 0, .slice A l c] (w6.drewN k) fun e w' => e = .returned (.int .u32 (octs 0 (xs.take l) : Nat)) ∧ w' = w6.drewN k := fun k => by
            have h := Step_any _ 256 256 entries _ _ _ _ 0 _ (ht7 k).reads (HA2.out.step (hs1 k)) (by decide) (by have := HM.out; omega)
            rw [stp_entries] at h
            exact h.mono fun _ _ h => ⟨h.1, h.2.symm⟩
          have h3 : ∀ k, Calls Try.prog 15 #[.slice (some ⟨wr.heap.size, 0, none⟩) 256 256, .int .u32 0, .slice B l d] (w6.drewN k) fun e w' => e = .returned (.int .u32 (octs 0 (ys.take l) : Nat)) ∧ w' = w6.drewN k := fun k => by
            have h := Step_any _ 256 256 entries _ _ _ _ 0 _ (ht7 k).reads (HB2.out.step (hs1 k)) (by decide) (by have := HM.out; omega)
            rw [stp_entries] at h
            exact h.mono fun _ _ h => ⟨h.1, h.2.symm⟩
          rw [hE.out] at h1
          have e1 := octs_lt 0 (xs.take l) (by decide)
          have e2 := octs_lt 0 (ys.take l) (by decide)
          revert h1 h2 h3 e1 e2
          generalize octs 0 (xs.take l) = s1
          generalize octs 0 (ys.take l) = s2
          intro h1 h2 h3 e1 e2
          have hX := xor_u32 s1 s2 e1 e2
          have hall : ∀ k (X : Option Addr) (cp s : Nat), ((X = A' ∧ cp = c' ∧ s = s1 ^^^ s2) ∨ (X = A ∧ cp = c ∧ s = s1) ∨ (X = B ∧ cp = d ∧ s = s2)) → Calls Try.prog 15 #[.slice (some ⟨wr.heap.size, 0, none⟩) 256 256, .int .u32 0, .slice X l cp] (w6.drewN k) fun e w' => e = .returned (.int .u32 (s : Nat)) ∧ w' = w6.drewN k := by
            rintro k X cp s (⟨rfl, rfl, rfl⟩ | ⟨rfl, rfl, rfl⟩ | ⟨rfl, rfl, rfl⟩)
            · exact h1 k
            · exact h2 k
            · exact h3 k
          replace hall := keep hall
          replace hs1 := keep hs1
          clear h1 h2 h3 e1 e2 hb6 ht6 hb7 ht7 hc7 hsz))
      go_quiet ((go_at_call 15; exact Calls.quiet_of_same (hall.out _ _ _ _ (by first | exact .inl ⟨rfl, rfl, rfl⟩ | exact .inr (.inl ⟨rfl, rfl, rfl⟩) | exact .inr (.inr ⟨rfl, rfl, rfl⟩)))))
      go_wp2_with fail
      go_ret
      exact ⟨rfl, hs1.out _⟩
theorem crcLinear_walk (A : Option Addr) (n c : Nat) (xs : List UInt8) (B : Option Addr) (m d : Nat) (ys : List UInt8) (w : World) (ha : BS w A n c xs) (hb : BS w B m d ys) :
    Calls Try.prog 7 #[.slice A n c, .slice B m d] w fun e w' => e = .returned (.bool true) ∧ Below w.heap.size w w' := by
  obtain ⟨l, hl⟩ : ∃ l, (n ≤ m ∧ l = n) ∨ (m ≤ n ∧ l = m) := by
    rcases Nat.le_total n m with h | h
    · exact ⟨n, .inl ⟨h, rfl⟩⟩
    · exact ⟨m, .inr ⟨h, rfl⟩⟩
  by_cases hm : l ≤ 2000
  · exact crcLinear_some A n c xs B m d ys l hl w ha hb hm
  · have hmin : (if m < n then (m : Int) else (n : Int)) = (l : Int) := by split <;> omega
    have h2' : 2000 < (l : Int) := by omega
    clear hm hl ha hb
    go_enter Try.func7, Try.ntmps7
    go_wp2_with (go_at_call 10; refine (awake_any _).mono ?_; rintro e w1 ⟨rfl, hb1⟩)
    go_ret
    exact ⟨rfl, hb1⟩
end Go.Proofs.Ytbjmihinmnjanaa
