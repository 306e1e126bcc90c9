/- The document's Encode for layer 9. -/
import Derived.Test.YtbkcjpimjipnfaaKR1
import Derived.Deep.RegionHeld3
namespace Go.Proofs.Ytbkcjpimjipnfaa
open Go.RowKit
set_option linter.unusedVariables false

set_option maxRecDepth 100000 in
set_option maxHeartbeats 1000000 in
theorem refEncode_none (A : Option Addr) (n c : Nat) (s : CS) (h : n ≠ 16 ∨ ¬ s.may) (w : World) :
    Calls Try.prog 11 #[.slice A n c, .agg s.ref] w fun e w' => e = .returned (.tuple #[.slice none 0 0, .bool false]) ∧ Below w.heap.size w w' := by
  have l1 := keep (below_lay w (.cells s.ref 33))
  have hc : (((n : Int) != 16) = true) ∨ (n = 16 ∧ (s.made < 0 ∨ (¬ s.made < 0 ∧ (281474976710656 < s.made ∨ (¬ 281474976710656 < s.made ∧ (s.life < 0 ∨ (¬ s.life < 0 ∧ 281474976710656 < s.life))))))) := by
    by_cases hn : n = 16
    · right
      refine ⟨hn, ?_⟩
      have hm := h.resolve_left (by simpa using hn)
      unfold CS.may at hm
      omega
    · left
      simp
      omega
  clear h
  obtain ⟨made, life, tag, peer, fst, pf, room, out, inn, t0, t1⟩ := s
  dsimp only at hc
  dsimp only [CS.ref] at l1 ⊢
  rcases hc with hc | ⟨rfl, h1 | ⟨h1, h2 | ⟨h2, h3 | ⟨h3, h4⟩⟩⟩⟩
  all_goals
    go_enter Try.func11, Try.ntmps11
    go_wp2_with fail
    go_ret2
    exact ⟨rfl, l1.out⟩

set_option maxRecDepth 100000 in
set_option maxHeartbeats 1000000 in
theorem refEncode_some (A : Option Addr) (c : Nat) (key : List UInt8) (s : CS) (hs : s.ok) (hm : s.may) (w : World) (hk : BS w A 16 c key) :
    Calls Try.prog 11 #[.slice A 16 c, .agg s.ref] w (EncPost w (enc key s)) := by
  have HK := keep hk
  have HS := keep (And.intro hs hm)
  have l1 := keep (below_lay w (.cells s.ref 33))
  have B1 := keep (RB.new w s)
  have HG : Hid (∀ i, i < 11 → ∃ v k, (rl s)[i]? = some v ∧ wds[i]? = some k ∧ s.ref[i]? = some (.int .i64 v) ∧ wdC[i]? = some (.int .i64 (k : Int)) ∧ pfx s (i + 1) = pfx s i ++ wide v k) := rl_get s
  obtain ⟨S, hS⟩ : ∃ S, S = s := ⟨_, rfl⟩
  rw [← hS] at HG HS B1 ⊢
  replace hS := keep hS
  obtain ⟨⟨m0, m1⟩, q0, q1⟩ := id hm
  clear hk hs hm
  obtain ⟨made, life, tag, peer, fst, pf, room, out, inn, t0, t1⟩ := s
  rw [hS.out]
  dsimp only at m0 m1 q0 q1
  have g0 : ¬ made < 0 := by omega
  have g1 : ¬ 281474976710656 < made := by omega
  have g2 : ¬ life < 0 := by omega
  have g3 : ¬ 281474976710656 < life := by omega
  rw [hS.out] at B1
  dsimp only [CS.ref] at l1 B1 ⊢
  go_enter Try.func11, Try.ntmps11
  go_wp2_with (go_at_call 26; refine (widths_any _).mono ?_; rintro e w1 ⟨g, rfl, hw, hg, hb1⟩
               have H1 := keep (And.intro hw (And.intro (B1.out.step hb1) (up l1.out hb1)))
               clear hw hb1)
  go_loopw [6, 8] (fun o i wr => ∃ (j : Nat) (A' : Option Addr) (m c' : Nat), j ≤ 11 ∧ i = .int .i64 j ∧ o = .slice A' m c' ∧ Hid (BS wr A' m c' (pfx S j) ∧ wr.heap[g]? = some (.cells wdC 3 (0, 0)) ∧ RB wr w.heap.size S ∧ Below w.heap.size w wr)) (fun _ i _ => 11 - (intOf i).toNat)
  case atStart => exact ⟨0, none, 0, 0, by omega, rfl, rfl, keep ⟨BS.nil _, H1.out.1, by rw [hS.out]; exact H1.out.2.1, H1.out.2.2⟩⟩
  case round =>
    obtain ⟨j, A', m, c', hj, rfl, rfl, H⟩ := hrel
    by_cases hlt : j < 11
    · obtain ⟨v, k, hv, hk, hr, hwd, hp⟩ := HG.out j hlt
      have hmay := rl_may S HS.out.1 j hlt v k hv hk
      have hcs := H.out.2.2.1.cell j v hr
      have hcw : wr.cell? ⟨g, j, none⟩ = some (.int .i64 (k : Int)) := by rw [cell_of_row _ _ _ _ _ _ H.out.2.1]; exact hwd
      have hml : m ≤ 100000 := by
        have h1 := H.out.1.len
        have : (pfx S j).length ≤ 88 := pfx_short S j
        omega
      have K1 := keep (put_may A' m c' (pfx S j) v k hmay wr.drew H.out.1 hml)
      rw [← hp] at K1
      have HC := keep (And.intro hcs hcw)
      clear hv hk hr hwd hp hmay
      go_wp2_with fail
      go_region_held3 (fun w' => w'.cell? ⟨w.heap.size, j, none⟩ = some (.int .i64 v) ∧ w'.cell? ⟨g, j, none⟩ = some (.int .i64 (k : Int)))
        (first
          | go_keep
          | (exact ⟨(hB2.cell (p := ⟨w.heap.size, j, none⟩) (block_lt_of_cell HC.out.1)).trans HC.out.1, (hB2.cell (p := ⟨g, j, none⟩) (block_lt_of_cell HC.out.2)).trans HC.out.2⟩))
        (first
          | (go_at_call 27; refine K1.out.mono ?_; rintro e w2 ⟨A2, n2, c2, rfl, hs2, hb2, _⟩
             have hB2 : Below wr.heap.size wr w2 := ⟨hb2.os, hb2.tape, hb2.output, hb2.size, hb2.block⟩
             have HS2 := keep hs2
             clear K1 hs2 hb2))
      have HB2 := keep hB2
      clear hB2 hcs hcw
      go_wp2_with fail
      go_roundw
      case rel =>
        refine ⟨j + 1, A2, n2, c2, by omega, by go_num, rfl, keep ⟨HS2.out, (HB2.out.block g (Array.getElem?_eq_some_iff.1 H.out.2.1).1).trans H.out.2.1, H.out.2.2.1.step HB2.out, H.out.2.2.2.trans (HB2.out.mono H.out.2.2.2.size)⟩⟩
      case measure => simp [intOf]; omega
    · obtain rfl : j = 11 := by omega
      have hbs := H.out.1
      rw [pfx_all S HS.out.1 HS.out.2] at hbs
      have hm48 : m = 48 := by rw [hbs.len, nums_length]
      subst hm48
      have KC := keep (coded_any A c key A' 48 c' _ wr (HK.out.step H.out.2.2.2) hbs (by omega))
      clear hbs
      go_wp2_with fail
      refine KC.out.mono ?_
      rintro e w3 ⟨A3, n3, c3, rfl, hs3, hb3, ho3⟩
      have H3 := keep (And.intro hs3 (And.intro hb3 ho3.out))
      clear hs3 hb3 ho3 KC
      go_wp2_with fail
      go_ret2
      have h4 := H.out.2.2.2
      refine ⟨A3, n3, c3, rfl, ?_, h4.trans (H3.out.2.1.mono h4.size), keep (own_mono ?_ h4.size)⟩
      · rw [← hS.out]; exact H3.out.1
      · rw [← hS.out]; exact H3.out.2.2
end Go.Proofs.Ytbkcjpimjipnfaa
