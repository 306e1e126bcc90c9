/- The document's set: Blocks. -/
import Derived.Test.YtofebpikihandaaGP4
namespace Go.Proofs.Ytofebpikihandaa
open Go.RowKit Go.Maps
set_option linter.unusedVariables false
set_option linter.unusedSimpArgs false

theorem u16_in (x : Nat) (h : x ≤ 2000) : IntKind.u16.wrap (x : Int) = x := by
  rw [wrap_u16]
  omega
/-- The runs are answered in new memory. -/
def RetB2 (w : World) (L : List Nat) (e : Ending) (w' : World) : Prop := ∃ A c, e = .returned (.slice A (runs L).length c) ∧ w'.ownsRow w.heap.size 49 2 (.slice A (runs L).length c) (runs L).length (prs (runs L)) ∧ Below w.heap.size w w'
set_option maxHeartbeats 8000000 in
set_option maxRecDepth 1000000 in
theorem refBlocks_set {b g off c : Nat} {v : Value} {f : Int} {L : List Nat} {T : List Int} {w : World} (h : RA w b g off c v f (mark L) T) (hL : Fit L) :
    Calls Try.prog 20 #[.pointer (some ⟨b, 0, none⟩)] w fun e w' => RetB2 w L e w' := by
  obtain ⟨i0, hi0, hz0, hz1, hz2⟩ := info_parts block_info
  have H := keep h
  have HF := keep hL
  clear h hL
  go_enter Try.func20, Try.ntmps20
  go_wp2_with fail
  go_loopw [3, 4] (fun vo vi wq => ∃ (i n : Nat) (A' : Option Addr) (c' : Nat), vi = .int .i64 i ∧ vo = .slice A' n c' ∧ i ≤ 1024 ∧ n ≤ 64 ∧ Hid (n = (told L i).length ∧ wq.ownsRow w.heap.size 49 2 (.slice A' n c') n (prs (told L i)) ∧ Below w.heap.size w wq ∧ ¬ (i ∈ L ∧ i + 1 ∈ L)))
    (fun _ vi _ => 1024 - nat_of vi)
  case atStart => exact ⟨0, 0, none, 0, rfl, rfl, by omega, by omega, keep ⟨by rw [told_zero HF.out.asc]; rfl, by rw [told_zero HF.out.asc]; exact World.ownsRow_nil _ _ _ _, Below.refl _ _, fun hc => absurd (HF.out.asc.pos 0 hc.1) (by omega)⟩⟩
  case round =>
    obtain ⟨i, n, A', c', rfl, rfl, hi, hn, HJ⟩ := hrel
    by_cases hlt : i < 1024
    · have hz : (i : Int) < 1024 := by omega
      by_cases h64 : n < 64
      · have nz : (n : Int) < 64 := by omega
        have R := H.out.step HJ.out.2.2.1
        have c1 := R.c1
        have k1 := R.mks.cell hlt
        have hcz : (1024 : Int) ≤ (c : Int) := by have := R.mks.lo; omega
        have HM := keep (fun j (hj : j < 1024) => R.mks.cell hj)
        have HO := keep HJ.out.2.1
        have HI := keep hlt
        have HN64 := keep h64
        clear R
        rcases hm : mark L i with _ | _
        · rw [hm] at k1
          have hno : i + 1 ∉ L := of_decide_eq_false hm
          have HS := keep (show n = (told L (i + 1)).length ∧ wr.ownsRow w.heap.size 49 2 (.slice A' n c') n (prs (told L (i + 1))) ∧ Below w.heap.size w wr ∧ ¬ (i + 1 ∈ L ∧ i + 1 + 1 ∈ L) from ⟨by rw [told_skip hno]; exact HJ.out.1, by rw [told_skip hno]; exact HJ.out.2.1, HJ.out.2.2.1, fun hc => hno hc.1⟩)
          clear hm hno hlt h64 hi hn
          go_wp2_with fail
          go_roundw
          case rel => exact ⟨i + 1, n, A', c', by go_num, rfl, HI.out, by have := HN64.out; omega, HS⟩
          case measure => have := HI.out; simp [nat_of]; omega
        · rw [hm] at k1
          have hyes : i + 1 ∈ L := of_decide_eq_true hm
          have H0 := keep (run_new HF.out.asc hyes HJ.out.2.2.2)
          clear hm hyes hlt h64 hi hn
          go_wp2_with fail
          go_loop [5] (fun vk => ∃ k : Nat, vk = .int .i64 k ∧ i ≤ k ∧ k < 1024 ∧ Hid (runsR (upto L (k + 1)) = (i + 1, k + 1) :: runsR (upto L i))) (fun vk => 1024 - nat_of vk)
          case atStart => exact ⟨i, rfl, Nat.le_refl _, HI.out, H0⟩
          case round =>
            obtain ⟨k, rfl, hik, hk, HR⟩ := hrel
            have HKI := keep (And.intro hik hk)
            have kz : (k : Int) < 1024 := by omega
            obtain ⟨I1, hI1⟩ : ∃ I1, i + 1 = I1 := ⟨_, rfl⟩
            obtain ⟨K1, hK1⟩ : ∃ K1, k + 1 = K1 := ⟨_, rfl⟩
            have wI := u16_in I1 (by omega)
            have wK := u16_in K1 (by omega)
            have eI : (i : Int) + 1 = (I1 : Int) := by omega
            have eK : (k : Int) + 1 = (K1 : Int) := by omega
            have HI1 := keep hI1
            have HK1 := keep hK1
            have HT := keep (show told L (k + 1) = told L i ++ [(i + 1, k + 1)] from by unfold told; rw [HR.out, List.reverse_cons])
            clear hI1 hK1 hik
            by_cases hk2 : k + 1 < 1024
            · have kz2 : (K1 : Int) < 1024 := by have := HK1.out; omega
              have k3 := HM.out (k + 1) hk2
              rw [HK1.out] at k3
              rcases hm2 : mark L (k + 1) with _ | _
              · rw [HK1.out] at hm2
                rw [hm2] at k3
                have hno : k + 2 ∉ L := of_decide_eq_false (by rw [← HK1.out] at hm2; exact hm2)
                have HS := keep (show ¬ (k + 1 ∈ L ∧ k + 1 + 1 ∈ L) from fun hc => hno hc.2)
                clear hm2 hno hk hk2
                go_wp2_with (at_builtin; refine wpList_append_own_at _ rfl (.tmp 39) (.tmp 47) 42 rfl w.heap.size 49 i0 (.agg #[.int .u16 0, .int .u16 0]) 2 4 Try.underlying42 hi0 hz0 hz1 hz2 rfl (by decide) (.slice A' n c') n (prs (told L i)) rfl (HO.out.alloc _) ⟨wr.heap.size, 0, none⟩ 1 1 [.int .u16 (I1 : Int), .int .u16 (K1 : Int)] rfl rfl (cell_two_new _ _ _ _) (prs_one [(I1, K1)]) (by unfold maxLen; omega) (by omega) (by have := HJ.out.2.2.1.size; simp; omega) ?_; intro v' w4 hown' hgrow hnil hloc; obtain ⟨A2, c2, rfl, y1⟩ := own_is hown'; clear y1 hnil hloc; replace hown' := keep hown'; replace hgrow := keep hgrow)
                go_roundw
                case rel => exact ⟨k + 1, n + 1, A2, c2, by go_num, rfl, by have := HKI.out; omega, by have := HN64.out; omega, keep ⟨by rw [HT.out, HJ.out.1]; simp, by rw [HT.out, prs_app, HI1.out, HK1.out]; exact hown'.out, (HJ.out.2.2.1.alloc HJ.out.2.2.1.size _).trans (grown_below hgrow.out (by have := HJ.out.2.2.1.size; simp; omega) fun g hg => (HO.out.lt g hg).1), HS.out⟩⟩
                case measure => have := HKI.out; simp [nat_of]; omega
              · rw [HK1.out] at hm2
                rw [hm2] at k3
                have hyes : k + 2 ∈ L := of_decide_eq_true (by rw [← HK1.out] at hm2; exact hm2)
                have HR2 := keep (run_on HF.out.asc HR.out hyes)
                have HK2 := keep hk2
                clear hm2 hyes hk hk2 eI
                go_wp2_with fail
                go_round
                case rel => exact ⟨k + 1, by rw [HK1.out], by have := HKI.out; omega, HK2.out, HR2⟩
                case measure => have := HKI.out; have := HK1.out; simp [nat_of]; omega
            · have kz2 : ¬ (K1 : Int) < 1024 := by have := HK1.out; omega
              have HS := keep (show ¬ (k + 1 ∈ L ∧ k + 1 + 1 ∈ L) from fun hc => by have := HF.out.top _ hc.2; omega)
              clear hk hk2
              go_wp2_with (at_builtin; refine wpList_append_own_at _ rfl (.tmp 39) (.tmp 47) 42 rfl w.heap.size 49 i0 (.agg #[.int .u16 0, .int .u16 0]) 2 4 Try.underlying42 hi0 hz0 hz1 hz2 rfl (by decide) (.slice A' n c') n (prs (told L i)) rfl (HO.out.alloc _) ⟨wr.heap.size, 0, none⟩ 1 1 [.int .u16 (I1 : Int), .int .u16 (K1 : Int)] rfl rfl (cell_two_new _ _ _ _) (prs_one [(I1, K1)]) (by unfold maxLen; omega) (by omega) (by have := HJ.out.2.2.1.size; simp; omega) ?_; intro v' w4 hown' hgrow hnil hloc; obtain ⟨A2, c2, rfl, y1⟩ := own_is hown'; clear y1 hnil hloc; replace hown' := keep hown'; replace hgrow := keep hgrow)
              go_roundw
              case rel => exact ⟨k + 1, n + 1, A2, c2, by go_num, rfl, by have := HKI.out; omega, by have := HN64.out; omega, keep ⟨by rw [HT.out, HJ.out.1]; simp, by rw [HT.out, prs_app, HI1.out, HK1.out]; exact hown'.out, (HJ.out.2.2.1.alloc HJ.out.2.2.1.size _).trans (grown_below hgrow.out (by have := HJ.out.2.2.1.size; simp; omega) fun g hg => (HO.out.lt g hg).1), HS.out⟩⟩
              case measure => have := HKI.out; simp [nat_of]; omega
      · obtain rfl : n = 64 := by omega
        have nz : ¬ (64 : Int) < 64 := by omega
        have HR := keep (told_full HF.out.asc HJ.out.1.symm HJ.out.2.2.2)
        go_wp2_with fail
        go_ret
        have hrl : (runs L).length = 64 := by rw [HR.out]; exact HJ.out.1.symm
        exact ⟨A', c', by rw [hrl]; rfl, by rw [hrl, HR.out]; exact HJ.out.2.1, HJ.out.2.2.1⟩
    · have hz : ¬ (i : Int) < 1024 := by omega
      have HR := keep (told_all HF.out (i := i) (by omega) (by rw [← HJ.out.1]; exact hn))
      go_wp2_with fail
      go_ret
      have hrl : (runs L).length = n := by rw [HR.out]; exact HJ.out.1.symm
      exact ⟨A', c', by rw [hrl]; rfl, by rw [hrl, HR.out]; exact HJ.out.2.1, HJ.out.2.2.1⟩
end Go.Proofs.Ytofebpikihandaa
