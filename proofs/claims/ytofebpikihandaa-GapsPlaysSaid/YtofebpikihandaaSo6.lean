/- The library's sort at numbers of 16 bits: the heap sort. -/
import Derived.Test.YtofebpikihandaaSo5
namespace Go.Proofs.Ytofebpikihandaa
open Go.RowKit Go.Sort
set_option linter.unusedVariables false
set_option linter.unusedSimpArgs false

def nat1 : Value → Nat
  | .int _ x => (x + 1).toNat
  | _ => 0
theorem Done.drew1 {w w' : World} {g : Nat} {d : Array Int} (h : Done w g d w') : Done w g d w'.drew := ⟨h.row, h.part.drew⟩
theorem sift_size (hi first : Nat) : ∀ (root : Nat) (d : Array Int), (siftDown ltInt hi first root d).size = d.size := by
  intro root
  induction h : hi - root using Nat.strongRecOn generalizing root with
  | _ m ih =>
    intro d
    rw [siftDown]
    split
    · rfl
    · split
      · split
        · rfl
        · split
          · rw [ih _ (by omega) _ rfl, swp_size]
          · rfl
      · split
        · rfl
        · rw [ih _ (by omega) _ rfl, swp_size]

structure Pop (a k n : Nat) : Prop where
  q1 : a < n
  q2 : a + k < n
  q3 : (a : Int) + (k : Int) < (n : Int)
  q4 : wrap64 ((a : Int) + (k : Int)) = (a : Int) + (k : Int)
  q5 : IntKind.i64.wrap ((a : Int) + (k : Int)) = (a : Int) + (k : Int)
  q6 : wrap64 ((k : Int) - 1) = (k : Int) - 1
  q7 : (0 : Int) ≤ (a : Int) + (k : Int)
  q8 : (0 : Int) ≤ ((k + 1 : Nat) : Int) - 1
  q10 : wrap64 (a : Int) = (a : Int) ∧ IntKind.i64.wrap (a : Int) = (a : Int) ∧ (a : Int) < (n : Int)
  q9 : nat1 (.int .i64 (wrap64 ((k : Int) - 1))) < nat1 (.int .i64 (((k + 1 : Nat) : Int) - 1))
theorem pop_nums {a b hi k n : Nat} (h : 1 ≤ hi ∧ b = a + hi ∧ a + hi ≤ n ∧ n ≤ 1000000) (hk : k + 1 ≤ hi) : Pop a k n :=
  ⟨by omega, by omega, by omega, by unfold wrap64; omega, by rw [IntKind.wrap_i64]; omega, by unfold wrap64; omega, by omega, by omega, ⟨by unfold wrap64; omega, by rw [IntKind.wrap_i64]; omega, by omega⟩, by rw [show wrap64 ((k : Int) - 1) = (k : Int) - 1 by unfold wrap64; omega]; simp [nat1]⟩
theorem build_le {hi k K : Nat} (h : 1 ≤ hi) (hK : (hi - 1) / 2 = K) (hk : k + 1 ≤ K + 1) : k + 1 ≤ hi := by omega

set_option maxHeartbeats 4000000 in
set_option maxRecDepth 1000000 in
theorem heap_any {g c a b : Nat} {d : Array Int} {w : World} (h : Rw w g d) (hab : a < b) (hb : b ≤ d.size) (hs : d.size ≤ 1000000) :
    Calls Try.prog 38 #[.slice (some ⟨g, 0, none⟩) d.size c, .int .i64 a, .int .i64 b] w fun e w' => e = .returned (.tuple #[]) ∧ Done w g (heapSort ltInt d a b) w' := by
  obtain ⟨n, hn⟩ : ∃ n, d.size = n := ⟨_, rfl⟩
  have HD := keep (Done.refl h)
  have HN := keep hn
  obtain ⟨hi, hhi⟩ : ∃ hi : Nat, (b : Int) - (a : Int) = (hi : Int) := ⟨b - a, by omega⟩
  have Q := keep (show 1 ≤ hi ∧ b = a + hi ∧ a + hi ≤ n ∧ n ≤ 1000000 by omega)
  rw [hn]
  have SI := keep (fun (lo h2 : Nat) (dk : Array Int) (w2 : World) (hr : Rw w2 g dk) (hz : dk.size = n) (hl : lo ≤ h2) (hh : h2 ≤ hi) => (by have := sift_any (c := c) hr hl (hi := h2) (first := a) (by have := Q.out; omega) (by have := Q.out; omega); rw [hz] at this; exact this : Calls Try.prog 48 #[.slice (some ⟨g, 0, none⟩) n c, .int .i64 lo, .int .i64 h2, .int .i64 a] w2 fun e w' => e = .returned (.tuple #[]) ∧ Done w2 g (siftDown ltInt h2 a lo dk) w'))
  obtain ⟨K, hK⟩ : ∃ K : Nat, ((hi : Int) - 1) / 2 = (K : Int) := ⟨(hi - 1) / 2, by omega⟩
  have hK2 : (hi - 1) / 2 = K := by omega
  have HK := keep hK2
  have hw1 : wrap64 (hi : Int) = (hi : Int) := by unfold wrap64; omega
  have hw2 : wrap64 ((hi : Int) - 1) = (hi : Int) - 1 := by unfold wrap64; omega
  have hw3 : ((hi : Int) - 1).tdiv 2 = (K : Int) := by rw [Int.tdiv_eq_ediv_of_nonneg (by omega)]; exact hK
  have hw4 : wrap64 (K : Int) = (K : Int) := by unfold wrap64; omega
  have hHS := keep (show heapSort ltInt d a b = heapPop ltInt a hi (heapBuild ltInt hi a (K + 1) d) by unfold heapSort; rw [show b - a = hi by omega, hK2])
  rw [hHS.out]
  clear h hn hab hb hs hK2
  go_enter Try.func38, Try.ntmps38
  go_wp2_with fail
  rw [hw1, hw2, hw4]
  have HW2 := keep hw2
  clear hw1 hw2 hw3 hw4 hhi hK
  go_loopw [9] (fun vi wr => ∃ (k : Nat) (dk : Array Int), vi = .int .i64 ((k : Int) - 1) ∧ k ≤ K + 1 ∧ Hid (dk.size = n ∧ Done w g dk wr ∧ heapBuild ltInt hi a k dk = heapBuild ltInt hi a (K + 1) d)) (fun vi _ => nat1 vi)
  case atStart => exact ⟨K + 1, d, by congr 1; omega, Nat.le_refl _, HN.out, HD.out, rfl⟩
  case round =>
    obtain ⟨k, dk, rfl, hk, H⟩ := hrel
    rcases k with _ | k
    · have hneg : ¬ (0 : Int) ≤ ((0 : Nat) : Int) - 1 := by omega
      have HB := keep (show heapBuild ltInt hi a (K + 1) d = dk by rw [← H.out.2.2]; rfl)
      rw [HB.out]
      go_wp2_with fail
      go_loopw [10] (fun vi wq => ∃ (k : Nat) (dq : Array Int), vi = .int .i64 ((k : Int) - 1) ∧ k ≤ hi ∧ Hid (dq.size = n ∧ Done w g dq wq ∧ heapPop ltInt a k dq = heapPop ltInt a hi dk)) (fun vi _ => nat1 vi)
      case atStart => exact ⟨hi, dk, by rw [HW2.out], Nat.le_refl _, H.out.1, H.out.2.1, rfl⟩
      case round =>
        obtain ⟨k, dq, rfl, hk2, HQ⟩ := hrel
        rcases k with _ | k
        · have HE := keep (show Done w g (heapPop ltInt a hi dk) wr by rw [← HQ.out.2.2]; exact HQ.out.2.1)
          go_wp2_with fail
          go_end0
          exact ⟨rfl, by rw [HB.out]; exact HE.out⟩
        · obtain ⟨G, hG⟩ : ∃ G : Nat → Int, ∀ t, dq[t]! = G t := ⟨fun t => dq[t]!, fun _ => rfl⟩
          have hcw : ∀ t, t < n → wr.cell? ⟨g, t, none⟩ = some (.int .u16 (G t)) := fun t ht => by rw [← hG]; exact HQ.out.2.1.row.cell (by rw [HQ.out.1]; exact ht)
          have hfw : ∀ t, t < n → wr.frozen? ⟨g, t, none⟩ = false := fun t ht => HQ.out.2.1.row.fz (by rw [HQ.out.1]; exact ht)
          have HG := keep hG
          obtain ⟨q1, q2, q3, q4, q5, q6, q7, q8, ⟨z1, z2, z3⟩, q9⟩ := pop_nums Q.out hk2
          clear hG
          have HS := keep (HQ.out.2.1)
          have HX := keep (fun (w2 : World) (h : Done w g (swp dq a (a + k)) w2) => SI.out 0 k (swp dq a (a + k)) w2 h.row (by rw [swp_size]; exact HQ.out.1) (Nat.zero_le _) (Nat.le_of_succ_le hk2))
          have P := keep (pop_nums Q.out hk2)
          by_cases hk0 : k = 0
          · subst hk0
            have HSW := keep (show Done w g (swp dq a (a + 0)) ((wr.setCell ⟨g, a, none⟩ (.int .u16 (G a))).setCell ⟨g, a, none⟩ (.int .u16 (G a))).drew by
              have := (HQ.out.2.1.swap (i := a) (j := a + 0) (by rw [HQ.out.1]; exact q1) (by rw [HQ.out.1]; exact q2)).drew1
              rw [HG.out, HG.out] at this
              exact this)
            go_wp2_with fail
            go_region
            all_goals go_wp2_with fail
            refine (HX.out _ HSW.out).mono ?_
            rintro e w3 ⟨rfl, h3⟩
            replace h3 := keep h3
            go_wp2_with fail
            exact ⟨⟨0, _, rfl, Nat.le_of_succ_le hk2, by rw [sift_size, swp_size]; exact HQ.out.1, HSW.out.trans h3.out, HQ.out.2.2⟩, by decide⟩
          · have hne : ¬ a + k = a := by omega
            have hne2 : ¬ a = a + k := by omega
            have HSW := keep (show Done w g (swp dq a (a + k)) ((wr.setCell ⟨g, a, none⟩ (.int .u16 (G (a + k)))).setCell ⟨g, a + k, none⟩ (.int .u16 (G a))).drew by
              have := (HQ.out.2.1.swap (i := a) (j := a + k) (by rw [HQ.out.1]; exact q1) (by rw [HQ.out.1]; exact q2)).drew1
              rw [HG.out, HG.out] at this
              exact this)
            go_wp2_with fail
            go_region
            all_goals go_wp2_with fail
            refine (HX.out _ HSW.out).mono ?_
            rintro e w3 ⟨rfl, h3⟩
            replace h3 := keep h3
            go_wp2_with fail
            exact ⟨⟨k, _, by rw [P.out.q6], Nat.le_of_succ_le hk2, by rw [sift_size, swp_size]; exact HQ.out.1, HSW.out.trans h3.out, HQ.out.2.2⟩, P.out.q9⟩
    · have P := keep (pop_nums Q.out (build_le Q.out.1 HK.out hk))
      have q6 := P.out.q6
      have q8 := P.out.q8
      have HX := keep (SI.out k hi dk wr H.out.2.1.row H.out.1 (Nat.le_of_succ_le (build_le Q.out.1 HK.out hk)) (Nat.le_refl _))
      go_wp2_with (go_at_call 48; refine HX.out.mono ?_; rintro e w3 ⟨rfl, h3⟩; replace h3 := keep h3)
      go_roundw
      case rel => exact ⟨k, _, by rw [P.out.q6], Nat.le_of_succ_le hk, by rw [sift_size]; exact H.out.1, H.out.2.1.trans h3.out, H.out.2.2⟩
      case measure => exact P.out.q9
end Go.Proofs.Ytofebpikihandaa
