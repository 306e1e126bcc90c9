/- The walk of the law OctetReads. -/
import Derived.Test.YthhohcagngjfnaaGets
import Derived.Test.YthhohcagngjfnaaOps
namespace Go.Proofs.Ythhohcagngjfnaa
open Go.RowKit
set_option linter.unusedVariables false

/-- What holds at each round's head: the reader and the document's rest read the same octets. -/
def ReadsRel (w : World) (g : Nat) (n : Nat) (q : Value) (wr : World) : Prop :=
  ∃ X m d cur A c, q = .slice X m d ∧ m ≤ n ∧ BS wr X m d cur ∧ RD wr g A m c cur ∧ Below w.heap.size w wr

theorem same_yes (A B : Option Addr) (n m c d : Nat) (bs ds : List UInt8) (w : World) (ha : BS w A n c bs) (hb : BS w B m d ds) (h : bs = ds) :
    Calls Try.prog 10 #[.slice A n c, .slice B m d] w fun e w' => e = .returned (.bool true) ∧ w = w' := by
  subst h
  refine (same_ret A B n m c d bs bs w ha hb).mono fun e w' ⟨he, hw⟩ => ⟨by simpa using he, hw⟩

set_option maxHeartbeats 3200000 in
set_option maxRecDepth 100000 in
theorem octetReads_walk (A : Option Addr) (n c : Nat) (bs : List UInt8) (B : Option Addr) (m d : Nat) (p q : Nat → Int) (w : World) (ha : BS w A n c bs) (hp : Pairs w B m p q) :
    Calls Try.prog 4 #[.slice A n c, .slice B m d] w fun e w' => e = .returned (.bool true) ∧ Below w.heap.size w w' := by
  by_cases hn : n ≤ 1000
  · by_cases hm : m ≤ 200
    · rcases Nat.eq_zero_or_pos m with hm0 | hm0
      · subst hm0
        go_enter Try.func4, Try.ntmps4
        go_wp2_with (go_at_call 9; refine (awake_any w).mono ?_; rintro e w1 ⟨rfl, hb1⟩)
        refine (new_any A n c _ w1 (ha.step hb1) (by omega)).mono ?_
        rintro e w2 ⟨g, A2, n2, c2, rfl, hr2, hg2, hb2⟩
        go_wp2_with fail
        refine wp_loop_rounds 1 ?_
        rw [rounds_succ]
        go_wp2_with fail
        go_ret
        exact ⟨rfl, up hb1 hb2⟩
      · have HP := keep hp
        obtain ⟨b, o, rfl, hlt, _⟩ := hp hm0
        go_enter Try.func4, Try.ntmps4
        go_wp2_with (go_at_call 9; refine (awake_any w).mono ?_; rintro e w1 ⟨rfl, hb1⟩)
        refine (new_any A n c _ w1 (ha.step hb1) (by omega)).mono ?_
        rintro e w2 ⟨g, A2, n2, c2, rfl, hr2, hg2, hb2⟩
        have hgw : w.heap.size ≤ g := Nat.le_trans hb1.size hg2
        have hB2 := up hb1 hb2
        have hn2 : n2 = n := by rw [hr2.2.len, ha.len]
        rw [hn2] at hr2
        go_wp2_with fail
        go_loopw [7, 8] (fun q i wr => ∃ j : Nat, j ≤ m ∧ i = .int .i64 j ∧ ReadsRel w g n q wr) (fun _ i _ => m - (intOf i).toNat)
        case atStart => exact ⟨0, Nat.zero_le _, rfl, A, n, c, bs, A2, c2, rfl, Nat.le_refl _, ha.step hB2, hr2, hB2⟩
        case round =>
          obtain ⟨j, hj, rfl, X, k, d, cur, A3, c3, rfl, hkn, hX, hR, hB⟩ := hrel
          clear hr2 hg2 hb2 hb1 hB2 hn2
          by_cases hjm : j < m
          · obtain ⟨b', o', e', _, hc⟩ := HP.out hm0
            injection e' with e'
            injection e' with e1 e2
            subst e1
            subst e2
            obtain ⟨c0, c1, hq0, hq1⟩ := hc j hjm
            have hc0 := (hB.cell (p := ⟨b, o + j * 2, none⟩) hlt).trans c0
            have hc1 := (hB.cell (p := ⟨b, o + j * 2 + 1, none⟩) hlt).trans c1
            clear hc c0
            by_cases h0 : p j = 0
            · -- a number of 1 octets
              have K0 := keep (get8_any g A3 k c3 cur wr hR)
              by_cases hk : 1 ≤ k
              · have HN : numB (cur.take 1) < 256 := numB_take_lt cur 1 (by rw [← hX.len]; exact hk)
                go_wp2_with fail
                refine K0.out.mono ?_
                rintro e w3 (⟨_, rfl, A4, n4, c4, hR4, hg4⟩ | ⟨hbad, _⟩)
                · have hX3 := hX.past hR hg4
                  have hB3 := hB.trans (grown_below hg4 hgw hR.lt)
                  have hn4 : n4 = k - 1 := by rw [hR4.2.len, List.length_drop, ← hX.len]
                  subst hn4
                  clear K0 hR hX hB hg4 hc0 hc1 c1
                  go_wp2_with fail
                  refine (refget_some X k d cur 1 (by omega) (by omega) hk w3 hX3).mono ?_
                  rintro e w4 ⟨X5, d5, m5, rfl, hX5, rfl⟩
                  have hR5 := hR4.step (below_drewN _ w3 m5)
                  have hB5 := hB3.trans (below_drewN _ w3 m5)
                  have K5 := keep (left_any g A4 (k - 1) c4 _ (w3.drewN m5) hR5)
                  clear hX3 hR4 hB3
                  go_wp2_with (go_at_call 26; refine K5.out.mono ?_; rintro e w5 ⟨rfl, rfl⟩)
                  go_roundw
                  case rel => exact ⟨j + 1, by omega, by go_num, X5, k - 1, d5, _, A4, c4, rfl, by omega, hX5, hR5, hB5⟩
                  case measure => simp [intOf]; omega
                · omega
              · go_wp2_with fail
                refine K0.out.mono ?_
                rintro e w3 (⟨hbad, _⟩ | ⟨_, rfl, rfl⟩)
                · omega
                · have K1 := keep (refget_short X k d 1 (by omega) wr)
                  have K5 := keep (left_any g A3 k c3 _ wr hR)
                  clear K0
                  go_wp2_with (first | (go_at_call 19; refine K1.out.mono ?_; rintro e w4 ⟨rfl, rfl⟩) | (go_at_call 26; refine K5.out.mono ?_; rintro e w5 ⟨rfl, rfl⟩))
                  go_roundw
                  case rel => exact ⟨j + 1, by omega, by go_num, X, k, d, _, A3, c3, rfl, hkn, hX, hR, hB⟩
                  case measure => simp [intOf]; omega
            by_cases h1 : p j = 1
            · -- a number of 2 octets
              have K0 := keep (get16_any g A3 k c3 cur wr hR)
              by_cases hk : 2 ≤ k
              · have HN : numB (cur.take 2) < 65536 := numB_take_lt cur 2 (by rw [← hX.len]; exact hk)
                go_wp2_with fail
                refine K0.out.mono ?_
                rintro e w3 (⟨_, rfl, A4, n4, c4, hR4, hg4⟩ | ⟨hbad, _⟩)
                · have hX3 := hX.past hR hg4
                  have hB3 := hB.trans (grown_below hg4 hgw hR.lt)
                  have hn4 : n4 = k - 2 := by rw [hR4.2.len, List.length_drop, ← hX.len]
                  subst hn4
                  clear K0 hR hX hB hg4 hc0 hc1 c1
                  go_wp2_with fail
                  refine (refget_some X k d cur 2 (by omega) (by omega) hk w3 hX3).mono ?_
                  rintro e w4 ⟨X5, d5, m5, rfl, hX5, rfl⟩
                  have hR5 := hR4.step (below_drewN _ w3 m5)
                  have hB5 := hB3.trans (below_drewN _ w3 m5)
                  have K5 := keep (left_any g A4 (k - 2) c4 _ (w3.drewN m5) hR5)
                  clear hX3 hR4 hB3
                  go_wp2_with (go_at_call 26; refine K5.out.mono ?_; rintro e w5 ⟨rfl, rfl⟩)
                  go_roundw
                  case rel => exact ⟨j + 1, by omega, by go_num, X5, k - 2, d5, _, A4, c4, rfl, by omega, hX5, hR5, hB5⟩
                  case measure => simp [intOf]; omega
                · omega
              · go_wp2_with fail
                refine K0.out.mono ?_
                rintro e w3 (⟨hbad, _⟩ | ⟨_, rfl, rfl⟩)
                · omega
                · have K1 := keep (refget_short X k d 2 (by omega) wr)
                  have K5 := keep (left_any g A3 k c3 _ wr hR)
                  clear K0
                  go_wp2_with (first | (go_at_call 19; refine K1.out.mono ?_; rintro e w4 ⟨rfl, rfl⟩) | (go_at_call 26; refine K5.out.mono ?_; rintro e w5 ⟨rfl, rfl⟩))
                  go_roundw
                  case rel => exact ⟨j + 1, by omega, by go_num, X, k, d, _, A3, c3, rfl, hkn, hX, hR, hB⟩
                  case measure => simp [intOf]; omega
            by_cases h2 : p j = 2
            · -- a number of 4 octets
              have K0 := keep (get32_any g A3 k c3 cur wr hR)
              by_cases hk : 4 ≤ k
              · have HN : numB (cur.take 4) < 4294967296 := numB_take_lt cur 4 (by rw [← hX.len]; exact hk)
                go_wp2_with fail
                refine K0.out.mono ?_
                rintro e w3 (⟨_, rfl, A4, n4, c4, hR4, hg4⟩ | ⟨hbad, _⟩)
                · have hX3 := hX.past hR hg4
                  have hB3 := hB.trans (grown_below hg4 hgw hR.lt)
                  have hn4 : n4 = k - 4 := by rw [hR4.2.len, List.length_drop, ← hX.len]
                  subst hn4
                  clear K0 hR hX hB hg4 hc0 hc1 c1
                  go_wp2_with fail
                  refine (refget_some X k d cur 4 (by omega) (by omega) hk w3 hX3).mono ?_
                  rintro e w4 ⟨X5, d5, m5, rfl, hX5, rfl⟩
                  have hR5 := hR4.step (below_drewN _ w3 m5)
                  have hB5 := hB3.trans (below_drewN _ w3 m5)
                  have K5 := keep (left_any g A4 (k - 4) c4 _ (w3.drewN m5) hR5)
                  clear hX3 hR4 hB3
                  go_wp2_with (go_at_call 26; refine K5.out.mono ?_; rintro e w5 ⟨rfl, rfl⟩)
                  go_roundw
                  case rel => exact ⟨j + 1, by omega, by go_num, X5, k - 4, d5, _, A4, c4, rfl, by omega, hX5, hR5, hB5⟩
                  case measure => simp [intOf]; omega
                · omega
              · go_wp2_with fail
                refine K0.out.mono ?_
                rintro e w3 (⟨hbad, _⟩ | ⟨_, rfl, rfl⟩)
                · omega
                · have K1 := keep (refget_short X k d 4 (by omega) wr)
                  have K5 := keep (left_any g A3 k c3 _ wr hR)
                  clear K0
                  go_wp2_with (first | (go_at_call 19; refine K1.out.mono ?_; rintro e w4 ⟨rfl, rfl⟩) | (go_at_call 26; refine K5.out.mono ?_; rintro e w5 ⟨rfl, rfl⟩))
                  go_roundw
                  case rel => exact ⟨j + 1, by omega, by go_num, X, k, d, _, A3, c3, rfl, hkn, hX, hR, hB⟩
                  case measure => simp [intOf]; omega
            by_cases h3 : p j = 3
            · -- octets
              by_cases hneg : q j < 0
              · have K0 := keep (bytes_neg g (q j) hneg wr)
                have K1 := keep (refbytes_neg X k d (q j) hneg wr)
                have K2 := keep (same_yes none none 0 0 0 0 [] [] wr (BS.nil wr) (BS.nil wr) rfl)
                have K5 := keep (left_any g A3 k c3 _ wr hR)
                go_wp2_with (first | (go_at_call 22; refine K0.out.mono ?_; rintro e w3 ⟨rfl, rfl⟩) | (go_at_call 23; refine K1.out.mono ?_; rintro e w4 ⟨rfl, rfl⟩) | (go_at_call 10; refine K2.out.mono ?_; rintro e w4 ⟨rfl, rfl⟩) | (go_at_call 26; refine K5.out.mono ?_; rintro e w5 ⟨rfl, rfl⟩))
                go_roundw
                case rel => exact ⟨j + 1, by omega, by go_num, X, k, d, _, A3, c3, rfl, hkn, hX, hR, hB⟩
                case measure => simp [intOf]; omega
              · have hpos : 0 ≤ q j := by omega
                by_cases hk : (k : Int) < q j
                · have K0 := keep (bytes_short g A3 k c3 cur (q j) hpos hk wr hR)
                  have K1 := keep (refbytes_short X k d (q j) hpos hk wr)
                  have K2 := keep (same_yes none none 0 0 0 0 [] [] wr (BS.nil wr) (BS.nil wr) rfl)
                  have K5 := keep (left_any g A3 k c3 _ wr hR)
                  go_wp2_with (first | (go_at_call 22; refine K0.out.mono ?_; rintro e w3 ⟨rfl, rfl⟩) | (go_at_call 23; refine K1.out.mono ?_; rintro e w4 ⟨rfl, rfl⟩) | (go_at_call 10; refine K2.out.mono ?_; rintro e w4 ⟨rfl, rfl⟩) | (go_at_call 26; refine K5.out.mono ?_; rintro e w5 ⟨rfl, rfl⟩))
                  go_roundw
                  case rel => exact ⟨j + 1, by omega, by go_num, X, k, d, _, A3, c3, rfl, hkn, hX, hR, hB⟩
                  case measure => simp [intOf]; omega
                · obtain ⟨t, ht⟩ : ∃ t : Nat, q j = (t : Int) := ⟨(q j).toNat, by omega⟩
                  rw [ht] at hc1 hk
                  have htk : t ≤ k := by omega
                  have K0 := keep (bytes_some g A3 k c3 cur t htk (by omega) wr hR)
                  clear hneg hpos ht hq0 hq1 c1 hk
                  go_wp2_with fail
                  refine K0.out.mono ?_
                  rintro e w3 ⟨A4, c4, rfl, hs4, A5, n5, c5, hR5, hg5⟩
                  have hX3 := hX.past hR hg5
                  have hB3 := hB.trans (grown_below hg5 hgw hR.lt)
                  have hn5 : n5 = k - t := by rw [hR5.2.len, List.length_drop, ← hX.len]
                  subst hn5
                  have hc13 := (grown_below hg5 hgw hR.lt).cell (p := ⟨b, o + j * 2 + 1, none⟩) hlt
                  rw [hc1] at hc13
                  clear K0 hR hX hB hg5 hc0 hc1
                  go_wp2_with fail
                  refine (refbytes_some X k d cur t htk w3 hX3).mono ?_
                  rintro e w4 ⟨X5, d5, X6, d6, m5, rfl, hX5, hX6, rfl⟩
                  have hR6 := hR5.step (below_drewN _ w3 m5)
                  have hB6 := hB3.trans (below_drewN _ w3 m5)
                  have K2 := keep (same_yes A4 X5 t t c4 d5 _ _ (w3.drewN m5) (hs4.drewN m5) hX5 rfl)
                  have K5 := keep (left_any g A5 (k - t) c5 _ (w3.drewN m5) hR6)
                  clear hX3 hR5 hB3 hs4 hX5 hc13
                  go_wp2_with (first | (go_at_call 10; refine K2.out.mono ?_; rintro e w4 ⟨rfl, rfl⟩) | (go_at_call 26; refine K5.out.mono ?_; rintro e w5 ⟨rfl, rfl⟩))
                  go_roundw
                  case rel => exact ⟨j + 1, by omega, by go_num, X6, k - t, d6, _, A5, c5, rfl, by omega, hX6, hR6, hB6⟩
                  case measure => simp [intOf]; omega
            · -- what fills up
              by_cases hneg : q j < 0
              · have K0 := keep (rpad_neg (.pointer (some ⟨g, 0, none⟩)) (q j) hneg wr)
                have K1 := keep (refunpad_neg X k d (q j) hneg wr)
                have K5 := keep (left_any g A3 k c3 _ wr hR)
                go_wp2_with (first | (go_at_call 24; refine K0.out.mono ?_; rintro e w3 ⟨rfl, rfl⟩) | (go_at_call 25; refine K1.out.mono ?_; rintro e w4 ⟨rfl, rfl⟩) | (go_at_call 26; refine K5.out.mono ?_; rintro e w5 ⟨rfl, rfl⟩))
                go_roundw
                case rel => exact ⟨j + 1, by omega, by go_num, X, k, d, _, A3, c3, rfl, hkn, hX, hR, hB⟩
                case measure => simp [intOf]; omega
              · obtain ⟨t, ht⟩ : ∃ t : Nat, q j = (t : Int) := ⟨(q j).toNat, by omega⟩
                have htm : t ≤ 9223372036854775807 := by omega
                rw [ht] at hc1
                obtain ⟨z, hz⟩ : ∃ z, z = (4 - t % 4) % 4 := ⟨_, rfl⟩
                by_cases hk : k < z
                · have K0 := keep (rpad_short g A3 k c3 cur t z htm hz hk wr hR)
                  have K1 := keep (refunpad_short X k d t z htm hz hk wr)
                  have K5 := keep (left_any g A3 k c3 _ wr hR)
                  clear hneg ht hq0 hq1 c1 hk htm hz
                  go_wp2_with (first | (go_at_call 24; refine K0.out.mono ?_; rintro e w3 ⟨rfl, rfl⟩) | (go_at_call 25; refine K1.out.mono ?_; rintro e w4 ⟨rfl, rfl⟩) | (go_at_call 26; refine K5.out.mono ?_; rintro e w5 ⟨rfl, rfl⟩))
                  go_roundw
                  case rel => exact ⟨j + 1, by omega, by go_num, X, k, d, _, A3, c3, rfl, hkn, hX, hR, hB⟩
                  case measure => simp [intOf]; omega
                · have hzk : z ≤ k := by omega
                  have K0 := keep (rpad_some g A3 k c3 cur t z htm hz hzk wr hR)
                  have K1 := keep (fun w3 hX3 => refunpad_some X k d cur t z htm hz hzk w3 hX3)
                  clear hneg ht hq0 hq1 c1 hk htm hz
                  go_wp2_with fail
                  refine K0.out.mono ?_
                  rintro e w3 (⟨hyes, rfl, A5, n5, c5, hR5, hg5⟩ | ⟨hno, rfl, rfl⟩)
                  · have hX3 := hX.past hR hg5
                    have hB3 := hB.trans (grown_below hg5 hgw hR.lt)
                    have hn5 : n5 = k - z := by rw [hR5.2.len, List.length_drop, ← hX.len]
                    subst hn5
                    have hc13 := (grown_below hg5 hgw hR.lt).cell (p := ⟨b, o + j * 2 + 1, none⟩) hlt
                    rw [hc1] at hc13
                    have HY := keep hyes
                    clear K0 hR hX hB hg5 hc0 hc1 hyes
                    go_wp2_with fail
                    refine (K1.out w3 hX3).mono ?_
                    rintro e w4 (⟨_, X5, d5, rfl, hX5, rfl⟩ | ⟨hno, _⟩)
                    · have K5 := keep (left_any g A5 (k - z) c5 _ w3 hR5)
                      clear hX3 hc13
                      go_wp2_with (go_at_call 26; refine K5.out.mono ?_; rintro e w5 ⟨rfl, rfl⟩)
                      go_roundw
                      case rel => exact ⟨j + 1, by omega, by go_num, X5, k - z, d5, _, A5, c5, rfl, by omega, hX5, hR5, hB3⟩
                      case measure => simp [intOf]; omega
                    · exact absurd HY.out hno
                  · have HN := keep hno
                    have K5 := keep (left_any g A3 k c3 _ wr hR)
                    clear K0 hno
                    go_wp2_with fail
                    refine (K1.out wr hX).mono ?_
                    rintro e w4 (⟨hyes, _⟩ | ⟨_, rfl, rfl⟩)
                    · exact absurd hyes HN.out
                    · go_wp2_with (go_at_call 26; refine K5.out.mono ?_; rintro e w5 ⟨rfl, rfl⟩)
                      go_roundw
                      case rel => exact ⟨j + 1, by omega, by go_num, X, k, d, _, A3, c3, rfl, hkn, hX, hR, hB⟩
                      case measure => simp [intOf]; omega
          · obtain rfl : m = j := by omega
            clear hjm
            go_wp2_with fail
            go_ret
            exact ⟨rfl, hB⟩
    · have hm' : 200 < (m : Int) := by omega
      go_enter Try.func4, Try.ntmps4
      go_wp2_with (go_at_call 9; refine (awake_any w).mono ?_; rintro e w1 ⟨rfl, hb1⟩)
      go_ret
      exact ⟨rfl, hb1⟩
  · have hn' : 1000 < (n : Int) := by omega
    go_enter Try.func4, Try.ntmps4
    go_wp2_with (go_at_call 9; refine (awake_any w).mono ?_; rintro e w1 ⟨rfl, hb1⟩)
    go_ret
    exact ⟨rfl, hb1⟩
end Go.Proofs.Ythhohcagngjfnaa
