/- The walk of the law TlvJoins. -/
import Derived.Test.YtaifigmbjcebeaaVW1
import Derived.Test.YtaifigmbjcebeaaApp2
import Derived.Test.YtaifigmbjcebeaaBits
namespace Go.Proofs.Ytaifigmbjcebeaa
open Go.RowKit
set_option linter.unusedVariables false

theorem PS.append {w : World} {base n c : Nat} {A : Option Addr} {l k : List PX} {e : TypeId} (h : w.ownsRow base e 2 (.slice A n c) n (flatP l ++ flatP k)) (h1 : ∀ x ∈ l, VP w x) (h2 : ∀ x ∈ k, VP w x) : PS w A n c (l ++ k) := by
  rw [← flatP_append] at h
  exact PS.of_own h fun x hx => by
    rcases List.mem_append.1 hx with hx | hx
    · exact h1 x hx
    · exact h2 x hx
theorem tooL_app (a b : List Pm) (h : a.length + b.length ≤ 32) : tooL (a ++ b) = (tooL a || tooL b) := by
  unfold tooL
  rw [List.length_append, decide_eq_false (show ¬ 32 < a.length + b.length by omega), decide_eq_false (show ¬ 32 < a.length by omega), decide_eq_false (show ¬ 32 < b.length by omega), List.any_append]
  simp

theorem cut_facts (n2 n3 r c6 : Nat) (hn2 : n2 ≤ 50000) (h34 : 4 ≤ n3) (hr3 : r < 3) (hcap : n2 + n3 ≤ c6) : ∃ z : Nat, z = n2 + 1 + r ∧ wrap64 ((n2 : Int) + 1) = (n2 : Int) + 1 ∧ wrap64 ((n2 : Int) + 1 + (r : Int)) = (z : Int) ∧
    (z : Int) ≤ ((n2 + n3 : Nat) : Int) ∧ (z : Int) ≤ (c6 : Int) ∧ z ≤ n2 + n3 ∧ z ≤ c6 ∧ z ≤ 50003 ∧ n2 ≤ z ∧ 0 < z - n2 ∧ z - n2 < 4 ∧ z - n2 ≤ n3 := by
  refine ⟨n2 + 1 + r, rfl, ?_, ?_, by omega, by omega, by omega, by omega, by omega, by omega, by omega, by omega, by omega⟩
  · unfold wrap64
    omega
  · unfold wrap64
    omega
theorem enc_shape {w w' : World} {l : List Pm} {e : Ending} (h : EncPost w l e w') : ∃ A n c er, e = .returned (.tuple #[.slice A n c, .int .i64 er]) ∧ Below w.heap.size w w' ∧
    Hid ((tooL l = true ∧ er = 10) ∨ (tooL l = false ∧ er = 0 ∧ BS w' A n c (encL l))) := by
  obtain ⟨hb, ⟨ht, he⟩ | ⟨ht, A, n, c, he, hs⟩⟩ := h
  · exact ⟨none, 0, 0, 10, he, hb, .inl ⟨ht, rfl⟩⟩
  · exact ⟨A, n, c, 0, he, hb, .inr ⟨ht, rfl, hs⟩⟩

set_option maxHeartbeats 2000000 in
theorem tlvJoins_walk (A : Option Addr) (n c : Nat) (l : List PX) (B : Option Addr) (m d : Nat) (k : List PX) (cut : Int) (w : World) (hl : PS w A n c l) (hk : PS w B m d k) (hcut : (Lit.int .i64 cut).wf = true) :
    Calls Try.prog 8 #[.slice A n c, .slice B m d, .int .i64 cut] w fun e w' => e = .returned (.bool true) ∧ Below w.heap.size w w' := by
  obtain ⟨i0, hi, hz0, hz1, hz2⟩ := info_parts Param_info
  obtain ⟨j0, hj, hy0, hy1, hy2⟩ := info_parts u8_info
  have HL := keep hl
  have HK := keep hk
  clear hl hk hcut
  go_enter Try.func8, Try.ntmps8
  go_wp2_with fail
  refine (awake_any w).mono ?_
  rintro e w1 ⟨rfl, hb1⟩
  have KA := few_any A n c l w1 (HL.out.step hb1)
  have KB := few_any B m d k w1 (HK.out.step hb1)
  have HB1 := keep hb1
  clear hb1
  cases hfa : fewL l
  · rw [hfa] at KA
    replace KA := keep KA
    clear KB hfa
    go_wp2_with (go_at_call 11; refine KA.out.mono ?_; rintro e w2 ⟨rfl, rfl⟩)
    go_ret
    exact ⟨rfl, HB1.out⟩
  · rw [hfa] at KA
    replace KA := keep KA
    cases hfb : fewL k
    · rw [hfb] at KB
      replace KB := keep KB
      clear hfa hfb
      go_wp2_with (first
        | (go_at_call 11; refine KA.out.mono ?_; clear KA; rintro e w2 ⟨rfl, rfl⟩)
        | (go_at_call 11; refine KB.out.mono ?_; rintro e w2 ⟨rfl, rfl⟩))
      go_ret
      exact ⟨rfl, HB1.out⟩
    · rw [hfb] at KB
      replace KB := keep KB
      have hn : n ≤ 40 := by
        unfold fewL at hfa
        rw [Bool.and_eq_true, decide_eq_true_eq] at hfa
        have := HL.out.len
        omega
      have hm : m ≤ 40 := by
        unfold fewL at hfb
        rw [Bool.and_eq_true, decide_eq_true_eq] at hfb
        have := HK.out.len
        omega
      clear hfa hfb
      by_cases hs : n + m ≤ 32
      · have hs' : ¬ 32 < (n : Int) + (m : Int) := by omega
        have KE := keep (encode_any A n c l w1 (HL.out.step HB1.out))
        go_wp2_with (first
          | (go_at_call 11; refine KA.out.mono ?_; clear KA; rintro e w2 ⟨rfl, rfl⟩)
          | (go_at_call 11; refine KB.out.mono ?_; clear KB; rintro e w2 ⟨rfl, rfl⟩))
        refine KE.out.mono ?_
        rintro e w2 hp
        obtain ⟨A2, n2, c2, er2, rfl, hb2, hc2⟩ := enc_shape hp
        have HB2 := keep (up HB1.out hb2)
        have KE2 := keep (encode_any B m d k w2 (HK.out.step HB2.out))
        clear KE hp hb2
        go_wp2_with fail
        refine KE2.out.mono ?_
        rintro e w3 hp
        obtain ⟨A3, n3, c3, er3, rfl, hb3, hc3⟩ := enc_shape hp
        have HB3 := keep (up HB2.out hb3)
        have l3 := below_lay w3 (.cells #[] 44)
        have o3 := keep (own_rowN (e := 44) (size := 2) (xs := []) (heap_alloc_new w3 (.cells #[] 44)) 0 rfl (by unfold maxLen; omega))
        have HL3 := keep ((HL.out.step HB3.out).step l3)
        have HM1 := keep (show n * 2 = (flatP l).length by rw [flatP_len, ← HL.out.len])
        have HM2 := keep (show m * 2 = (flatP k).length by rw [flatP_len, ← HK.out.len])
        have hsz3 : w3.heap.size ≤ (w3.alloc (.cells #[] 44)).heap.size := by simp
        have HC2 : Hid ((tooL (l.map pm) = true ∧ er2 = 10) ∨ (tooL (l.map pm) = false ∧ er2 = 0 ∧ BS w3 A2 n2 c2 (encL (l.map pm)))) := hc2.out.imp id fun h => ⟨h.1, h.2.1, h.2.2.step hb3⟩
        clear KE2 hp hb3 hc2 l3
        go_wp2_with (first
          | (at_builtin; refine wpl_append2 rfl (.tmp 46) (.tmp 47) 22 rfl w3.heap.size 44 i0 (.agg #[.int .u16 0, .slice none 0 0]) Try.underlying22 hi hz0 hz1 rfl _ 0 [] rfl o3.out A n c (flatP l) rfl HM1.out HL3.out.2.2.1 (flatP_one _) (by unfold maxLen; omega) (by rw [hz2]; omega) hsz3 ?_
             intro A4 c4 w4 ho4 hb4 hg4
             simp only [Nat.zero_add, List.nil_append] at ho4
             have hb34 := ((Below.refl w3.heap.size w3).alloc (Nat.le_refl _) (.cells #[] 44)).trans hb4
             have HB34 := keep hb34
             have HK4 := keep ((HK.out.step HB3.out).step hb34)
             have hsz4 := hb34.size
             clear hb34 hb4 hg4)
          | (at_builtin; refine wpl_append2 rfl (.tmp 48) (.tmp 49) 22 rfl w3.heap.size 44 i0 (.agg #[.int .u16 0, .slice none 0 0]) Try.underlying22 hi hz0 hz1 rfl _ n (flatP l) rfl ho4.out B m d (flatP k) rfl HM2.out HK4.out.2.2.1 (flatP_one _) (by unfold maxLen; omega) (by rw [hz2]; omega) hsz4 ?_
             intro A5 c5 w5 ho5 hb5 hg5
             have hb35 := HB34.out.trans hb5
             have HB35 := keep hb35
             have hps := PS.append ho5.out ((HL.out.step HB3.out).step hb35).2.2.2 ((HK.out.step HB3.out).step hb35).2.2.2
             have KE3 := keep (encode_any A5 (n + m) c5 (l ++ k) w5 hps)
             clear hb35 hb5 hg5 ho5 hps))
        refine KE3.out.mono ?_
        rintro e w6 hp
        obtain ⟨A6, n6, c6, er6, rfl, hb6, hc6⟩ := enc_shape hp
        have HB36 := keep (HB35.out.trans (hb6.mono HB35.out.size))
        have HB6 := keep (HB3.out.trans (HB36.out.mono HB3.out.size))
        clear KE3 hp hb6 HB34 HB35 HK4 ho4 HL3 o3 HM1 HM2 hsz3 hsz4 hi hz0 hz1 hz2
        have hmap : (l ++ k).map pm = l.map pm ++ k.map pm := List.map_append
        have hT3 : tooL ((l ++ k).map pm) = (tooL (l.map pm) || tooL (k.map pm)) := by
          rw [hmap]
          exact tooL_app _ _ (by rw [List.length_map, List.length_map, ← HL.out.len, ← HK.out.len]; exact hs)
        rw [hT3] at hc6
        rcases HC2.out with ⟨ht2, rfl⟩ | ⟨ht2, rfl, hs2⟩
        · obtain rfl : er6 = 10 := by
            rcases hc6.out with ⟨_, h⟩ | ⟨h, _⟩
            · exact h
            · rw [ht2] at h
              cases h
          clear hc6 hc3 HC2 hT3 ht2 hmap
          go_wp2_with fail
          go_ret
          exact ⟨rfl, HB6.out⟩
        · rcases hc3.out with ⟨ht3, rfl⟩ | ⟨ht3, rfl, hs3⟩
          · obtain rfl : er6 = 10 := by
              rcases hc6.out with ⟨_, h⟩ | ⟨h, _⟩
              · exact h
              · rw [ht2, ht3] at h
                cases h
            clear hc6 hc3 HC2 hT3 ht2 ht3 hmap hs2
            go_wp2_with fail
            go_ret
            exact ⟨rfl, HB6.out⟩
          · obtain ⟨rfl, hs6⟩ : er6 = 0 ∧ BS w6 A6 n6 c6 (encL (l.map pm) ++ encL (k.map pm)) := by
              rcases hc6.out with ⟨h, _⟩ | ⟨_, h, hb⟩
              · rw [ht2, ht3] at h
                cases h
              · rw [hmap, encL_append] at hb
                exact ⟨h, hb⟩
            have HS2 := keep (hs2.step HB36.out)
            have HS3 := keep (hs3.step HB36.out)
            have HS6 := keep hs6
            have HO := keep (pmOk_of HL.out ht2)
            have hok3 := (tooL_false.1 ht3).2
            clear hc6 hc3 HC2 hT3 ht2 ht3 hmap hs2 hs3 hs6
            by_cases hm0 : m = 0
            · subst hm0
              have hke : k = [] := List.eq_nil_of_length_eq_zero HK.out.len.symm
              have KS := keep (same_eq A2 A6 n2 n6 c2 c6 _ _ w6 HS2.out HS6.out (by rw [hke]; simp [encL]))
              clear hke
              go_wp2_with (go_at_call 14; refine KS.out.mono ?_; rintro e w7 ⟨rfl, rfl⟩)
              go_ret
              exact ⟨rfl, HB6.out⟩
            · have hmi : ((m : Int) == 0) = false := by simp; omega
              obtain ⟨q, hq, hq2⟩ := and65535 cut
              have h2 := HS2.out.len
              have h3 := HS3.out.len
              have h6 : n6 = n2 + n3 := by rw [HS6.out.len, List.length_append, ← h2, ← h3]
              have h34 : 4 ≤ n3 := by
                rw [h3]
                cases k with
                | nil => have := HK.out.len; simp at this; omega
                | cons x r =>
                  have := enc1_len (pm x)
                  simp only [List.map_cons, encL, List.length_append]
                  omega
              obtain ⟨r, hr, hr3⟩ : ∃ r : Nat, (q : Int) % 3 = (r : Int) ∧ r < 3 := ⟨q % 3, by omega, by omega⟩
              have hn2 : n2 ≤ 50000 := by
                have h1 := encL_len (l.map pm) fun p hp => (HO.out p hp).2.2
                rw [List.length_map, ← HL.out.len] at h1
                omega
              have hcap := HS6.out.cap
              rw [h6] at hcap
              obtain ⟨z, hz, e1, e2, hmin, hcapz, hz6, hzc, hzb, hz2, hz0, hz4, hz3⟩ := cut_facts n2 n3 r c6 hn2 h34 hr3 hcap
              have KD := keep (decode_any A6 z c6 _ w6 (HS6.out.take z c6 (by rw [h6]; exact hz6) hzc) (Nat.le_trans hzb (by decide)))
              have hdec : decL 32 ((encL (l.map pm) ++ encL (k.map pm)).take z) = .error 2 := by
                rw [List.take_append, ← h2, List.take_of_length_le (by rw [← h2]; exact hz2)]
                have ht1 : ((encL (k.map pm)).take (z - n2)).length = z - n2 := by rw [List.length_take, ← h3]; exact Nat.min_eq_left hz3
                refine decL_cut _ _ _ HO.out ?_ (by rw [ht1]; exact hz0) (by rw [ht1]; exact hz4)
                rw [List.length_map, ← HL.out.len]
                clear e1 e2 hmin hcapz
                omega
              have HDE := keep hdec
              have HZ := keep hz
              have HN0 := keep (show n2 + n3 ≤ 100000 by
                have h4 := encL_len (k.map pm) hok3
                rw [List.length_map, ← HK.out.len, ← h3] at h4
                clear e1 e2 hmin hcapz
                omega)
              subst h6
              clear hq2 h2 h3 hdec hz hz6 hzc hzb hz2 hz0 hz4 hz3 h34 hn2 hr3 hcap
              go_wp2_with fail
              refine KD.out.mono ?_
              rintro e w7 ⟨hb7, ⟨x, _, hx, rfl⟩ | ⟨A7, n7, c7, l7, hx, _⟩⟩
              · rw [HDE.out] at hx
                injection hx with hx
                subst hx
                have l7 := below_lay w7 (.cells #[] 5)
                have o7 := keep (own_row (e := 5) (xs := []) (heap_alloc_new w7 (.cells #[] 5)) 0 rfl (by unfold maxLen; omega))
                have HB7 := keep (up HB6.out hb7)
                have HS27 := keep ((HS2.out.step hb7).step l7)
                have HS37 := keep (HS3.out.step hb7)
                have HS67 := keep (HS6.out.step hb7)
                have HN2 := keep (show n2 = (bc (encL (l.map pm))).length by rw [bc_length]; exact HS2.out.len)
                have HN3 := keep (show n3 = (bc (encL (k.map pm))).length by rw [bc_length]; exact HS3.out.len)
                have hsz7 : w7.heap.size ≤ (w7.alloc (.cells #[] 5)).heap.size := by simp
                clear KD hb7 HDE l7 HS2 HS3 HS6 e1 e2 hmin hcapz
                have HN6 := keep (show n2 + n3 ≤ 100000 by have := HN0.out; omega)
                go_wp2_with (first
                  | (at_builtin; refine wpl_append rfl (.tmp 101) (.tmp 102) 26 rfl w7.heap.size 5 j0 (.int .u8 0) Try.underlying26 hj hy0 hy1 rfl _ 0 [] rfl o7.out A2 n2 c2 _ rfl HN2.out HS27.out.br.sr (bc_one _) (by have := HN6.out; unfold maxLen; omega) (by have := HN6.out; rw [hy2]; omega) hsz7 ?_
                     intro A8 c8 w8 ho8 hb8
                     simp only [Nat.zero_add, List.nil_append] at ho8
                     have hb78 := ((Below.refl w7.heap.size w7).alloc (Nat.le_refl _) (.cells #[] 5)).trans hb8
                     have HB78 := keep hb78
                     have HS38 := keep (HS37.out.step hb78)
                     have hsz8 := hb78.size
                     clear hb78 hb8)
                  | (at_builtin; refine wpl_append rfl (.tmp 103) (.tmp 104) 26 rfl w7.heap.size 5 j0 (.int .u8 0) Try.underlying26 hj hy0 hy1 rfl _ n2 _ rfl ho8.out A3 n3 c3 _ rfl HN3.out HS38.out.br.sr (bc_one _) (by have := HN6.out; unfold maxLen; omega) (by have := HN6.out; rw [hy2]; omega) hsz8 ?_
                     intro A9 c9 w9 ho9 hb9
                     have hb79 := HB78.out.trans hb9
                     have ho9' := ho9.out
                     rw [← bc_append] at ho9'
                     have KS := keep (same_eq A9 A6 (n2 + n3) (n2 + n3) c9 c6 _ _ w9 (BS.of_own ho9') (HS67.out.step hb79) rfl)
                     have HB9 := keep (HB7.out.trans (hb79.mono HB7.out.size))
                     clear hb79 hb9 ho9 ho9')
                  | (go_at_call 14; refine KS.out.mono ?_; rintro e w10 ⟨rfl, rfl⟩))
                go_ret
                exact ⟨rfl, HB9.out⟩
              · rw [HDE.out] at hx
                cases hx
      · have hs' : 32 < (n : Int) + (m : Int) := by omega
        clear hs
        go_wp2_with (first
          | (go_at_call 11; refine KA.out.mono ?_; clear KA; rintro e w2 ⟨rfl, rfl⟩)
          | (go_at_call 11; refine KB.out.mono ?_; clear KB; rintro e w2 ⟨rfl, rfl⟩))
        go_ret
        exact ⟨rfl, HB1.out⟩
end Go.Proofs.Ytaifigmbjcebeaa
