/- The document's Decode for layer 9: a sealed cookie. -/
import Derived.Test.YtjfkiiohmjdceaaKR7
namespace Go.Proofs.Ytjfkiiohmjdceaa
open Go.RowKit
set_option linter.unusedVariables false

theorem step_facts {w wr : World} {S g j k : Nat} {v : Int} {b : List UInt8} (h : (FB wr S (pt b j k) ∧ wr.heap[g]? = some (.cells wdC 3 (0, 0)) ∧ RB wr w.heap.size .zero ∧ Below w.heap.size w wr))
    (hp : pt b j (k + 1) = fun i => if i = j then v else pt b j k i) (hj : j < 11) (hS : w.heap.size < S) (hg : S < g) :
    FB (wr.setCell ⟨S, j, none⟩ (.int .i64 v)).drew S (pt b j (k + 1)) ∧ (wr.setCell ⟨S, j, none⟩ (.int .i64 v)).drew.heap[g]? = some (.cells wdC 3 (0, 0)) ∧ RB (wr.setCell ⟨S, j, none⟩ (.int .i64 v)).drew w.heap.size .zero ∧ Below w.heap.size w (wr.setCell ⟨S, j, none⟩ (.int .i64 v)).drew := by
  obtain ⟨h1, h2, h3, h4⟩ := h
  refine ⟨by rw [hp]; exact h1.set j hj v, ?_, ?_, (h4.setCell (p := ⟨S, j, none⟩) (Nat.le_of_lt hS) _).drew⟩
  · exact (heap_setCell_other wr ⟨S, j, none⟩ g _ (Nat.ne_of_gt hg)).trans h2
  · exact (heap_setCell_other wr ⟨S, j, none⟩ _ _ (Nat.ne_of_lt hS)).trans h3
/-- What is answered to a cookie whose seal is right. -/
def GoodPost (w : World) (b : List UInt8) (e : Ending) (w' : World) : Prop := ((stateOf b).may → RefPost w (stateOf b) 0 e w') ∧ (¬ (stateOf b).may → RefPost w .zero 3 e w')
theorem GoodPost.bad {w w' : World} {b : List UInt8} {e : Ending} (h : ¬ (stateOf b).may) (hr : RefPost w .zero 3 e w') : GoodPost w b e w' := ⟨fun k => absurd k h, fun _ => hr⟩
theorem GoodPost.good {w w' : World} {b : List UInt8} {e : Ending} (h : (stateOf b).may) (hr : RefPost w (stateOf b) 0 e w') : GoodPost w b e w' := ⟨fun _ => hr, fun k => absurd h k⟩
set_option maxRecDepth 100000 in
set_option maxHeartbeats 4000000 in
theorem refDecode_good (K_ : Option Addr) (ck : Nat) (key : List UInt8) (A : Option Addr) (c : Nat) (bs : List UInt8) (w : World) (hk : BS w K_ 16 ck key) (hb : BS w A 60 c bs) (hm : bs.drop 56 = bol) (hs : seal_ key (bs.take 48) = bs) (b : List UInt8) (hbd : bs.take 48 = b) :
    Calls Try.prog 6 #[.slice K_ 16 ck, .slice A 60 c] w (GoodPost w b) := by
  obtain ⟨i0, hi0, hz0, hz1, hz2⟩ := info_parts u8_info
  replace hs := keep hs
  have hc : (60 : Int) ≤ (c : Int) := by have := hb.cap; omega
  have hcn : ¬ c = 56 := by omega
  have hc56 : (56 : Int) ≤ (c : Int) := by omega
  have hc48 : (48 : Int) ≤ (c : Int) := by omega
  have hc0 : ¬ c = 0 := by omega
  obtain ⟨b0, o0, rfl, _⟩ := hb.place (by decide)
  have l1 := below_lay w (.cells refZ 33)
  have k1 := tail_run _ b0 o0 c bs (hb.step l1)
  obtain ⟨D, hD⟩ : ∃ D, bs.drop 56 = D := ⟨_, rfl⟩
  rw [hD] at k1
  have hne : (D == [66, 79, 76, 49]) = true := by rw [← hD, hm]; rfl
  have HK := keep (hk.step l1)
  have HB := keep (hb.step l1)
  have HT := keep ((hb.take 48 c (by decide) (by have := hb.cap; omega)).step l1)
  have HL := keep (And.intro hb.len l1)
  have R1 := keep (refZ_new w)
  have HW := keep (hb.take 48 c (by decide) (by have := hb.cap; omega))
  rw [hbd] at HW
  replace hbd := keep hbd
  clear hk hb hm hD l1
  go_enter Try.func6, Try.ntmps6
  go_wp2_with fail
  clear k1 hne
  obtain ⟨w1, hw1⟩ : ∃ w1, w.alloc (.cells refZ 33) = w1 := ⟨_, rfl⟩
  rw [hw1] at HK HB HT HL R1 ⊢
  replace hw1 := keep hw1
  go_cut [38] from 11 to 85 (fun x wx => x = .bool (seal_ key (bs.take 48) != bs) ∧ Hid (Below w1.heap.size w1 wx))
  case first =>
    refine wp_region_held_drew (S := fun w' => (convert 22 9 (.slice (some ⟨b0, o0, none⟩) 60 c)).run Try.prog w' = .ok (.string ⟨bs.toArray⟩) w') (by kernel_rfl) (whole_run _ _ c bs (show BS w1.drew (some ⟨b0, o0, none⟩) 60 c bs from HB.out)) fun hHeld => ?_
    refine wpAnyH_take (i := 0) (v := ?v0z) rfl (by kernel_rfl) (by kernel_rfl) (by kernel_rfl) (fun _ _ _ h => h) (Or.inl ⟨by rfl, ?y0z⟩) (by assumption) ?_
    case y0z =>
      intro w hSw
      (try dsimp only at hSw)
      go_simp
      (try with_reducible rfl)
    (try simp only [Act.put, List.setIfInBounds_toArray, List.set_cons_zero, List.set_cons_succ, List.getElem_toArray, List.getElem_cons_zero])
    refine wpAnyH_take (i := 2) (v := ?v2z) rfl (by kernel_rfl) (by kernel_rfl) (by kernel_rfl) (fun _ _ _ h => h) (Or.inl ⟨by rfl, ?y2z⟩) (by assumption) ?_
    case y2z =>
      intro w hSw
      (try dsimp only at hSw)
      go_simp
      (try with_reducible rfl)
    (try simp only [Act.put, List.setIfInBounds_toArray, List.set_cons_zero, List.set_cons_succ, List.getElem_toArray, List.getElem_cons_zero, List.getElem_cons_succ])
    refine wpAnyH_take (i := 3) (v := ?v3z) rfl (by kernel_rfl) (by kernel_rfl) (by kernel_rfl) (fun _ _ _ h => h) (Or.inl ⟨by rfl, ?y3z⟩) (by assumption) ?_
    case y3z =>
      intro w hSw
      (try dsimp only at hSw)
      go_simp
      (try with_reducible rfl)
    (try simp only [Act.put, List.setIfInBounds_toArray, List.set_cons_zero, List.set_cons_succ, List.getElem_toArray, List.getElem_cons_zero, List.getElem_cons_succ])
    refine wpAnyH_take (i := 7) (v := ?v7z) rfl (by kernel_rfl) (by kernel_rfl) (by kernel_rfl) (fun _ _ _ h => h) (Or.inl ⟨by rfl, ?y7z⟩) (by assumption) ?_
    case y7z =>
      intro w hSw
      (try dsimp only at hSw)
      go_simp
      (try with_reducible rfl)
    (try simp only [Act.put, List.setIfInBounds_toArray, List.set_cons_zero, List.set_cons_succ, List.getElem_toArray, List.getElem_cons_zero, List.getElem_cons_succ])
    refine wpAnyH_take (i := 8) (v := ?v8z) rfl (by kernel_rfl) (by kernel_rfl) (by kernel_rfl) (fun _ _ _ h => h) (Or.inl ⟨by rfl, ?y8z⟩) (by assumption) ?_
    case y8z =>
      intro w hSw
      (try dsimp only at hSw)
      go_simp
      (try with_reducible rfl)
    (try simp only [Act.put, List.setIfInBounds_toArray, List.set_cons_zero, List.set_cons_succ, List.getElem_toArray, List.getElem_cons_zero, List.getElem_cons_succ])
    refine wpAnyH_ready (rs := [1]) (by kernel_rfl) (by simp) ?_
    refine AllReadyH.cons rfl (fun K hK => ?_) AllReadyH.nil
    go_simp
    have l2 : Below w1.heap.size w1 (w1.drew.alloc (.cells #[] 5)) := (Below.refl w1.heap.size w1).drew.alloc (Nat.le_refl _) _
    have o2 : (w1.drew.alloc (.cells #[] 5)).ownsRow w1.heap.size 5 1 (.slice (some ⟨w1.heap.size, 0, none⟩) 0 0) 0 [] := own_row (heap_alloc_new w1.drew _) 0 rfl (by decide)
    clear hHeld
    refine hK.out _ _ (whole_run _ _ c bs (HB.out.step l2)) fun hHeld => ?_
    clear hK
    (try simp only [Act.put, List.setIfInBounds_toArray, List.set_cons_zero, List.set_cons_succ, List.getElem_toArray, List.getElem_cons_zero, List.getElem_cons_succ])
    refine wpAnyH_ready (rs := [4]) (by kernel_rfl) (by simp) ?_
    refine AllReadyH.cons rfl (fun K hK => ?_) AllReadyH.nil
    refine step_append_lies _ (by rfl) (.tmp 30) (.tmp 32) 22 (by rfl) w1.heap.size 5 i0 (.int .u8 0) 1 1 Try.underlying22 hi0 hz0 hz1 hz2 rfl (by decide) _ 0 [] rfl o2 ⟨b0, o0, none⟩ 48 c (bc (bs.take 48)) rfl (by rw [bc_length]; exact (HT.out.step l2).len.symm) (HT.out.step l2).news (bc_one _) (by decide) (by unfold maxLen; decide) (by decide) l2.size _ rfl ?_
    intro gg cap w4 hown4 hgrow _ _
    have l4 : Below w1.heap.size w1 w4 := l2.grown hgrow l2.size (fun k hk => (o2.lt k hk).1)
    simp only [Nat.zero_add, List.nil_append] at hown4
    clear hHeld
    refine hK.out _ _ (whole_run _ _ c bs (HB.out.step l4)) fun hHeld => ?_
    clear hK o2 hgrow l2
    (try simp only [Act.put, List.setIfInBounds_toArray, List.set_cons_zero, List.set_cons_succ, List.getElem_toArray, List.getElem_cons_zero, List.getElem_cons_succ])
    refine wpAnyH_ready (rs := [5]) (by kernel_rfl) (by simp) ?_
    refine AllReadyH.cons rfl (fun K hK => ?_) AllReadyH.nil
    go_simp
    go_at_call 16
    refine (coded_any K_ ck key _ 48 cap (bs.take 48) w4 (HK.out.step l4) (BS.of_own hown4) (by decide)).mono ?_
    rintro e w5 ⟨A5, n5, c5, rfl, hs5, hb5, _⟩
    have l5 : Below w1.heap.size w1 w5 := l4.trans (hb5.mono l4.size)
    obtain rfl : n5 = 60 := by rw [hs5.len, seal_length, List.length_take]; have := HL.out.1; omega
    have k5 := whole_run w5 A5 c5 _ hs5
    clear hHeld
    refine hK.out _ _ (whole_run _ _ c bs (HB.out.step l5)) fun hHeld => ?_
    clear hK hown4 l4 hs5 hb5
    (try simp only [Act.put, List.setIfInBounds_toArray, List.set_cons_zero, List.set_cons_succ, List.getElem_toArray, List.getElem_cons_zero, List.getElem_cons_succ])
    refine wpAnyH_ready (rs := [6]) (by kernel_rfl) (by simp) ?_
    refine AllReadyH.cons rfl (fun K hK => ?_) AllReadyH.nil
    go_simp
    refine hK.out _ _ (whole_run _ _ c bs (HB.out.step l5)) fun hHeld => ?_
    clear hK
    (try simp only [Act.put, List.setIfInBounds_toArray, List.set_cons_zero, List.set_cons_succ, List.getElem_toArray, List.getElem_cons_zero, List.getElem_cons_succ])
    refine wpAnyH_take (i := 9) (v := ?v9z) rfl (by kernel_rfl) (by kernel_rfl) (by kernel_rfl) (fun _ _ _ h => h) (Or.inl ⟨by rfl, ?y9z⟩) (by assumption) ?_
    case y9z =>
      intro w hSw
      (try dsimp only at hSw)
      go_simp
      (try with_reducible rfl)
    (try simp only [Act.put, List.setIfInBounds_toArray, List.set_cons_zero, List.set_cons_succ, List.getElem_toArray, List.getElem_cons_zero, List.getElem_cons_succ])
    refine wpAnyH_done (by kernel_rfl) ?_ _
    go_wp2_with fail
    all_goals go_meet
    all_goals exact ⟨rfl, keep l5⟩
  case rest =>
    obtain ⟨rfl, H⟩ := hcut
    have hS : (seal_ key (bs.take 48) != bs) = false := by simpa using hs.out
    rw [hS]
    have hn := HL.out.2.size
    have hlt := R1.out.lt
    have R2 := keep (R1.out.step H.out)
    have B2 := keep (HL.out.2.trans (H.out.mono hn))
    clear HK HB HT R1 H hS hs
    have l3 := keep (below_lay wc (.cells refZ 33))
    have F3 := keep (show FB (wc.alloc (.cells refZ 33)) wc.heap.size (pt b 0 0) from by unfold FB; rw [pt_zero]; exact heap_alloc_new wc _)
    have hwc : w.heap.size < wc.heap.size := R2.out.lt
    have HN : Hid (b.length = 48) := keep HW.out.len.symm
    go_wp2_with (go_at_call 17; refine (widths_any _).mono ?_; rintro e w3 ⟨g, rfl, hw, hg, hb1⟩; have H1 : Hid (FB w3 wc.heap.size (pt b 0 0) ∧ w3.heap[g]? = some (.cells wdC 3 (0, 0)) ∧ RB w3 w.heap.size .zero ∧ Below w.heap.size w w3) := keep ⟨F3.out.step hb1, hw, (R2.out.step l3.out).step hb1, up (up B2.out l3.out) hb1⟩; have hg2 : wc.heap.size < g := (Nat.lt_of_lt_of_le F3.out.lt hg); clear hw hg hb1)
    clear F3 l3 R2 B2
    go_loopw [8, 9] (fun a i wr => ∃ (j : Nat), j ≤ 11 ∧ i = .int .i64 j ∧ a = .int .i64 (off j) ∧ Hid (FB wr wc.heap.size (pt b j 0) ∧ wr.heap[g]? = some (.cells wdC 3 (0, 0)) ∧ RB wr w.heap.size .zero ∧ Below w.heap.size w wr)) (fun _ i _ => 11 - (intOf i).toNat)
    case atStart => exact ⟨0, by omega, rfl, rfl, H1⟩
    case round =>
      obtain ⟨j, hj, rfl, rfl, H⟩ := hrel
      by_cases hlt : j < 11
      · obtain ⟨o1, o2, _, o4⟩ := off_wid j hlt
        have hj11 : (j : Int) < 11 := Int.ofNat_lt.2 hlt
        go_wp2_with fail
        go_loopw [8, 10] (fun a x wq => ∃ (k q : Nat), k ≤ wid j ∧ q = off j + k ∧ x = .int .i64 k ∧ a = .int .i64 q ∧ Hid (FB wq wc.heap.size (pt b j k) ∧ wq.heap[g]? = some (.cells wdC 3 (0, 0)) ∧ RB wq w.heap.size .zero ∧ Below w.heap.size w wq)) (fun _ x _ => wid j - (intOf x).toNat)
        case atStart => exact ⟨0, off j, by omega, rfl, rfl, rfl, H⟩
        case round =>
          obtain ⟨k, q, hk, hq, rfl, rfl, HQ⟩ := hrel
          have cw : wr.cell? ⟨g, j, none⟩ = some (.int .i64 (wid j : Int)) := by rw [cell_of_row _ _ _ _ _ _ HQ.out.2.1]; exact o4
          by_cases hkl : k < wid j
          · have hat : (q : Int) < 60 := by omega
            have hat0 : (0 : Int) ≤ (q : Int) := by omega
            have hln := HN.out
            obtain ⟨x, hx⟩ : ∃ x, b[off j + k]? = some x := ⟨_, List.getElem?_eq_getElem (by omega)⟩
            have cs := HQ.out.1.cell j hlt
            have fs := HQ.out.1.fz j
            have cb : wr.cell? ⟨b0, o0 + q, none⟩ = some (.int .u8 (x.toNat : Int)) := by
              have := (HW.out.step HQ.out.2.2.2).news (off j + k) (.int .u8 (x.toNat : Int)) (by simp [bc, hx])
              rw [hq]
              simpa [Addr.add_lit] using this
            have p0 := pt_pos b j k j
            have PX := keep (pt_step b hln j k hlt hkl x hx)
            have PO := keep (pt_over b hln j k hlt hkl)
            obtain ⟨p, hp⟩ : ∃ p, pt b j k j = p := ⟨_, rfl⟩
            rw [hp] at cs p0 PX PO
            by_cases ho : 18014398509481984 < p
            · have hno := PO.out ho
              obtain ⟨a0, a1, a2, a3, a4, a5, a6, a7, a8, a9, a10⟩ := HQ.out.2.2.1.all
              obtain ⟨z0, z1, z2, z3, z4, z5, z6, z7, z8, z9, z10⟩ := HQ.out.2.2.1.fzs
              have hlw := HQ.out.2.2.1.lt
              clear PX PO cb
              go_wp2_with fail
              refine bodyPost_ret (ret_ref_err rfl _ _ w.heap.size .zero rfl (laidR HQ.out.2.2.1 .zero)) rfl (GoodPost.bad hno ⟨rfl, below11 HQ.out.2.2.2 (Nat.le_refl _) _ _ _ _ _ _ _ _ _ _ _⟩)
            · clear PO
              obtain ⟨w1, w2, w3, w4⟩ := mul_small p0 ho x
              have w5 : wrap64 (x.toNat : Int) = (x.toNat : Int) := by have := x.toNat_lt; unfold wrap64; omega
              have HQ2 := keep (And.intro HQ.out hln)
              have HK2 := keep (And.intro hkl hk)
              have HQq := keep hq
              have HK3 := keep hlt
              clear hx hln hq
              go_wp2_with fail
              go_region
              all_goals go_wp2_with fail
              go_roundw
              case rel =>
                refine ⟨k + 1, q + 1, by have := HK2.out; omega, by have := HQq.out; omega, by go_num, by go_num, ?_⟩
                exact keep (step_facts HQ2.out.1 PX.out HK3.out hwc hg2)
              case measure => simp [intOf]; have := HK2.out; omega
          · obtain rfl : k = wid j := by omega
            subst hq
            go_wp2_with fail
            refine ⟨⟨j + 1, by omega, by go_num, by rw [o1], keep ⟨by rw [← pt_full]; exact HQ.out.1, HQ.out.2⟩⟩, by simp [intOf]; omega⟩
      · obtain rfl : j = 11 := by omega
        obtain ⟨_, _, e2⟩ := pt_all b HN.out
        have ML := may_last b
        have R6 : RB wr wc.heap.size _ := (by have := H.out.1; unfold FB at this; rw [e2] at this; exact this)
        obtain ⟨made, hmade⟩ : ∃ x, n8 b 0 = x := ⟨_, rfl⟩
        obtain ⟨life, hlife⟩ : ∃ x, n8 b 8 = x := ⟨_, rfl⟩
        obtain ⟨tag, htag⟩ : ∃ x, n4 b 16 = x := ⟨_, rfl⟩
        obtain ⟨peer, hpeer⟩ : ∃ x, n4 b 20 = x := ⟨_, rfl⟩
        obtain ⟨fst, hfst⟩ : ∃ x, n4 b 24 = x := ⟨_, rfl⟩
        obtain ⟨pf, hpf⟩ : ∃ x, n4 b 28 = x := ⟨_, rfl⟩
        obtain ⟨room, hroom⟩ : ∃ x, n4 b 32 = x := ⟨_, rfl⟩
        obtain ⟨out, hout⟩ : ∃ x, n2 b 44 = x := ⟨_, rfl⟩
        obtain ⟨inn, hinn⟩ : ∃ x, n2 b 46 = x := ⟨_, rfl⟩
        obtain ⟨t0, ht0⟩ : ∃ x, n4 b 36 = x := ⟨_, rfl⟩
        obtain ⟨t1, ht1⟩ : ∃ x, n4 b 40 = x := ⟨_, rfl⟩
        rw [hmade, hlife, htag, hpeer, hfst, hpf, hroom, hout, hinn, ht0, ht1] at R6 ML
        clear e2 hmade hlife htag hpeer hfst hpf hroom hout hinn ht0 ht1
        replace ML := keep ML
        obtain ⟨a0, a1, a2, a3, a4, a5, a6, a7, a8, a9, a10⟩ := H.out.2.2.1.all
        obtain ⟨z0, z1, z2, z3, z4, z5, z6, z7, z8, z9, z10⟩ := H.out.2.2.1.fzs
        obtain ⟨s0, s1, s2, s3, s4, s5, s6, s7, s8, s9, s10⟩ := R6.all
        dsimp only at s0 s1 s2 s3 s4 s5 s6 s7 s8 s9 s10
        clear R6
        by_cases g0 : 281474976710656 < made
        · have hno := keep (ML.out.2 (by omega))
          go_wp2_with fail
          refine bodyPost_ret (ret_ref_err rfl _ _ w.heap.size .zero rfl (laidR H.out.2.2.1 .zero)) rfl (GoodPost.bad hno.out ⟨rfl, below11 H.out.2.2.2 (Nat.le_refl _) _ _ _ _ _ _ _ _ _ _ _⟩)
        · by_cases g1 : 281474976710656 < life
          · have hno := keep (ML.out.2 (by omega))
            go_wp2_with fail
            refine bodyPost_ret (ret_ref_err rfl _ _ w.heap.size .zero rfl (laidR H.out.2.2.1 .zero)) rfl (GoodPost.bad hno.out ⟨rfl, below11 H.out.2.2.2 (Nat.le_refl _) _ _ _ _ _ _ _ _ _ _ _⟩)
          · have hyes := keep (ML.out.1 (by omega))
            go_wp2_with fail
            refine bodyPost_ret (ret_ref_err rfl _ _ w.heap.size ⟨made, life, tag, peer, fst, pf, room, out, inn, t0, t1⟩ rfl (laidR H.out.2.2.1 ⟨made, life, tag, peer, fst, pf, room, out, inn, t0, t1⟩)) rfl (GoodPost.good hyes.out.1 ⟨by rw [← hyes.out.2]; rfl, below11 H.out.2.2.2 (Nat.le_refl _) _ _ _ _ _ _ _ _ _ _ _⟩)
end Go.Proofs.Ytjfkiiohmjdceaa
