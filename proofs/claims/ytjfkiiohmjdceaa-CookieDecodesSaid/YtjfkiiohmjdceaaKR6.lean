/- The document's Decode for layer 9: its two loops. -/
import Derived.Test.YtjfkiiohmjdceaaKR5
namespace Go.Proofs.Ytjfkiiohmjdceaa
open Go.RowKit
set_option linter.unusedVariables false

def FB (w : World) (g : Nat) (f : Nat → Int) : Prop := w.heap[g]? = some (.cells (cellsOf f) 33 (0, 0))
theorem FB.lt {w : World} {g : Nat} {f : Nat → Int} (h : FB w g f) : g < w.heap.size := (Array.getElem?_eq_some_iff.1 h).1
theorem FB.cell {w : World} {g : Nat} {f : Nat → Int} (h : FB w g f) (j : Nat) (hj : j < 11) : w.cell? ⟨g, j, none⟩ = some (.int .i64 (f j)) := by rw [cell_of_row _ _ _ _ _ _ h]; exact cells_get f j hj
theorem FB.fz {w : World} {g : Nat} {f : Nat → Int} (h : FB w g f) (j : Nat) : w.frozen? ⟨g, j, none⟩ = false := frozen_of_row w g j _ _ h
theorem FB.step {w w' : World} {g : Nat} {f : Nat → Int} (h : FB w g f) (hb : Below w.heap.size w w') : FB w' g f := (hb.block g h.lt).trans h
theorem FB.set {w : World} {g : Nat} {f : Nat → Int} (h : FB w g f) (j : Nat) (hj : j < 11) (v : Int) : FB (w.setCell ⟨g, j, none⟩ (.int .i64 v)) g (fun i => if i = j then v else f i) := by
  have := heap_setCell_same w g j _ _ (.int .i64 v) h
  rw [cells_set f j hj v] at this
  exact this
end Go.Proofs.Ytjfkiiohmjdceaa
/- UNDER WAY, NOT PROVED (see NOTES.md): what follows is a text to go on with.
set_option maxRecDepth 100000 in
set_option maxHeartbeats 2000000 in
theorem refDecode_good (K_ : Option Addr) (ck : Nat) (key : List UInt8) (A : Option Addr) (c : Nat) (bs : List UInt8) (w : World) (hk : BS w K_ 16 ck key) (hb : BS w A 60 c bs) (hm : bs.drop 56 = bol) (hs : seal_ key (bs.take 48) = bs) (b : List UInt8) (hbd : bs.take 48 = b) :
    Calls %A%.prog %f{bollard/bollardref09.Decode}% #[.slice K_ 16 ck, .slice A 60 c] w (fun e w' => ((stateOf b).may → RefPost w (stateOf b) 0 e w') ∧ (¬ (stateOf b).may → RefPost w .zero 3 e w')) := by
  obtain ⟨i0, hi0, hz0, hz1, hz2⟩ := info_parts u8_info
  replace hs := keep hs
  have hc : (60 : Int) ≤ (c : Int) := by have := hb.cap; omega
  have hcn : ¬ c = 56 := by omega
  have hc56 : (56 : Int) ≤ (c : Int) := by omega
  have hc48 : (48 : Int) ≤ (c : Int) := by omega
  have hc0 : ¬ c = 0 := by omega
  obtain ⟨b0, o0, rfl, _⟩ := hb.place (by decide)
  have l1 := below_lay w (.cells refZ %t{bollardref09.State}%)
  have k1 := tail_run _ b0 o0 c bs (hb.step l1)
  obtain ⟨D, hD⟩ : ∃ D, bs.drop 56 = D := ⟨_, rfl⟩
  rw [hD] at k1
  have hne : (D == [66, 79, 76, 49]) = true := by rw [← hD, hm]; rfl
  have HK := keep (hk.step l1)
  have HB := keep (hb.step l1)
  have HT := keep ((hb.take 48 c (by decide) (by have := hb.cap; omega)).step l1)
  have HL := keep (And.intro hb.len l1)
  have R1 := keep (refZ_new w)
  have HW := keep (hb.take 48 c (by decide) (by have := hb.cap; omega))
  rw [hbd] at HW
  replace hbd := keep hbd
  clear hk hb hm hD l1
  go_enter %A%.func%f{bollard/bollardref09.Decode}%, %A%.ntmps%f{bollard/bollardref09.Decode}%
  go_wp2_with fail
  clear k1 hne
  obtain ⟨w1, hw1⟩ : ∃ w1, w.alloc (.cells refZ %t{bollardref09.State}%) = w1 := ⟨_, rfl⟩
  rw [hw1] at HK HB HT HL R1 ⊢
  replace hw1 := keep hw1
  go_cut [38] from 11 to 85 (fun x wx => x = .bool (seal_ key (bs.take 48) != bs) ∧ Hid (Below w1.heap.size w1 wx))
  case first =>
    refine wp_region_held_drew (S := fun w' => (convert %t{[]uint8}% %t{string}% (.slice (some ⟨b0, o0, none⟩) 60 c)).run %A%.prog w' = .ok (.string ⟨bs.toArray⟩) w') (by kernel_rfl) (whole_run _ _ c bs (show BS w1.drew (some ⟨b0, o0, none⟩) 60 c bs from HB.out)) fun hHeld => ?_
    refine wpAnyH_take (i := 0) (v := ?v0z) rfl (by kernel_rfl) (by kernel_rfl) (by kernel_rfl) (fun _ _ _ h => h) (Or.inl ⟨by rfl, ?y0z⟩) (by assumption) ?_
    case y0z =>
      intro w hSw
      (try dsimp only at hSw)
      go_simp
      (try with_reducible rfl)
    (try simp only [Act.put, List.setIfInBounds_toArray, List.set_cons_zero, List.set_cons_succ, List.getElem_toArray, List.getElem_cons_zero])
    refine wpAnyH_take (i := 2) (v := ?v2z) rfl (by kernel_rfl) (by kernel_rfl) (by kernel_rfl) (fun _ _ _ h => h) (Or.inl ⟨by rfl, ?y2z⟩) (by assumption) ?_
    case y2z =>
      intro w hSw
      (try dsimp only at hSw)
      go_simp
      (try with_reducible rfl)
    (try simp only [Act.put, List.setIfInBounds_toArray, List.set_cons_zero, List.set_cons_succ, List.getElem_toArray, List.getElem_cons_zero, List.getElem_cons_succ])
    refine wpAnyH_take (i := 3) (v := ?v3z) rfl (by kernel_rfl) (by kernel_rfl) (by kernel_rfl) (fun _ _ _ h => h) (Or.inl ⟨by rfl, ?y3z⟩) (by assumption) ?_
    case y3z =>
      intro w hSw
      (try dsimp only at hSw)
      go_simp
      (try with_reducible rfl)
    (try simp only [Act.put, List.setIfInBounds_toArray, List.set_cons_zero, List.set_cons_succ, List.getElem_toArray, List.getElem_cons_zero, List.getElem_cons_succ])
    refine wpAnyH_take (i := 7) (v := ?v7z) rfl (by kernel_rfl) (by kernel_rfl) (by kernel_rfl) (fun _ _ _ h => h) (Or.inl ⟨by rfl, ?y7z⟩) (by assumption) ?_
    case y7z =>
      intro w hSw
      (try dsimp only at hSw)
      go_simp
      (try with_reducible rfl)
    (try simp only [Act.put, List.setIfInBounds_toArray, List.set_cons_zero, List.set_cons_succ, List.getElem_toArray, List.getElem_cons_zero, List.getElem_cons_succ])
    refine wpAnyH_take (i := 8) (v := ?v8z) rfl (by kernel_rfl) (by kernel_rfl) (by kernel_rfl) (fun _ _ _ h => h) (Or.inl ⟨by rfl, ?y8z⟩) (by assumption) ?_
    case y8z =>
      intro w hSw
      (try dsimp only at hSw)
      go_simp
      (try with_reducible rfl)
    (try simp only [Act.put, List.setIfInBounds_toArray, List.set_cons_zero, List.set_cons_succ, List.getElem_toArray, List.getElem_cons_zero, List.getElem_cons_succ])
    refine wpAnyH_ready (rs := [1]) (by kernel_rfl) (by simp) ?_
    refine AllReadyH.cons rfl (fun K hK => ?_) AllReadyH.nil
    go_simp
    have l2 : Below w1.heap.size w1 (w1.drew.alloc (.cells #[] %t{uint8}%)) := (Below.refl w1.heap.size w1).drew.alloc (Nat.le_refl _) _
    have o2 : (w1.drew.alloc (.cells #[] %t{uint8}%)).ownsRow w1.heap.size %t{uint8}% 1 (.slice (some ⟨w1.heap.size, 0, none⟩) 0 0) 0 [] := own_row (heap_alloc_new w1.drew _) 0 rfl (by decide)
    clear hHeld
    refine hK.out _ _ (whole_run _ _ c bs (HB.out.step l2)) fun hHeld => ?_
    clear hK
    (try simp only [Act.put, List.setIfInBounds_toArray, List.set_cons_zero, List.set_cons_succ, List.getElem_toArray, List.getElem_cons_zero, List.getElem_cons_succ])
    refine wpAnyH_ready (rs := [4]) (by kernel_rfl) (by simp) ?_
    refine AllReadyH.cons rfl (fun K hK => ?_) AllReadyH.nil
    refine step_append_lies _ (by rfl) (.tmp 30) (.tmp 32) %t{[]uint8}% (by rfl) w1.heap.size %t{uint8}% i0 (.int .u8 0) 1 1 %A%.underlying%t{[]uint8}% hi0 hz0 hz1 hz2 rfl (by decide) _ 0 [] rfl o2 ⟨b0, o0, none⟩ 48 c (bc (bs.take 48)) rfl (by rw [bc_length]; exact (HT.out.step l2).len.symm) (HT.out.step l2).news (bc_one _) (by decide) (by unfold maxLen; decide) (by decide) l2.size _ rfl ?_
    intro gg cap w4 hown4 hgrow _ _
    have l4 : Below w1.heap.size w1 w4 := l2.grown hgrow l2.size (fun k hk => (o2.lt k hk).1)
    simp only [Nat.zero_add, List.nil_append] at hown4
    clear hHeld
    refine hK.out _ _ (whole_run _ _ c bs (HB.out.step l4)) fun hHeld => ?_
    clear hK o2 hgrow l2
    (try simp only [Act.put, List.setIfInBounds_toArray, List.set_cons_zero, List.set_cons_succ, List.getElem_toArray, List.getElem_cons_zero, List.getElem_cons_succ])
    refine wpAnyH_ready (rs := [5]) (by kernel_rfl) (by simp) ?_
    refine AllReadyH.cons rfl (fun K hK => ?_) AllReadyH.nil
    go_simp
    go_at_call %f{bollard/bollardref09.coded}%
    refine (coded_any K_ ck key _ 48 cap (bs.take 48) w4 (HK.out.step l4) (BS.of_own hown4) (by decide)).mono ?_
    rintro e w5 ⟨A5, n5, c5, rfl, hs5, hb5, _⟩
    have l5 : Below w1.heap.size w1 w5 := l4.trans (hb5.mono l4.size)
    obtain rfl : n5 = 60 := by rw [hs5.len, seal_length, List.length_take]; have := HL.out.1; omega
    have k5 := whole_run w5 A5 c5 _ hs5
    clear hHeld
    refine hK.out _ _ (whole_run _ _ c bs (HB.out.step l5)) fun hHeld => ?_
    clear hK hown4 l4 hs5 hb5
    (try simp only [Act.put, List.setIfInBounds_toArray, List.set_cons_zero, List.set_cons_succ, List.getElem_toArray, List.getElem_cons_zero, List.getElem_cons_succ])
    refine wpAnyH_ready (rs := [6]) (by kernel_rfl) (by simp) ?_
    refine AllReadyH.cons rfl (fun K hK => ?_) AllReadyH.nil
    go_simp
    refine hK.out _ _ (whole_run _ _ c bs (HB.out.step l5)) fun hHeld => ?_
    clear hK
    (try simp only [Act.put, List.setIfInBounds_toArray, List.set_cons_zero, List.set_cons_succ, List.getElem_toArray, List.getElem_cons_zero, List.getElem_cons_succ])
    refine wpAnyH_take (i := 9) (v := ?v9z) rfl (by kernel_rfl) (by kernel_rfl) (by kernel_rfl) (fun _ _ _ h => h) (Or.inl ⟨by rfl, ?y9z⟩) (by assumption) ?_
    case y9z =>
      intro w hSw
      (try dsimp only at hSw)
      go_simp
      (try with_reducible rfl)
    (try simp only [Act.put, List.setIfInBounds_toArray, List.set_cons_zero, List.set_cons_succ, List.getElem_toArray, List.getElem_cons_zero, List.getElem_cons_succ])
    refine wpAnyH_done (by kernel_rfl) ?_ _
    go_wp2_with fail
    all_goals go_meet
    all_goals exact ⟨rfl, keep l5⟩
  case rest =>
    obtain ⟨rfl, H⟩ := hcut
    have hS : (seal_ key (bs.take 48) != bs) = false := by simpa using hs.out
    rw [hS]
    have hn := HL.out.2.size
    have hlt := R1.out.lt
    have R2 := keep (R1.out.step H.out)
    have B2 := keep (HL.out.2.trans (H.out.mono hn))
    clear HK HB HT R1 H hS hs
    have l3 := keep (below_lay wc (.cells refZ %t{bollardref09.State}%))
    have F3 := keep (show FB (wc.alloc (.cells refZ %t{bollardref09.State}%)) wc.heap.size (pt b 0 0) from by unfold FB; rw [pt_zero]; exact heap_alloc_new wc _)
    have hwc : w.heap.size < wc.heap.size := R2.out.lt
    have HN : Hid (b.length = 48) := keep HW.out.len.symm
    go_wp2_with go_loud (go_at_call %f{bollard/bollardref09.widths}%; refine (widths_any _).mono ?_; rintro e w3 ⟨g, rfl, hw, hg, hb1⟩; have H1 : Hid (FB w3 wc.heap.size (pt b 0 0) ∧ w3.heap[g]? = some (.cells wdC %t{int}% (0, 0)) ∧ RB w3 w.heap.size .zero ∧ Below w.heap.size w w3) := keep ⟨F3.out.step hb1, hw, (R2.out.step l3.out).step hb1, up (up B2.out l3.out) hb1⟩; have hg2 : wc.heap.size < g := (Nat.lt_of_lt_of_le F3.out.lt hg); clear hw hg hb1)
    clear F3 l3 R2 B2
    go_loopw [8, 9] (fun a i wr => ∃ (j : Nat), j ≤ 11 ∧ i = .int .i64 j ∧ a = .int .i64 (off j) ∧ Hid (FB wr wc.heap.size (pt b j 0) ∧ wr.heap[g]? = some (.cells wdC %t{int}% (0, 0)) ∧ RB wr w.heap.size .zero ∧ Below w.heap.size w wr)) (fun _ i _ => 11 - (intOf i).toNat)
    case atStart => exact ⟨0, by omega, rfl, rfl, H1⟩
    case round =>
      obtain ⟨j, hj, rfl, rfl, H⟩ := hrel
      by_cases hlt : j < 11
      · obtain ⟨o1, o2, _, o4⟩ := off_wid j hlt
        go_wp2_with fail
        go_loopw [8, 10] (fun a x wq => ∃ (k q : Nat), k ≤ wid j ∧ q = off j + k ∧ x = .int .i64 k ∧ a = .int .i64 q ∧ Hid (FB wq wc.heap.size (pt b j k) ∧ wq.heap[g]? = some (.cells wdC %t{int}% (0, 0)) ∧ RB wq w.heap.size .zero ∧ Below w.heap.size w wq)) (fun _ x _ => wid j - (intOf x).toNat)
        case atStart => exact ⟨0, off j, by omega, rfl, rfl, rfl, H⟩
        case round =>
          obtain ⟨k, q, hk, hq, rfl, rfl, HQ⟩ := hrel
          have cw : wr.cell? ⟨g, j, none⟩ = some (.int .i64 (wid j : Int)) := by rw [cell_of_row _ _ _ _ _ _ HQ.out.2.1]; exact o4
          by_cases hkl : k < wid j
          · have hat : (q : Int) < 60 := by omega
            have hat0 : (0 : Int) ≤ (q : Int) := by omega
            have hln := HN.out
            obtain ⟨x, hx⟩ : ∃ x, b[off j + k]? = some x := ⟨_, List.getElem?_eq_getElem (by omega)⟩
            have cs := HQ.out.1.cell j hlt
            have fs := HQ.out.1.fz j
            have cb : wr.cell? ⟨b0, o0 + q, none⟩ = some (.int .u8 (x.toNat : Int)) := by
              have := (HW.out.step HQ.out.2.2.2).news (off j + k) (.int .u8 (x.toNat : Int)) (by simp [bc, hx])
              rw [hq]
              simpa [Addr.add_lit] using this
            have p0 := pt_pos b j k j
            have PX := keep (pt_step b hln j k hlt hkl x hx)
            have PO := keep (pt_over b hln j k hlt hkl)
            obtain ⟨p, hp⟩ : ∃ p, pt b j k j = p := ⟨_, rfl⟩
            rw [hp] at cs p0 PX PO
            by_cases ho : 18014398509481984 < p
            · have hno := PO.out ho
              obtain ⟨a0, a1, a2, a3, a4, a5, a6, a7, a8, a9, a10⟩ := HQ.out.2.2.1.all
              obtain ⟨z0, z1, z2, z3, z4, z5, z6, z7, z8, z9, z10⟩ := HQ.out.2.2.1.fzs
              have hlw := HQ.out.2.2.1.lt
              clear PX PO cb
              go_wp2_with fail
              refine bodyPost_ret (ret_ref_err rfl _ _ w.heap.size .zero rfl (laidR HQ.out.2.2.1 .zero)) rfl ⟨fun h => absurd h hno, fun _ => ⟨rfl, below11 HQ.out.2.2.2 (Nat.le_refl _) _ _ _ _ _ _ _ _ _ _ _⟩⟩
            · clear PO
              go_wp2_with fail
              go_region_with (fail)
              trace_state
              HERE
          · obtain rfl : k = wid j := by omega
            subst hq
            go_wp2_with fail
            refine ⟨⟨j + 1, by omega, by go_num, by rw [o1], keep ⟨by rw [← pt_full]; exact HQ.out.1, HQ.out.2⟩⟩, by simp [intOf]; omega⟩
      · obtain rfl : j = 11 := by omega
        obtain ⟨_, _, e2⟩ := pt_all b HN.out
        have ML := may_last b
        have R6 : RB wr wc.heap.size _ := (by have := H.out.1; unfold FB at this; rw [e2] at this; exact this)
        obtain ⟨st, hst⟩ : ∃ st, CS.mk (n8 b 0) (n8 b 8) (n4 b 16) (n4 b 20) (n4 b 24) (n4 b 28) (n4 b 32) (n2 b 44) (n2 b 46) (n4 b 36) (n4 b 40) = st := ⟨_, rfl⟩
        have d0 : n8 b 0 = st.made := by rw [← hst]
        have d1 : n8 b 8 = st.life := by rw [← hst]
        rw [hst] at R6 ML
        rw [d0, d1] at ML
        replace ML := keep ML
        obtain ⟨a0, a1, a2, a3, a4, a5, a6, a7, a8, a9, a10⟩ := H.out.2.2.1.all
        obtain ⟨z0, z1, z2, z3, z4, z5, z6, z7, z8, z9, z10⟩ := H.out.2.2.1.fzs
        obtain ⟨s0, s1, s2, s3, s4, s5, s6, s7, s8, s9, s10⟩ := R6.all
        clear e2 hst d0 d1
        by_cases g0 : 281474976710656 < st.made
        · have hno := ML.out.2 (by omega)
          go_wp2_with fail
          refine bodyPost_ret (ret_ref_err rfl _ _ w.heap.size .zero rfl (laidR H.out.2.2.1 .zero)) rfl ⟨fun h => absurd h hno, fun _ => ⟨rfl, below11 H.out.2.2.2 (Nat.le_refl _) _ _ _ _ _ _ _ _ _ _ _⟩⟩
        · by_cases g1 : 281474976710656 < st.life
          · have hno := ML.out.2 (by omega)
            go_wp2_with fail
            refine bodyPost_ret (ret_ref_err rfl _ _ w.heap.size .zero rfl (laidR H.out.2.2.1 .zero)) rfl ⟨fun h => absurd h hno, fun _ => ⟨rfl, below11 H.out.2.2.2 (Nat.le_refl _) _ _ _ _ _ _ _ _ _ _ _⟩⟩
          · obtain ⟨hy, hst2⟩ := ML.out.1 (by omega)
            go_wp2_with fail
            refine bodyPost_ret (ret_ref_err rfl _ _ w.heap.size st rfl (laidR H.out.2.2.1 st)) rfl ⟨fun _ => ⟨by rw [← hst2]; rfl, below11 H.out.2.2.2 (Nat.le_refl _) _ _ _ _ _ _ _ _ _ _ _⟩, fun h => absurd hy h⟩
-/
