/- The document's Decode for layer 9, from the code on. -/
import Derived.Test.YtjfkiiohmjdceaaKR3
import Derived.Deep.RegionHeld3
import Derived.Deep.AppendLies
namespace Go.Proofs.Ytjfkiiohmjdceaa
open Go.RowKit
set_option linter.unusedVariables false

theorem whole_run (w : World) (A : Option Addr) (c : Nat) (bs : List UInt8) (h : BS w A 60 c bs) :
    (convert 22 9 (.slice A 60 c)).run Try.prog w = .ok (.string ⟨bs.toArray⟩) w := by
  have h2 := run_bytes_str (P := Try.prog) w 22 5 Try.underlying22 Try.underlying5 _ _ c h.br 9 Try.underlying9
  rw [← h.len] at h2
  exact h2
theorem BS.news {w : World} {b o n c : Nat} {bs : List UInt8} (h : BS w (some ⟨b, o, none⟩) n c bs) : ∀ j u, (bc bs)[j]? = some u → w.cell? ((⟨b, o, none⟩ : Addr).add j) = some u := fun j u hu => by
  obtain ⟨b', o', e, _, hc⟩ := h.br.sr (by intro h0; rw [h0] at hu; simp at hu)
  injection e with e
  injection e with e1 e2
  subst e1 e2
  rw [Addr.add_lit]
  exact hc j u hu

theorem laidR {w : World} {g : Nat} {u : CS} (h : RB w g u) (s : CS) :
    RB ((((((((((((w).setCell ⟨g, 0, none⟩ (.int .i64 s.made)).setCell ⟨g, 1, none⟩ (.int .i64 s.life)).setCell ⟨g, 2, none⟩ (.int .i64 s.tag)).setCell ⟨g, 3, none⟩ (.int .i64 s.peer)).setCell ⟨g, 4, none⟩ (.int .i64 s.fst)).setCell ⟨g, 5, none⟩ (.int .i64 s.pf)).setCell ⟨g, 6, none⟩ (.int .i64 s.room)).setCell ⟨g, 7, none⟩ (.int .i64 s.t0)).setCell ⟨g, 8, none⟩ (.int .i64 s.t1)).setCell ⟨g, 9, none⟩ (.int .i64 s.out)).setCell ⟨g, 10, none⟩ (.int .i64 s.inn)) g s := by
  obtain ⟨made, life, tag, peer, fst, pf, room, out, inn, t0, t1⟩ := u
  obtain ⟨made', life', tag', peer', fst', pf', room', out', inn', t0', t1'⟩ := s
  unfold RB at h ⊢
  have k0 := heap_setCell_same _ g 0 _ _ (.int .i64 made') h
  simp only [List.setIfInBounds_toArray, List.set_cons_zero] at k0
  have k1 := heap_setCell_same _ g 1 _ _ (.int .i64 life') k0
  simp only [List.setIfInBounds_toArray, List.set_cons_zero, List.set_cons_succ] at k1
  have k2 := heap_setCell_same _ g 2 _ _ (.int .i64 tag') k1
  simp only [List.setIfInBounds_toArray, List.set_cons_zero, List.set_cons_succ] at k2
  have k3 := heap_setCell_same _ g 3 _ _ (.int .i64 peer') k2
  simp only [List.setIfInBounds_toArray, List.set_cons_zero, List.set_cons_succ] at k3
  have k4 := heap_setCell_same _ g 4 _ _ (.int .i64 fst') k3
  simp only [List.setIfInBounds_toArray, List.set_cons_zero, List.set_cons_succ] at k4
  have k5 := heap_setCell_same _ g 5 _ _ (.int .i64 pf') k4
  simp only [List.setIfInBounds_toArray, List.set_cons_zero, List.set_cons_succ] at k5
  have k6 := heap_setCell_same _ g 6 _ _ (.int .i64 room') k5
  simp only [List.setIfInBounds_toArray, List.set_cons_zero, List.set_cons_succ] at k6
  have k7 := heap_setCell_same _ g 7 _ _ (.int .i64 t0') k6
  simp only [List.setIfInBounds_toArray, List.set_cons_zero, List.set_cons_succ] at k7
  have k8 := heap_setCell_same _ g 8 _ _ (.int .i64 t1') k7
  simp only [List.setIfInBounds_toArray, List.set_cons_zero, List.set_cons_succ] at k8
  have k9 := heap_setCell_same _ g 9 _ _ (.int .i64 out') k8
  simp only [List.setIfInBounds_toArray, List.set_cons_zero, List.set_cons_succ] at k9
  have k10 := heap_setCell_same _ g 10 _ _ (.int .i64 inn') k9
  simp only [List.setIfInBounds_toArray, List.set_cons_zero, List.set_cons_succ] at k10
  exact k10
theorem RB.fz {w : World} {g : Nat} {s : CS} (h : RB w g s) (j : Nat) : w.frozen? ⟨g, j, none⟩ = false := frozen_of_row w g j _ _ h
theorem RB.fzs {w : World} {g : Nat} {s : CS} (h : RB w g s) : w.frozen? ⟨g, 0, none⟩ = false ∧ w.frozen? ⟨g, 1, none⟩ = false ∧ w.frozen? ⟨g, 2, none⟩ = false ∧ w.frozen? ⟨g, 3, none⟩ = false ∧ w.frozen? ⟨g, 4, none⟩ = false ∧ w.frozen? ⟨g, 5, none⟩ = false ∧ w.frozen? ⟨g, 6, none⟩ = false ∧ w.frozen? ⟨g, 7, none⟩ = false ∧ w.frozen? ⟨g, 8, none⟩ = false ∧ w.frozen? ⟨g, 9, none⟩ = false ∧ w.frozen? ⟨g, 10, none⟩ = false :=
  ⟨h.fz 0, h.fz 1, h.fz 2, h.fz 3, h.fz 4, h.fz 5, h.fz 6, h.fz 7, h.fz 8, h.fz 9, h.fz 10⟩
set_option maxRecDepth 100000 in
set_option maxHeartbeats 2000000 in
theorem refDecode_seal (K_ : Option Addr) (ck : Nat) (key : List UInt8) (A : Option Addr) (c : Nat) (bs : List UInt8) (w : World) (hk : BS w K_ 16 ck key) (hb : BS w A 60 c bs) (hm : bs.drop 56 = bol) (hs : seal_ key (bs.take 48) ≠ bs) :
    Calls Try.prog 6 #[.slice K_ 16 ck, .slice A 60 c] w (RefPost w .zero 6) := by
  obtain ⟨i0, hi0, hz0, hz1, hz2⟩ := info_parts u8_info
  have hc : (60 : Int) ≤ (c : Int) := by have := hb.cap; omega
  have hcn : ¬ c = 56 := by omega
  have hc56 : (56 : Int) ≤ (c : Int) := by omega
  have hc48 : (48 : Int) ≤ (c : Int) := by omega
  have hc0 : ¬ c = 0 := by omega
  obtain ⟨b0, o0, rfl, _⟩ := hb.place (by decide)
  have l1 := below_lay w (.cells refZ 33)
  have k1 := tail_run _ b0 o0 c bs (hb.step l1)
  obtain ⟨D, hD⟩ : ∃ D, bs.drop 56 = D := ⟨_, rfl⟩
  rw [hD] at k1
  have hne : (D == [66, 79, 76, 49]) = true := by rw [← hD, hm]; rfl
  have HK := keep (hk.step l1)
  have HB := keep (hb.step l1)
  have HT := keep ((hb.take 48 c (by decide) (by have := hb.cap; omega)).step l1)
  have HL := keep (And.intro hb.len l1)
  have R1 := keep (refZ_new w)
  clear hk hb hm hD l1
  go_enter Try.func6, Try.ntmps6
  go_wp2_with fail
  clear k1 hne
  obtain ⟨w1, hw1⟩ : ∃ w1, w.alloc (.cells refZ 33) = w1 := ⟨_, rfl⟩
  rw [hw1] at HK HB HT HL R1 ⊢
  replace hw1 := keep hw1
  go_cut [38] from 11 to 85 (fun x wx => x = .bool (seal_ key (bs.take 48) != bs) ∧ Hid (Below w1.heap.size w1 wx))
  case first =>
    refine wp_region_held_drew (S := fun w' => (convert 22 9 (.slice (some ⟨b0, o0, none⟩) 60 c)).run Try.prog w' = .ok (.string ⟨bs.toArray⟩) w') (by kernel_rfl) (whole_run _ _ c bs (show BS w1.drew (some ⟨b0, o0, none⟩) 60 c bs from HB.out)) fun hHeld => ?_
    refine wpAnyH_take (i := 0) (v := ?v0z) rfl (by kernel_rfl) (by kernel_rfl) (by kernel_rfl) (fun _ _ _ h => h) (Or.inl ⟨by rfl, ?y0z⟩) (by assumption) ?_
    case y0z =>
      intro w hSw
      (try dsimp only at hSw)
      go_simp
      (try with_reducible rfl)
    (try simp only [Act.put, List.setIfInBounds_toArray, List.set_cons_zero, List.set_cons_succ, List.getElem_toArray, List.getElem_cons_zero])
    refine wpAnyH_take (i := 2) (v := ?v2z) rfl (by kernel_rfl) (by kernel_rfl) (by kernel_rfl) (fun _ _ _ h => h) (Or.inl ⟨by rfl, ?y2z⟩) (by assumption) ?_
    case y2z =>
      intro w hSw
      (try dsimp only at hSw)
      go_simp
      (try with_reducible rfl)
    (try simp only [Act.put, List.setIfInBounds_toArray, List.set_cons_zero, List.set_cons_succ, List.getElem_toArray, List.getElem_cons_zero, List.getElem_cons_succ])
    refine wpAnyH_take (i := 3) (v := ?v3z) rfl (by kernel_rfl) (by kernel_rfl) (by kernel_rfl) (fun _ _ _ h => h) (Or.inl ⟨by rfl, ?y3z⟩) (by assumption) ?_
    case y3z =>
      intro w hSw
      (try dsimp only at hSw)
      go_simp
      (try with_reducible rfl)
    (try simp only [Act.put, List.setIfInBounds_toArray, List.set_cons_zero, List.set_cons_succ, List.getElem_toArray, List.getElem_cons_zero, List.getElem_cons_succ])
    refine wpAnyH_take (i := 7) (v := ?v7z) rfl (by kernel_rfl) (by kernel_rfl) (by kernel_rfl) (fun _ _ _ h => h) (Or.inl ⟨by rfl, ?y7z⟩) (by assumption) ?_
    case y7z =>
      intro w hSw
      (try dsimp only at hSw)
      go_simp
      (try with_reducible rfl)
    (try simp only [Act.put, List.setIfInBounds_toArray, List.set_cons_zero, List.set_cons_succ, List.getElem_toArray, List.getElem_cons_zero, List.getElem_cons_succ])
    refine wpAnyH_take (i := 8) (v := ?v8z) rfl (by kernel_rfl) (by kernel_rfl) (by kernel_rfl) (fun _ _ _ h => h) (Or.inl ⟨by rfl, ?y8z⟩) (by assumption) ?_
    case y8z =>
      intro w hSw
      (try dsimp only at hSw)
      go_simp
      (try with_reducible rfl)
    (try simp only [Act.put, List.setIfInBounds_toArray, List.set_cons_zero, List.set_cons_succ, List.getElem_toArray, List.getElem_cons_zero, List.getElem_cons_succ])
    refine wpAnyH_ready (rs := [1]) (by kernel_rfl) (by simp) ?_
    refine AllReadyH.cons rfl (fun K hK => ?_) AllReadyH.nil
    go_simp
    have l2 : Below w1.heap.size w1 (w1.drew.alloc (.cells #[] 5)) := (Below.refl w1.heap.size w1).drew.alloc (Nat.le_refl _) _
    have o2 : (w1.drew.alloc (.cells #[] 5)).ownsRow w1.heap.size 5 1 (.slice (some ⟨w1.heap.size, 0, none⟩) 0 0) 0 [] := own_row (heap_alloc_new w1.drew _) 0 rfl (by decide)
    clear hHeld
    refine hK.out _ _ (whole_run _ _ c bs (HB.out.step l2)) fun hHeld => ?_
    clear hK
    (try simp only [Act.put, List.setIfInBounds_toArray, List.set_cons_zero, List.set_cons_succ, List.getElem_toArray, List.getElem_cons_zero, List.getElem_cons_succ])
    refine wpAnyH_ready (rs := [4]) (by kernel_rfl) (by simp) ?_
    refine AllReadyH.cons rfl (fun K hK => ?_) AllReadyH.nil
    refine step_append_lies _ (by rfl) (.tmp 30) (.tmp 32) 22 (by rfl) w1.heap.size 5 i0 (.int .u8 0) 1 1 Try.underlying22 hi0 hz0 hz1 hz2 rfl (by decide) _ 0 [] rfl o2 ⟨b0, o0, none⟩ 48 c (bc (bs.take 48)) rfl (by rw [bc_length]; exact (HT.out.step l2).len.symm) (HT.out.step l2).news (bc_one _) (by decide) (by unfold maxLen; decide) (by decide) l2.size _ rfl ?_
    intro gg cap w4 hown4 hgrow _ _
    have l4 : Below w1.heap.size w1 w4 := l2.grown hgrow l2.size (fun k hk => (o2.lt k hk).1)
    simp only [Nat.zero_add, List.nil_append] at hown4
    clear hHeld
    refine hK.out _ _ (whole_run _ _ c bs (HB.out.step l4)) fun hHeld => ?_
    clear hK o2 hgrow l2
    (try simp only [Act.put, List.setIfInBounds_toArray, List.set_cons_zero, List.set_cons_succ, List.getElem_toArray, List.getElem_cons_zero, List.getElem_cons_succ])
    refine wpAnyH_ready (rs := [5]) (by kernel_rfl) (by simp) ?_
    refine AllReadyH.cons rfl (fun K hK => ?_) AllReadyH.nil
    go_simp
    go_at_call 16
    refine (coded_any K_ ck key _ 48 cap (bs.take 48) w4 (HK.out.step l4) (BS.of_own hown4) (by decide)).mono ?_
    rintro e w5 ⟨A5, n5, c5, rfl, hs5, hb5, _⟩
    have l5 : Below w1.heap.size w1 w5 := l4.trans (hb5.mono l4.size)
    obtain rfl : n5 = 60 := by rw [hs5.len, seal_length, List.length_take]; have := HL.out.1; omega
    have k5 := whole_run w5 A5 c5 _ hs5
    clear hHeld
    refine hK.out _ _ (whole_run _ _ c bs (HB.out.step l5)) fun hHeld => ?_
    clear hK hown4 l4 hs5 hb5
    (try simp only [Act.put, List.setIfInBounds_toArray, List.set_cons_zero, List.set_cons_succ, List.getElem_toArray, List.getElem_cons_zero, List.getElem_cons_succ])
    refine wpAnyH_ready (rs := [6]) (by kernel_rfl) (by simp) ?_
    refine AllReadyH.cons rfl (fun K hK => ?_) AllReadyH.nil
    go_simp
    refine hK.out _ _ (whole_run _ _ c bs (HB.out.step l5)) fun hHeld => ?_
    clear hK
    (try simp only [Act.put, List.setIfInBounds_toArray, List.set_cons_zero, List.set_cons_succ, List.getElem_toArray, List.getElem_cons_zero, List.getElem_cons_succ])
    refine wpAnyH_take (i := 9) (v := ?v9z) rfl (by kernel_rfl) (by kernel_rfl) (by kernel_rfl) (fun _ _ _ h => h) (Or.inl ⟨by rfl, ?y9z⟩) (by assumption) ?_
    case y9z =>
      intro w hSw
      (try dsimp only at hSw)
      go_simp
      (try with_reducible rfl)
    (try simp only [Act.put, List.setIfInBounds_toArray, List.set_cons_zero, List.set_cons_succ, List.getElem_toArray, List.getElem_cons_zero, List.getElem_cons_succ])
    refine wpAnyH_done (by kernel_rfl) ?_ _
    go_wp2_with fail
    all_goals go_meet
    all_goals exact ⟨rfl, keep l5⟩
  case rest =>
    obtain ⟨rfl, H⟩ := hcut
    have hS : (seal_ key (bs.take 48) != bs) = true := by simpa using hs
    rw [hS]
    have hn := HL.out.2.size
    have hlt := R1.out.lt
    have R2 := keep (R1.out.step H.out)
    have B2 := keep (HL.out.2.trans (H.out.mono hn))
    obtain ⟨a0, a1, a2, a3, a4, a5, a6, a7, a8, a9, a10⟩ := R2.out.all
    obtain ⟨z0, z1, z2, z3, z4, z5, z6, z7, z8, z9, z10⟩ := R2.out.fzs
    go_wp2_with fail
    refine bodyPost_ret (ret_ref_err rfl _ _ w.heap.size .zero rfl (laidR R2.out .zero)) rfl ⟨rfl, below11 B2.out (Nat.le_refl _) _ _ _ _ _ _ _ _ _ _ _⟩
end Go.Proofs.Ytjfkiiohmjdceaa
