/- The runs of a set. -/
import Derived.WalkSpells
import Derived.KernelRfl
import Derived.Test.YtofebpikihandaaGE
namespace Go.Proofs.Ytofebpikihandaa
open Go.RowKit Go.Maps
set_option linter.unusedVariables false
set_option linter.unusedSimpArgs false

/-- Runs as cells. -/
def prs : List (Nat × Nat) → List Value
  | [] => []
  | p :: r => .int .u16 (p.1 : Int) :: .int .u16 (p.2 : Int) :: prs r
theorem prs_len : ∀ l : List (Nat × Nat), (prs l).length = l.length * 2
  | [] => rfl
  | p :: r => by simp [prs, prs_len r]; omega
theorem prs_app : ∀ l m : List (Nat × Nat), prs (l ++ m) = prs l ++ prs m
  | [], m => rfl
  | p :: r, m => by simp [prs, prs_app r m]
theorem prs_one : ∀ (l : List (Nat × Nat)), ∀ u ∈ prs l, u.oneCell' = true
  | [], u, hu => by simp [prs] at hu
  | p :: r, u, hu => by
    simp only [prs, List.mem_cons] at hu
    rcases hu with rfl | rfl | hu
    · rfl
    · rfl
    · exact prs_one r u hu
theorem prs_get : ∀ (l : List (Nat × Nat)) (i : Nat) (p : Nat × Nat), l[i]? = some p → (prs l)[i * 2]? = some (.int .u16 (p.1 : Int)) ∧ (prs l)[i * 2 + 1]? = some (.int .u16 (p.2 : Int))
  | [], i, p, h => by simp at h
  | q :: r, 0, p, h => by
    simp at h
    subst h
    simp [prs]
  | q :: r, i + 1, p, h => by
    have := prs_get r i p (by simpa using h)
    rw [show (i + 1) * 2 = i * 2 + 1 + 1 by omega, show i * 2 + 1 + 1 + 1 = (i * 2 + 1) + 1 + 1 by omega]
    simpa [prs] using this
theorem prs_last (l : List (Nat × Nat)) (a e h : Nat) : (prs (l ++ [(a, e)])).set (l.length * 2 + 1) (.int .u16 (h : Int)) = prs (l ++ [(a, h)]) := by
  rw [prs_app, prs_app, List.set_append_right _ _ (by rw [prs_len]; omega), prs_len, show l.length * 2 + 1 - l.length * 2 = 1 by omega]
  rfl

/-- A cell of an own row written. -/
theorem own_set {w : World} {base g n c : Nat} {e : TypeId} {size : Nat} {xs : List Value} (h : w.ownsRow base e size (.slice (some ⟨g, 0, none⟩) n c) n xs) {j : Nat} (hj : j < xs.length) (u : Value) :
    (w.setCell ⟨g, j, none⟩ u).ownsRow base e size (.slice (some ⟨g, 0, none⟩) n c) n (xs.set j u) := by
  refine ⟨by rw [List.length_set]; exact h.1, ?_⟩
  rcases h.2 with ⟨h0, _⟩ | ⟨g', cap, cur, hv, hg, hgg, h1, h2, h3, ht⟩
  · cases h0
  · injection hv with e1 _ e2
    injection e1 with e1
    injection e1 with e1
    subst e1 e2
    refine .inr ⟨g, c, cur.setIfInBounds j u, rfl, hg, ?_, h1, h2, by simpa using h3, ?_⟩
    · unfold World.setCell
      simp [Array.getElem?_modify, hgg]
    · rw [← ht] at hj ⊢
      rw [Array.toList_setIfInBounds, List.take_set]
theorem own_at {w : World} {base n : Nat} {e : TypeId} {size : Nat} {v : Value} {xs : List Value} (h : w.ownsRow base e size v n xs) {j : Nat} {u : Value} (hj : xs[j]? = some u) :
    ∃ g c, v = .slice (some ⟨g, 0, none⟩) n c ∧ n ≤ c ∧ base ≤ g ∧ g < w.heap.size ∧ w.cell? ⟨g, j, none⟩ = some u ∧ w.frozen? ⟨g, j, none⟩ = false := by
  rcases h.2 with ⟨_, h0⟩ | ⟨g', cap, cur, hv, hg, hgg, h1, h2, h3, ht⟩
  · have h1 := h.1
    rw [h0] at h1
    have : xs = [] := List.eq_nil_of_length_eq_zero (by simpa using h1)
    rw [this] at hj
    simp at hj
  · refine ⟨g', cap, hv, h1, hg, (Array.getElem?_eq_some_iff.1 hgg).1, ?_, by simp [World.frozen?, hgg]⟩
    rw [cell_of_row w g' j cur _ _ hgg]
    rw [← ht, List.getElem?_take] at hj
    split at hj
    · simpa using hj
    · cases hj
theorem cell_two_new (w : World) (x y : Value) (t : TypeId) : ∀ j u, [x, y][j]? = some u → (w.alloc (.cells #[x, y] t)).cell? ((⟨w.heap.size, 0, none⟩ : Addr).add j) = some u := by
  intro j u hj
  rw [Addr.add_lit, cell_of_row _ _ _ _ _ _ (heap_alloc_new w _)]
  simpa using hj

theorem block_info : (Try.prog.info? 49).map (fun i => (i.zero, i.size, i.bytes)) = some (some (.agg #[.int .u16 0, .int .u16 0]), 2, 4) := by kernel_rfl

theorem own_is {w : World} {base : Nat} {e : TypeId} {size n : Nat} {v : Value} {xs : List Value} (h : w.ownsRow base e size v n xs) : ∃ A c, v = .slice A n c ∧ n ≤ c := by
  rcases h.2 with ⟨rfl, rfl⟩ | ⟨g, cap, cur, rfl, _, _, hnc, _⟩
  · exact ⟨none, 0, rfl, Nat.le_refl _⟩
  · exact ⟨_, cap, rfl, hnc⟩
/-- The runs are answered in new memory. -/
def RetR (w : World) (L : List Nat) (e : Ending) (w' : World) : Prop := ∃ A c, e = .returned (.slice A (runs L).length c) ∧ (runs L).length ≤ c ∧ w'.ownsRow w.heap.size 49 2 (.slice A (runs L).length c) (runs L).length (prs (runs L)) ∧ Below w.heap.size w w'

theorem Blocks_nil (w : World) : Calls Try.prog 19 #[.pointer none] w fun e w' => e = .returned (.slice none 0 0) ∧ w = w' := by
  have h1 : Calls Try.prog 30 #[.pointer none] w fun e w' => e = .returned (.slice none 0 0) ∧ w = w' := by
    go_enter Try.func30, Try.ntmps30
    go_wp2
    go_ret
    exact ⟨rfl, rfl⟩
  go_enter Try.func19, Try.ntmps19
  go_wp2_with (go_at_call 30; refine h1.mono ?_; rintro e w' ⟨rfl, rfl⟩)
  refine wp_loop_rounds 1 ?_
  rw [rounds_succ]
  go_wp2
  go_ret
  exact ⟨rfl, rfl⟩

/-- The runs so far, in the order told. -/
def sofar (L : List Nat) (j : Nat) : List (Nat × Nat) := (runsR (L.take j)).reverse
theorem sofar_snoc {L : List Nat} {j h : Nat} (hj : L[j]? = some h) : sofar L (j + 1) = (pushRun (runsR (L.take j)) h).reverse := by
  unfold sofar
  rw [List.take_add_one, hj]
  show (runsR (L.take j ++ [h])).reverse = _
  rw [runsR_snoc]
theorem sofar_none {L : List Nat} {j h : Nat} (hj : L[j]? = some h) (hs : sofar L j = []) : sofar L (j + 1) = [(h, h)] := by
  have : runsR (L.take j) = [] := List.reverse_eq_nil_iff.1 hs
  rw [sofar_snoc hj, this]
  rfl
theorem sofar_last {L : List Nat} {j h a e : Nat} {P : List (Nat × Nat)} (hj : L[j]? = some h) (hs : sofar L j = P ++ [(a, e)]) : runsR (L.take j) = (a, e) :: P.reverse := by
  have := congrArg List.reverse hs
  unfold sofar at this
  simpa using this
theorem sofar_on {L : List Nat} {j h a e : Nat} {P : List (Nat × Nat)} (hj : L[j]? = some h) (hs : sofar L j = P ++ [(a, e)]) (he : h = e + 1) : sofar L (j + 1) = P ++ [(a, h)] := by
  rw [sofar_snoc hj, sofar_last hj hs, push_on he]
  simp
theorem sofar_off {L : List Nat} {j h a e : Nat} {P : List (Nat × Nat)} (hj : L[j]? = some h) (hs : sofar L j = P ++ [(a, e)]) (he : ¬ h = e + 1) : sofar L (j + 1) = P ++ [(a, e)] ++ [(h, h)] := by
  rw [sofar_snoc hj, sofar_last hj hs, push_off he]
  simp
theorem sofar_full {L : List Nat} {j h a e : Nat} {P : List (Nat × Nat)} (hj : L[j]? = some h) (hs : sofar L j = P ++ [(a, e)]) (he : ¬ h = e + 1) (hl : P.length = 63) : runs L = P ++ [(a, e)] := by
  have h1 := runs_full (L.take j) (L.drop (j + 1)) h a e P.reverse (sofar_last hj hs) (by simpa using hl) he
  have h2 : L.take j ++ h :: L.drop (j + 1) = L := by
    obtain ⟨h3, h4⟩ := List.getElem?_eq_some_iff.1 hj
    rw [← h4, ← List.drop_eq_getElem_cons h3, List.take_append_drop]
  rw [h2, sofar_last hj hs] at h1
  rw [h1]
  simp
theorem sofar_all {L : List Nat} (h : (sofar L L.length).length ≤ 64) : runs L = sofar L L.length := by
  unfold sofar at *
  rw [List.take_length] at *
  exact runs_small L (by simpa using h)
theorem push_all {S : Nat → Prop} : ∀ (t : List Nat) (acc : List (Nat × Nat)), (∀ p ∈ acc, S p.1 ∧ S p.2) → (∀ h ∈ t, S h) → ∀ p ∈ t.foldl pushRun acc, S p.1 ∧ S p.2
  | [], acc, ha, _ => ha
  | h :: t, acc, ha, ht => by
    rw [List.foldl_cons]
    refine push_all t _ ?_ fun x hx => ht x (by simp [hx])
    have hh := ht h (by simp)
    rcases acc with _ | ⟨⟨a, e⟩, r⟩
    · intro p hp
      simp [pushRun] at hp
      rw [hp]
      exact ⟨hh, hh⟩
    · by_cases hb : h = e + 1
      · rw [push_on hb]
        intro p hp
        rcases List.mem_cons.1 hp with rfl | hp
        · exact ⟨(ha (a, e) (by simp)).1, hh⟩
        · exact ha p (by simp [hp])
      · rw [push_off hb]
        intro p hp
        rcases List.mem_cons.1 hp with rfl | hp
        · exact ⟨hh, hh⟩
        · exact ha p hp
theorem sofar_mem {L : List Nat} {j : Nat} : ∀ p ∈ sofar L j, p.1 ∈ L ∧ p.2 ∈ L := fun p hp =>
  push_all (S := (· ∈ L)) (L.take j) [] (fun p hp => absurd hp List.not_mem_nil) (fun h hh => List.mem_of_mem_take hh) p (by simpa [sofar, runsR] using hp)
theorem prs_two (h : Nat) : prs [(h, h)] = [.int .u16 (h : Int), .int .u16 (h : Int)] := rfl

def nat_of : Value → Nat
  | .int _ x => x.toNat
  | _ => 0
set_option maxHeartbeats 8000000 in
theorem Blocks_set {N : Nat} (hN : SortOK N) {b k : Nat} {v : Value} {f : Int} {L : List Nat} {T : List Int} {w : World} (h : SetAt w b k v f L T) (hL : L.length ≤ N) :
    Calls Try.prog 19 #[.pointer (some ⟨b, 0, none⟩)] w fun e w' => RetR w L e w' := by
  obtain ⟨i0, hi0, hz0, hz1, hz2⟩ := info_parts block_info
  have HH := keep (heights_set hN h hL)
  have HT := keep h.map.1.top
  have hlen := h.map.1.len
  obtain ⟨n, hn⟩ : ∃ n, L.length = n := ⟨_, rfl⟩
  unfold RetH at HH
  rw [hn] at hlen HH
  have HN := keep hn
  clear h hL hn
  go_enter Try.func19, Try.ntmps19
  go_wp2_with (go_at_call 30; refine HH.out.mono ?_; rintro e w1 ⟨A, c, rfl, hc1, hs1, hb1⟩; replace hs1 := keep hs1; replace hb1 := keep hb1)
  clear HH
  go_loopw [3, 10] (fun vb vi wr => ∃ (j m : Nat) (A' : Option Addr) (c' : Nat), vi = .int .i64 j ∧ vb = .slice A' m c' ∧ j ≤ n ∧ m ≤ 64 ∧ Hid (m = (sofar L j).length ∧ wr.ownsRow w1.heap.size 49 2 (.slice A' m c') m (prs (sofar L j)) ∧ Below w1.heap.size w1 wr))
    (fun _ vi _ => n - nat_of vi)
  case atStart => exact ⟨0, 0, none, 0, rfl, rfl, by omega, by omega, rfl, World.ownsRow_nil _ _ _ _, Below.refl _ _⟩
  case round =>
    obtain ⟨j, m, A', c', rfl, rfl, hj, hm, HJ⟩ := hrel
    by_cases hjn : j < n
    · obtain ⟨x, hx⟩ : ∃ x, L[j]? = some x := ⟨_, List.getElem?_eq_getElem (by rw [HN.out]; exact hjn)⟩
      obtain ⟨gh, oh, eA, _, hcell⟩ := SR.at_ (hs1.out.step HJ.out.2.2) (j := j) (by rw [u16s_len, HN.out]; exact hjn)
      subst eA
      have hx2 : (u16s L)[j]'(by rw [u16s_len, HN.out]; exact hjn) = .int .u16 (x : Int) := by
        have e1 : (u16s L)[j]? = some (.int .u16 (x : Int)) := by simp [u16s, hx]
        exact (List.getElem?_eq_some_iff.1 e1).2
      rw [hx2] at hcell
      have hxt := HT.out x (List.mem_of_getElem? hx)
      have HX := keep hx
      have hjz : (j : Int) < (n : Int) := by omega
      clear hx hx2
      rcases List.eq_nil_or_concat (sofar L j) with hP | ⟨P, ⟨a, e⟩, hP⟩
      · have hm0 := HJ.out.1
        rw [hP] at hm0
        have HS := keep (sofar_none HX.out hP)
        have HO := keep HJ.out.2.1
        rw [hP] at HO
        simp at hm0
        subst hm0
        clear hP
        go_wp2_with (at_builtin; refine wpList_append_own_at _ rfl (.tmp 40) (.tmp 44) 42 rfl w1.heap.size 49 i0 (.agg #[.int .u16 0, .int .u16 0]) 2 4 Try.underlying42 hi0 hz0 hz1 hz2 rfl (by decide) (.slice A' 0 c') 0 (prs []) rfl (HO.out.alloc _) ⟨wr.heap.size, 0, none⟩ 1 1 [.int .u16 x, .int .u16 x] rfl rfl (cell_two_new _ _ _ _) (prs_one [(x, x)]) (by unfold maxLen; omega) (by omega) (by have := HJ.out.2.2.size; simp; omega) ?_; intro v' w4 hown' hgrow hnil hloc; obtain ⟨A2, c2, rfl, y1⟩ := own_is hown'; clear y1 hnil hloc; replace hown' := keep hown'; replace hgrow := keep hgrow)
        go_roundw
        case rel => exact ⟨j + 1, 1, A2, c2, by go_num, rfl, by omega, by omega, by rw [HS.out]; rfl, by rw [HS.out]; exact hown'.out, (HJ.out.2.2.alloc HJ.out.2.2.size _).trans (grown_below hgrow.out (by have := HJ.out.2.2.size; simp; omega) fun g hg => (HO.out.lt g hg).1)⟩
        case measure => simp [nat_of]; omega
      · rw [List.concat_eq_append] at hP
        have hm0 := HJ.out.1
        rw [hP, List.length_append, List.length_singleton] at hm0
        have HO := keep HJ.out.2.1
        rw [hP] at HO
        have hee := HT.out e (sofar_mem (a, e) (by rw [hP]; simp)).2
        obtain ⟨p, hp⟩ : ∃ p, P.length = p := ⟨_, rfl⟩
        rw [hp] at hm0
        subst hm0
        have HP := keep hp
        obtain ⟨g, c3, hv, hc3, hg, hglt, hge, hgf⟩ := own_at HO.out (j := p * 2 + 1) (u := .int .u16 (e : Int)) (by rw [← hp]; exact (prs_get _ P.length (a, e) (by simp)).2)
        injection hv with hv1 _ hv2
        subst hv1 hv2
        have HPP := keep hP
        clear hP hp
        by_cases hxe : x = e + 1
        · have HS := keep (sofar_on HX.out HPP.out hxe)
          have HW := keep (own_set HO.out (j := p * 2 + 1) (by rw [prs_len, List.length_append, HP.out]; simp; omega) (.int .u16 (x : Int)))
          subst hxe
          go_wp2_with fail
          exact ⟨⟨j + 1, p + 1, _, _, by go_num, rfl, by omega, hm, by rw [HS.out]; simp [HP.out], by
            have := HW.out
            rw [← HP.out, prs_last] at this
            rw [HS.out, ← HP.out]
            exact this, HJ.out.2.2.setCell hg _⟩, by simp [nat_of]; omega⟩
        · have hxz : ¬ (x : Int) = (e : Int) + 1 := by omega
          by_cases hf : p + 1 < 64
          · have HS := keep (sofar_off HX.out HPP.out hxe)
            go_wp2_with (at_builtin; refine wpList_append_own_at _ rfl (.tmp 40) (.tmp 44) 42 rfl w1.heap.size 49 i0 (.agg #[.int .u16 0, .int .u16 0]) 2 4 Try.underlying42 hi0 hz0 hz1 hz2 rfl (by decide) (.slice (some ⟨g, 0, none⟩) (p + 1) c') ((p + 1)) (prs (P ++ [(a, e)])) rfl (HO.out.alloc _) ⟨wr.heap.size, 0, none⟩ 1 1 [.int .u16 x, .int .u16 x] rfl rfl (cell_two_new _ _ _ _) (prs_one [(x, x)]) (by unfold maxLen; omega) (by omega) (by have := HJ.out.2.2.size; simp; omega) ?_; intro v' w4 hown' hgrow hnil hloc; obtain ⟨A2, c2, rfl, y1⟩ := own_is hown'; clear y1 hnil hloc; replace hown' := keep hown'; replace hgrow := keep hgrow)
            go_roundw
            case rel => exact ⟨j + 1, p + 1 + 1, A2, c2, by go_num, rfl, by omega, by omega, by rw [HS.out]; simp [HP.out], by rw [HS.out, prs_app]; exact hown'.out, (HJ.out.2.2.alloc HJ.out.2.2.size _).trans (grown_below hgrow.out (by have := HJ.out.2.2.size; simp; omega) fun g hg => (HO.out.lt g hg).1)⟩
            case measure => simp [nat_of]; omega
          · have HR := keep (sofar_full HX.out HPP.out hxe (by rw [HP.out]; omega))
            go_wp2_with fail
            go_ret
            have hrl : (runs L).length = p + 1 := by rw [HR.out]; simp [HP.out]
            exact ⟨_, c', by rw [hrl]; rfl, by rw [hrl]; exact hc3, by rw [hrl, HR.out]; exact own_mono HO.out hb1.out.size, hb1.out.trans (HJ.out.2.2.mono hb1.out.size)⟩
    · obtain rfl : j = n := by omega
      have hge : ¬ (j : Int) < (j : Int) := by omega
      have hr := sofar_all (L := L) (by rw [HN.out, ← HJ.out.1]; exact hm)
      rw [HN.out] at hr
      have HR := keep hr
      clear hr
      go_wp2_with fail
      go_ret
      have hrl : (runs L).length = m := by rw [HR.out]; exact HJ.out.1.symm
      obtain ⟨A9, c9, hv9, hc9⟩ := own_is HJ.out.2.1
      injection hv9 with _ _ hc8
      exact ⟨A', c', by rw [hrl]; rfl, by rw [hrl, hc8]; exact hc9, by rw [hrl, HR.out]; exact own_mono HJ.out.2.1 hb1.out.size, hb1.out.trans (HJ.out.2.2.mono hb1.out.size)⟩
end Go.Proofs.Ytofebpikihandaa
