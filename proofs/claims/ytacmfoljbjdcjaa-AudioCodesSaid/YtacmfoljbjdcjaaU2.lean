/- Package audio: slices.Delete of one packet. -/
import Derived.Test.YtacmfoljbjdcjaaU1
import Derived.Shelf.RegionOpenPlain
import Derived.Deep.LoopGhost
import Derived.Deep.RegionLaw
import Derived.Lib.SliceRun
namespace Go.Proofs.Ytacmfoljbjdcjaa
open Go.RowKit
set_option linter.unusedVariables false

theorem pkt_info : (Try.prog.info? 26).map (fun i => (i.zero.isSome, i.size)) = some (true, 6) := by kernel_rfl
theorem pkt_zero : ∀ w, (zeroValue 26).run Try.prog w = .ok (.agg #[.bool false, .int .u8 0, .int .u16 0, .int .u32 0, .int .u32 0, .slice none 0 0]) w := fun w => by first | kernel_rfl | rfl
set_option maxHeartbeats 4000000 in
set_option maxRecDepth 1000000 in
theorem Delete_one (g n c i : Nat) (l : List Pv) (w : World) (h : IR g c l w) (hn : n = l.length) (hi : i < n) (hm : n ≤ 100000) :
    Calls Try.prog 40 #[.slice (some ⟨g, 0, none⟩) n c, .int .i64 i, .int .i64 (i + 1)] w fun e w' => e = .returned (.slice (some ⟨g, 0, none⟩) (n - 1) c) ∧ IR g c (l.eraseIdx i) w' ∧ Part (fun i => i = g) w w' := by
  have mixed : Try.prog.follows .mixedOrders = true := by kernel_rfl
  obtain ⟨i0, hi0, hz1⟩ : ∃ i0, Try.prog.info? 26 = some i0 ∧ i0.size = 6 := by
    have := pkt_info
    cases hh : Try.prog.info? 26 with
    | none => rw [hh] at this; cases this
    | some i0 =>
      rw [hh] at this
      simp only [Option.map_some, Option.some.injEq, Prod.mk.injEq] at this
      exact ⟨i0, rfl, this.2⟩
  have hle := h.le
  obtain ⟨news, hnews⟩ : ∃ news, news = flatF Pv.cells (l.drop (i + 1)) := ⟨_, rfl⟩
  have hlen : news.length = (n - (i + 1)) * 6 := by rw [hnews, flatF_len Pv.len, List.length_drop, hn]
  have hcell : ∀ p v, (flatF Pv.cells l)[p]? = some v → w.cell? ⟨g, p, none⟩ = some v := by
    obtain ⟨cur, hg, _, _, hc⟩ := h
    intro p v hp
    rw [cell_of_row _ _ _ _ _ _ hg]
    exact hc p v hp
  obtain ⟨A, hA, hsrc⟩ : ∃ A : Addr, (if c = i + 1 then some (⟨g, 0, none⟩ : Addr) else some ⟨g, (i + 1) * 6, none⟩) = some A ∧ Hid (∀ t u, news[t]? = some u → w.drew.cell? (A.add t) = some u) := by
    by_cases hh : c = i + 1
    · refine ⟨⟨g, 0, none⟩, by simp [hh], fun t u hu => ?_⟩
      have h0 : news.length = 0 := by rw [hlen]; omega
      rw [List.length_eq_zero_iff.1 h0] at hu
      simp at hu
    · refine ⟨⟨g, (i + 1) * 6, none⟩, by simp [hh], fun t u hu => ?_⟩
      rw [hnews, ← flatF_drop Pv.len, List.getElem?_drop] at hu
      rw [Addr.add_lit]
      exact hcell ((i + 1) * 6 + t) u hu
  have s1 : Hid (news.length = (n - (i + 1)) * 6) := hlen
  have s2 : Hid (∀ u ∈ news, u.oneCell' = true) := fun u hu => by rw [hnews] at hu; exact flatF_one Pv.one _ u hu
  have s3 : Hid (∀ t, t < news.length → (w.drew.cell? ⟨g, 0 + i * 6 + t, none⟩).isSome = true ∧ w.drew.frozen? ⟨g, 0 + i * 6 + t, none⟩ = false) := fun t ht => ⟨(h.of (W' := w.drew) rfl).some_ (by omega), (h.of (W' := w.drew) rfl).fz _⟩
  obtain ⟨W1, hW1⟩ : ∃ W1, W1 = w.drew.setCells g (0 + i * 6) news := ⟨_, rfl⟩
  have hI1 : IR g c (l.eraseIdx i) W1 := by
    rw [hW1, hnews, Nat.zero_add]
    exact (h.of (W' := w.drew) rfl).erase (by omega)
  have hel : (l.eraseIdx i).length = n - 1 := by rw [List.length_eraseIdx, if_pos (by omega), hn]
  obtain ⟨vs, hvs, hcl⟩ := run_clear_wide (P := Try.prog) W1 81 26 (.agg #[.bool false, .int .u8 0, .int .u16 0, .int .u32 0, .int .u32 0, .slice none 0 0]) 6 Try.underlying81 pkt_zero rfl (by intro u hu; simp only [Value.cells, List.mem_toArray, List.mem_cons, List.not_mem_nil, or_false] at hu; rcases hu with rfl | rfl | rfl | rfl | rfl | rfl <;> rfl) (by decide) g ((n - 1) * 6) 1 (c - (n - 1)) (by decide) (fun t ht => hI1.some_ (by omega)) (fun t ht => hI1.fz _)
  have hI2 := IR.past vs ((n - 1) * 6) W1 (by rw [hel]; exact Nat.le_refl _) hI1
  have hP : Part (fun i => i = g) w (W1.setCells g ((n - 1) * 6) vs) := by
    rw [hW1]
    exact ((show Part (fun i => i = g) w w.drew from Part.of_below _ (Below.refl _ w).drew).trans (part_setCells g news _ w.drew) fun i hi => .inl hi).trans (part_setCells g _ _ _) fun i hi => .inl hi
  have HFI := keep (And.intro hI2 hP)
  have hW : Hid (W1 = w.drew.setCells g (0 + i * 6) news) := hW1
  obtain ⟨m, hmn⟩ : ∃ m, n = m + 1 := ⟨n - 1, by omega⟩
  subst hmn
  simp only [Nat.add_sub_cancel] at hcl HFI ⊢
  have HN := keep hn
  have hmc : m + 1 ≤ c := by omega
  have hmcI : (m : Int) + 1 ≤ (c : Int) := by omega
  have hiI : (i : Int) + 1 ≤ (m : Int) + 1 := by omega
  have him : i ≤ m := by omega
  have hic : i ≤ c := by omega
  have hic1 : i + 1 ≤ c := by omega
  have hi0I : (0 : Int) ≤ (i : Int) + 1 := by omega
  have him2 : i + (m - i) = m := by omega
  rw [Nat.add_sub_add_right] at s1
  have hicI : (i : Int) + 1 ≤ (c : Int) := by omega
  have hii : ¬ ((i : Int) = (i : Int) + 1) := by omega
  clear hle
  clear hW1 hP hI1 hI2 hcell hnews hlen h hel hvs hn
  go_enter Try.func40, Try.ntmps40
  go_wp2_with fail
  go_region_law_o (refine step_append_room rfl (.tmp 22) (.tmp 25) 81 rfl 26 i0 6 Try.underlying81 hi0 hz1 g 0 i c (by simp [Act.eval, Act.put]) A (m - i) (c - (i + 1)) news (by simp [Act.eval, Act.put]) s1.out hsrc.out s2.out (by omega) s3.out ?_; rw [← hW.out])
  go_wp2
  go_ret
  exact ⟨rfl, HFI.out.1, HFI.out.2⟩
end Go.Proofs.Ytacmfoljbjdcjaa
