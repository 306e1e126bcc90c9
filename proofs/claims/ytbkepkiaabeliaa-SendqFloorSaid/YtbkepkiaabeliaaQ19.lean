/- A row of pointers whose first ones go away. -/
import Derived.Test.YtbkepkiaabeliaaQ18
import Derived.Test.YtbkepkiaabeliaaQ13
import Derived.Sort.EncStr
import Derived.Shelf.RegionOpenPlain
import Derived.Deep.LoopGhost
import Derived.Deep.RegionLaw
import Derived.Lib.SliceRun
import Derived.Lib.SlicesDelete
namespace Go.Proofs.Ytbkepkiaabeliaa
open Go.RowKit Go.Maps
set_option linter.unusedVariables false

def setM : List Value → Nat → List Value → List Value
  | xs, _, [] => xs
  | xs, o, v :: r => setM (xs.set o v) (o + 1) r
theorem setM_len : ∀ (vs : List Value) (o : Nat) (xs : List Value), (setM xs o vs).length = xs.length
  | [], _, _ => rfl
  | v :: r, o, xs => by rw [setM, setM_len r, List.length_set]
theorem setM_get : ∀ (vs : List Value) (o : Nat) (xs : List Value) (t : Nat), (setM xs o vs)[t]? = if o ≤ t ∧ t < o + vs.length ∧ t < xs.length then vs[t - o]? else xs[t]?
  | [], o, xs, t => by
    rw [setM, if_neg (by rintro ⟨h1, h2, _⟩; simp at h2; omega)]
  | v :: r, o, xs, t => by
    rw [setM, setM_get r, List.length_set, List.getElem?_set]
    simp only [List.length_cons]
    by_cases h : o = t
    · subst h
      rw [if_neg (by omega), if_pos rfl]
      by_cases hl : o < xs.length
      · rw [if_pos hl, if_pos (by omega), Nat.sub_self]
        rfl
      · rw [if_neg hl, if_neg (by omega), List.getElem?_eq_none (by omega)]
    · rw [if_neg h]
      by_cases h2 : o ≤ t ∧ t < o + (r.length + 1) ∧ t < xs.length
      · rw [if_pos (by omega), if_pos h2, show t - o = (t - (o + 1)) + 1 by omega]
        rfl
      · rw [if_neg (by omega), if_neg h2]
theorem own_setCells {base : Nat} {e : TypeId} {K g n c : Nat} : ∀ (vs : List Value) (o : Nat) (xs : List Value) (W : World), W.ownsRow base e K (.slice (some ⟨g, 0, none⟩) n c) n xs → (W.setCells g o vs).ownsRow base e K (.slice (some ⟨g, 0, none⟩) n c) n (setM xs o vs)
  | [], _, _, _, h => h
  | v :: r, o, xs, W, h => own_setCells r (o + 1) (xs.set o v) (W.setCell ⟨g, o, none⟩ v) (own_set h o v)
theorem part_setCells (g : Nat) : ∀ (vs : List Value) (o : Nat) (W : World), Part (fun i => i = g) W (W.setCells g o vs)
  | [], _, W => Part.refl _ W
  | v :: r, o, W => (part_set W g o v).trans (part_setCells g r (o + 1) _) fun i hi => .inl hi
theorem own_take {W : World} {base : Nat} {e : TypeId} {g n c m : Nat} {xs : List Value} (h : W.ownsRow base e 1 (.slice (some ⟨g, 0, none⟩) n c) n xs) (hm : m ≤ n) : W.ownsRow base e 1 (.slice (some ⟨g, 0, none⟩) m c) m (xs.take m) := by
  have h1 := h.1
  refine ⟨by rw [List.length_take]; omega, ?_⟩
  rcases h.2 with ⟨h0, _⟩ | ⟨g', cap, cur, hv, hb, hg, hnc, hmx, hsz, ht⟩
  · cases h0
  · injection hv with hv _ hc
    injection hv with hv
    injection hv with hv
    subst hv hc
    refine .inr ⟨g, c, cur, rfl, hb, hg, by omega, hmx, hsz, ?_⟩
    rw [← ht, List.take_take, Nat.mul_one, Nat.mul_one, Nat.min_eq_left hm]
theorem del_list (xs : List Value) (k n : Nat) (hn : xs.length = n) (hk : k ≤ n) (z : Value) : (setM (setM xs 0 (xs.drop k)) (n - k) (List.replicate k z)).take (n - k) = xs.drop k := by
  apply List.ext_getElem?
  intro t
  rw [List.getElem?_take]
  by_cases h : t < n - k
  · rw [if_pos h, setM_get, if_neg (by omega), setM_get, List.length_drop, if_pos (by omega), Nat.sub_zero]
  · rw [if_neg h, List.getElem?_drop, List.getElem?_eq_none (by omega)]
theorem del_info : (Try.prog.info? 87).map (fun i => (i.zero, i.size, i.bytes)) = some (some (.pointer none), 1, 8) := by kernel_rfl
theorem del_zero : ∀ w, (zeroValue 87).run Try.prog w = .ok (.pointer none) w := fun w => by first | kernel_rfl | rfl
theorem Delete_zero (v : Value) (A : Option Addr) (n c : Nat) (w : World) (hv : v = .slice A n c) (hnc : n ≤ c) (hc : c ≤ 9223372036854775807) :
    Calls Try.prog 77 #[v, .int .i64 0, .int .i64 0] w fun e w' => e = .returned v ∧ w = w' := by
  subst hv
  go_enter Try.func77, Try.ntmps77
  go_wp2
  all_goals (go_ret; exact ⟨rfl, rfl⟩)
set_option maxHeartbeats 4000000 in
set_option maxRecDepth 1000000 in
theorem Delete_some (g n c k : Nat) (xs : List Value) (w : World) (h : w.ownsRow 0 87 1 (.slice (some ⟨g, 0, none⟩) n c) n xs) (h1 : ∀ u ∈ xs, u.oneCell' = true) (hk : k ≤ n) (hk0 : 0 < k) :
    Calls Try.prog 77 #[.slice (some ⟨g, 0, none⟩) n c, .int .i64 0, .int .i64 k] w fun e w' => e = .returned (.slice (some ⟨g, 0, none⟩) (n - k) c) ∧ w'.ownsRow 0 87 1 (.slice (some ⟨g, 0, none⟩) (n - k) c) (n - k) (xs.drop k) ∧ Part (fun i => i = g) w w' := by
  have mixed : Try.prog.follows .mixedOrders = true := by kernel_rfl
  obtain ⟨i0, hi0, hz0, hz1, hz2⟩ := info_parts del_info
  have hxl : xs.length = n := by have := h.1; omega
  obtain ⟨cur, hcur, hsz, hnc, hmx⟩ : ∃ cur, w.heap[g]? = some (.cells cur 87 (0, 0)) ∧ cur.size = c ∧ n ≤ c ∧ c ≤ 9223372036854775807 := by
    rcases h.2 with ⟨h0, _⟩ | ⟨g', cap, cur, hv, hb, hg, hnc, hm, hsz, ht⟩
    · cases h0
    · injection hv with hv _ hc
      injection hv with hv
      injection hv with hv
      subst hv hc
      exact ⟨cur, hg, by omega, hnc, by unfold maxLen at hm; omega⟩
  have some_ : ∀ (W : World) (cs : Array Value) (j : Nat), W.heap[g]? = some (.cells cs 87 (0, 0)) → cs.size = c → j < c → (W.cell? ⟨g, j, none⟩).isSome = true ∧ W.frozen? ⟨g, j, none⟩ = false := fun W cs j hW hs hj => ⟨by rw [cell_of_row _ _ _ _ _ _ hW, Array.getElem?_eq_getElem (by omega)]; rfl, upd_fz hW j⟩
  have at_ : ∀ j v, xs[j]? = some v → w.cell? ⟨g, j, none⟩ = some v := by
    intro j v hj
    have hne : xs ≠ [] := by rintro rfl; simp at hj
    obtain ⟨g', e1, _, h3, _⟩ := own_row_at h hne
    injection e1 with e1
    injection e1 with e1
    subst e1
    exact h3 j v hj
  obtain ⟨news, hnews⟩ : ∃ news, news = xs.drop k := ⟨_, rfl⟩
  have hlen : news.length = n - k := by rw [hnews, List.length_drop, hxl]
  obtain ⟨A, hA, hsrc⟩ : ∃ A : Addr, (if c = k then some (⟨g, 0, none⟩ : Addr) else some ⟨g, k, none⟩) = some A ∧ Hid (∀ t u, news[t]? = some u → w.drew.cell? (A.add t) = some u) := by
    by_cases h : c = k
    · refine ⟨⟨g, 0, none⟩, by simp [h], fun t u hu => ?_⟩
      have h0 : news.length = 0 := by rw [hlen]; omega
      rw [List.length_eq_zero_iff.1 h0] at hu
      simp at hu
    · refine ⟨⟨g, k, none⟩, by simp [h], fun t u hu => ?_⟩
      rw [hnews, List.getElem?_drop] at hu
      rw [Addr.add_lit]
      exact at_ (k + t) u hu
  have s1 : Hid (news.length = (n - k) * 1) := by rw [Nat.mul_one]; exact hlen
  have s2 : Hid (∀ u ∈ news, u.oneCell' = true) := fun u hu => h1 u (by rw [hnews] at hu; exact List.mem_of_mem_drop hu)
  have s3 : Hid (∀ t, t < news.length → (w.drew.cell? ⟨g, 0 + 0 * 1 + t, none⟩).isSome = true ∧ w.drew.frozen? ⟨g, 0 + 0 * 1 + t, none⟩ = false) := fun t ht => some_ w.drew cur _ hcur hsz (by omega)
  obtain ⟨W1, hW1⟩ : ∃ W1, W1 = w.drew.setCells g (0 + 0 * 1) news := ⟨_, rfl⟩
  have hO1 : W1.ownsRow 0 87 1 (.slice (some ⟨g, 0, none⟩) n c) n (setM xs 0 news) := by
    rw [hW1]
    exact own_setCells news _ xs w.drew h
  obtain ⟨cur1, hcur1, hsz1⟩ : ∃ cur, W1.heap[g]? = some (.cells cur 87 (0, 0)) ∧ cur.size = c := by
    rcases hO1.2 with ⟨h0, _⟩ | ⟨g', cap, cur, hv, hb, hg, hnc, hm, hsz, ht⟩
    · cases h0
    · injection hv with hv _ hc
      injection hv with hv
      injection hv with hv
      subst hv hc
      exact ⟨cur, hg, by omega⟩
  have hcl : ∀ ty, (Builtin.clear_ #[70] ty #[.slice (some ⟨g, n - k, none⟩) k (c - (n - k))]).run Try.prog W1 = .ok (.tuple #[]) (W1.setCells g (n - k) (List.replicate k (.pointer none))) :=
    fun ty => Lib.run_clear_slice W1 _ _ ty _ Try.underlying70 del_zero rfl rfl g (n - k) _ _ hk0 (fun t ht => (some_ W1 cur1 _ hcur1 hsz1 (by omega)).1) (fun t ht => (some_ W1 cur1 _ hcur1 hsz1 (by omega)).2)
  have hkk : n - (n - k) = k := by omega
  have hP : Part (fun i => i = g) w (W1.setCells g (n - k) (List.replicate k (.pointer none))) := by
    rw [hW1]
    exact ((show Part (fun i => i = g) w w.drew from Part.of_below _ (Below.refl _ w).drew).trans (part_setCells g news _ w.drew) fun i hi => .inl hi).trans (part_setCells g _ _ _) fun i hi => .inl hi
  have hF := own_take (m := n - k) (own_setCells (List.replicate k (.pointer none)) (n - k) _ W1 hO1) (by omega)
  rw [hnews, del_list xs k n hxl hk] at hF
  have HFI := keep (And.intro hF hP)
  have hW : Hid (W1 = w.drew.setCells g (0 + 0 * 1) news) := hW1
  have hnk : ((n - k : Nat) : Int) = (n : Int) - k := by omega
  clear hW1 hF hP hO1 hcur1 hsz1 hcur hsz at_ some_ hnews hlen h h1 hxl
  go_enter Try.func77, Try.ntmps77
  go_wp2_with fail
  go_region_law_o (refine step_append_room rfl (.tmp 22) (.tmp 25) 70 rfl 87 i0 1 Try.underlying70 hi0 hz1 g 0 0 c (by simp [Act.eval, Act.put]) A (n - k) (c - k) news (by simp [Act.eval, Act.put, hA]) s1.out hsrc.out s2.out (by omega) s3.out ?_; rw [← hW.out])
  go_wp2
  go_ret
  exact ⟨rfl, HFI.out.1, HFI.out.2⟩
end Go.Proofs.Ytbkepkiaabeliaa
