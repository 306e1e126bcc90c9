/- Package audio: packets in rows; a row of packets that one is taken from. -/
import Derived.Test.YtacmfoljbjdcjaaCkM
import Derived.Test.YtacmfoljbjdcjaaPart
import Derived.Test.YtacmfoljbjdcjaaAppK
import Derived.Test.YtacmfoljbjdcjaaProg
import Derived.Lib.SliceRun
namespace Go.Proofs.Ytacmfoljbjdcjaa
open Go.RowKit
set_option linter.unusedVariables false

/-- A packet as it lies. -/
structure Pv where
  mr : Bool
  kd : Int
  sq : Int
  st : Int
  so : Int
  da : Option Addr × Nat × Nat
  bs : List UInt8
def Pv.cells (x : Pv) : List Value := [.bool x.mr, .int .u8 x.kd, .int .u16 x.sq, .int .u32 x.st, .int .u32 x.so, .slice x.da.1 x.da.2.1 x.da.2.2]
theorem Pv.len (x : Pv) : x.cells.length = 6 := rfl
theorem Pv.one (x : Pv) : ∀ u ∈ x.cells, u.oneCell' = true := by
  intro u hu
  simp only [Pv.cells, List.mem_cons, List.not_mem_nil, or_false] at hu
  rcases hu with rfl | rfl | rfl | rfl | rfl | rfl <;> rfl
def pvZ : Pv := ⟨false, 0, 0, 0, 0, (none, 0, 0), []⟩
/-- Block g has room for c packets; the first ones are l. -/
def IR (g c : Nat) (l : List Pv) (W : World) : Prop := ∃ cur : Array Value, W.heap[g]? = some (.cells cur 26 (0, 0)) ∧ cur.size = c * 6 ∧ l.length ≤ c ∧ ∀ (p : Nat) (v : Value), (flatF Pv.cells l)[p]? = some v → cur[p]? = some v
section
variable {W W' : World} {g c : Nat} {l : List Pv}
theorem IR.lt (h : IR g c l W) : g < W.heap.size := by
  obtain ⟨cur, hg, _⟩ := h
  exact (Array.getElem?_eq_some_iff.1 hg).1
theorem IR.fz (h : IR g c l W) (o : Nat) : W.frozen? ⟨g, o, none⟩ = false := by
  obtain ⟨cur, hg, _⟩ := h
  exact frozen_of_row _ _ _ _ _ hg
theorem IR.le (h : IR g c l W) : l.length ≤ c := by
  obtain ⟨cur, _, _, hl, _⟩ := h
  exact hl
theorem IR.of (hb : W'.heap[g]? = W.heap[g]?) (h : IR g c l W) : IR g c l W' := by
  obtain ⟨cur, hg, h2⟩ := h
  exact ⟨cur, hb.trans hg, h2⟩
theorem IR.kept (h : IR g c l W) {S : Nat → Prop} (hp : Part S W W') (hg : ¬ S g) : IR g c l W' := h.of (hp.block g h.lt hg)
theorem IR.cell (h : IR g c l W) {j : Nat} {x : Pv} (hj : l[j]? = some x) {i : Nat} {v : Value} (hi : i < 6) (hv : x.cells[i]? = some v) : W.cell? ⟨g, j * 6 + i, none⟩ = some v := by
  obtain ⟨cur, hg, _, _, hc⟩ := h
  rw [cell_of_row _ _ _ _ _ _ hg]
  exact hc _ _ ((flatF_get (f := Pv.cells) Pv.len l j x hj i hi).trans hv)
theorem IR.at_ (h : IR g c l W) {j : Nat} {x : Pv} (hj : l[j]? = some x) :
    W.cell? ⟨g, j * 6, none⟩ = some (.bool x.mr) ∧ W.cell? ⟨g, j * 6 + 1, none⟩ = some (.int .u8 x.kd) ∧ W.cell? ⟨g, j * 6 + 2, none⟩ = some (.int .u16 x.sq) ∧ W.cell? ⟨g, j * 6 + 3, none⟩ = some (.int .u32 x.st) ∧ W.cell? ⟨g, j * 6 + 4, none⟩ = some (.int .u32 x.so) ∧ W.cell? ⟨g, j * 6 + 5, none⟩ = some (.slice x.da.1 x.da.2.1 x.da.2.2) :=
  ⟨h.cell hj (i := 0) (by decide) rfl, h.cell hj (i := 1) (by decide) rfl, h.cell hj (i := 2) (by decide) rfl, h.cell hj (i := 3) (by decide) rfl, h.cell hj (i := 4) (by decide) rfl, h.cell hj (i := 5) (by decide) rfl⟩
theorem IR.some_ (h : IR g c l W) {o : Nat} (ho : o < c * 6) : (W.cell? ⟨g, o, none⟩).isSome = true := by
  obtain ⟨cur, hg, hs, _⟩ := h
  rw [cell_of_row _ _ _ _ _ _ hg, Array.getElem?_eq_getElem (by omega)]
  rfl
/-- Cells behind the first ones are written. -/
theorem IR.past1 (h : IR g c l W) (v : Value) {o : Nat} (ho : l.length * 6 ≤ o) : IR g c l (W.setCell ⟨g, o, none⟩ v) := by
  obtain ⟨cur, hg, hs, hl, hc⟩ := h
  exact ⟨cur.setIfInBounds o v, heap_setCell_same W g o _ _ v hg, by rw [Array.size_setIfInBounds]; exact hs, hl, fun p u hp => by
    have hpl : p < (flatF Pv.cells l).length := by
      rcases Nat.lt_or_ge p (flatF Pv.cells l).length with h0 | h0
      · exact h0
      · rw [List.getElem?_eq_none h0] at hp; cases hp
    rw [flatF_len Pv.len] at hpl
    rw [Array.getElem?_setIfInBounds_ne (by omega)]
    exact hc p u hp⟩
theorem IR.past {g c : Nat} {l : List Pv} : ∀ (vs : List Value) (o : Nat) (W : World), l.length * 6 ≤ o → IR g c l W → IR g c l (W.setCells g o vs)
  | [], _, _, _, h => h
  | v :: r, o, W, ho, h => IR.past r (o + 1) _ (by omega) (h.past1 v ho)
/-- A row of the call's own, and back. -/
theorem IR.of_own {base n c : Nat} {g : Nat} {l : List Pv} (h : W.ownsRow base 26 6 (.slice (some ⟨g, 0, none⟩) n c) n (flatF Pv.cells l)) : IR g c l W ∧ n = l.length ∧ n ≤ c ∧ c ≤ maxLen ∧ base ≤ g := by
  have h1 := h.1
  rw [flatF_len Pv.len] at h1
  rcases h.2 with ⟨h0, _⟩ | ⟨g', cap, cur, hv, hb, hg, hnc, hmx, hsz, ht⟩
  · cases h0
  · injection hv with hv _ hc
    injection hv with hv
    injection hv with hv
    subst hv hc
    refine ⟨⟨cur, hg, hsz, by omega, fun p v hp => ?_⟩, by omega, hnc, hmx, hb⟩
    rw [← ht, List.getElem?_take] at hp
    split at hp
    · simpa using hp
    · cases hp
theorem IR.own {base n c : Nat} {g : Nat} {l : List Pv} (h : IR g c l W) (hn : n = l.length) (hb : base ≤ g) (hc : c ≤ maxLen) : W.ownsRow base 26 6 (.slice (some ⟨g, 0, none⟩) n c) n (flatF Pv.cells l) := by
  obtain ⟨cur, hg, hs, hl, hcc⟩ := h
  subst hn
  refine ⟨flatF_len Pv.len l, .inr ⟨g, c, cur, rfl, hb, hg, hl, hc, hs, ?_⟩⟩
  apply List.ext_getElem?
  intro p
  rw [List.getElem?_take]
  by_cases hp : p < l.length * 6
  · rw [if_pos hp]
    have hp' : p < (flatF Pv.cells l).length := by rw [flatF_len Pv.len]; exact hp
    rw [List.getElem?_eq_getElem hp']
    have := hcc p _ (List.getElem?_eq_getElem hp')
    simpa using this
  · rw [if_neg hp, List.getElem?_eq_none (by rw [flatF_len Pv.len]; omega)]
end
/-! ### clear -/
theorem setCells_size (g : Nat) : ∀ (vs : List Value) (o : Nat) (W : World), (W.setCells g o vs).heap.size = W.heap.size
  | [], _, _ => rfl
  | v :: r, o, W => by
    show ((W.setCell ⟨g, o, none⟩ v).setCells g (o + 1) r).heap.size = _
    rw [setCells_size g r]
    simp [World.setCell]
theorem part_setCells (g : Nat) : ∀ (vs : List Value) (o : Nat) (W : World), Part (fun i => i = g) W (W.setCells g o vs)
  | [], _, W => Part.refl _ W
  | v :: r, o, W => (Part.of_grown (S := fun i => i = g) (grown_set W ⟨g, o, none⟩ v) (fun k hk => by injection hk with hk; exact hk.symm)).trans (part_setCells g r (o + 1) _) fun i hi => .inl hi
/-- clear(x[k:n]) of things of several cells: some cells of that piece are written. -/
theorem run_clear_wide {P : Program} (w : World) (t e : TypeId) (z : Value) (K : Nat) (ht : P.underlying t = some (.slice e)) (hv : ∀ w, (zeroValue e).run P w = .ok z w) (hz : z.cells.size = K) (h1 : ∀ u ∈ z.cells, u.oneCell' = true) (hK : 0 < K) (b o n c : Nat) (hn : 0 < n)
    (hc : ∀ j, j < n * K → (w.cell? ⟨b, o + j, none⟩).isSome = true) (hf : ∀ j, j < n * K → w.frozen? ⟨b, o + j, none⟩ = false) :
    ∃ vs : List Value, vs.length = n * K ∧ ∀ ty, (Builtin.clear_ #[t] ty #[.slice (some ⟨b, o, none⟩) n c]).run P w = .ok (.tuple #[]) (w.setCells b o vs) := by
  refine ⟨(Builtin.zeroCells z.cells n).toList, by simp [Builtin.zeroCells, hz], fun ty => ?_⟩
  have hlen : (Builtin.zeroCells z.cells n).toList.length = n * K := by simp [Builtin.zeroCells, hz]
  have hst := run_storeCells_cells (P := P) b o (Builtin.zeroCells z.cells n).toList 0 w (by rw [hlen]; simpa using hc) (by rw [hlen]; simpa using hf) (by
    intro v hv'
    simp only [Builtin.zeroCells, Array.toList_map, Array.toList_range, List.mem_map, List.mem_range] at hv'
    obtain ⟨i, hi, rfl⟩ := hv'
    have hlt : i % z.cells.size < z.cells.size := Nat.mod_lt _ (by omega)
    have := h1 (z.cells[i % z.cells.size]) (Array.getElem_mem hlt)
    rw [show z.cells[i % z.cells.size]! = z.cells[i % z.cells.size] from getElem!_pos z.cells (i % z.cells.size) hlt]
    exact this)
  simp only [Nat.add_zero] at hst
  obtain ⟨m, rfl⟩ : ∃ m, n = m + 1 := ⟨n - 1, by omega⟩
  simp [Builtin.clear_, run_underlying ht, hv, hst]
/-- What a row holds behind such a writing. -/
theorem setCells_row (g : Nat) (t : TypeId) : ∀ (vs : List Value) (o : Nat) (W : World) (cur : Array Value), W.heap[g]? = some (.cells cur t (0, 0)) → o + vs.length ≤ cur.size →
    ∃ cur', (W.setCells g o vs).heap[g]? = some (.cells cur' t (0, 0)) ∧ cur'.size = cur.size ∧ ∀ p, cur'[p]? = if o ≤ p ∧ p < o + vs.length then vs[p - o]? else cur[p]?
  | [], o, W, cur, h, _ => ⟨cur, h, rfl, fun p => by rw [if_neg (by simp only [List.length_nil]; omega)]⟩
  | v :: r, o, W, cur, h, hs => by
    simp only [List.length_cons] at hs
    obtain ⟨cur', h1, h2, h3⟩ := setCells_row g t r (o + 1) (W.setCell ⟨g, o, none⟩ v) (cur.setIfInBounds o v) (heap_setCell_same W g o _ _ v h) (by rw [Array.size_setIfInBounds]; omega)
    refine ⟨cur', h1, by rw [h2, Array.size_setIfInBounds], fun p => ?_⟩
    rw [h3]
    simp only [List.length_cons]
    by_cases e : p = o
    · subst e
      rw [if_neg (by omega), if_pos (by omega), Array.getElem?_setIfInBounds_self_of_lt (by omega), Nat.sub_self]
      rfl
    · rw [Array.getElem?_setIfInBounds_ne (by omega)]
      by_cases h4 : o + 1 ≤ p ∧ p < o + 1 + r.length
      · rw [if_pos h4, if_pos (by omega), show p - o = (p - (o + 1)) + 1 by omega]
        rfl
      · rw [if_neg h4, if_neg (by omega)]
/-- One goes away: what stands behind it moves up. -/
theorem IR.erase {g c : Nat} {l : List Pv} {W : World} (h : IR g c l W) {i : Nat} (hi : i < l.length) : IR g c (l.eraseIdx i) (W.setCells g (i * 6) (flatF Pv.cells (l.drop (i + 1)))) := by
  obtain ⟨cur, hg, hs, hl, hc⟩ := h
  have hfl : (flatF Pv.cells (l.drop (i + 1))).length = (l.length - (i + 1)) * 6 := by rw [flatF_len Pv.len, List.length_drop]
  obtain ⟨cur', h1, h2, h3⟩ := setCells_row g _ (flatF Pv.cells (l.drop (i + 1))) (i * 6) W cur hg (by rw [hfl]; omega)
  have hel : (l.eraseIdx i).length = l.length - 1 := by rw [List.length_eraseIdx, if_pos hi]
  refine ⟨cur', h1, by omega, by omega, fun p v hp => ?_⟩
  have hpl : p < (flatF Pv.cells (l.eraseIdx i)).length := by
    rcases Nat.lt_or_ge p (flatF Pv.cells (l.eraseIdx i)).length with h0 | h0
    · exact h0
    · rw [List.getElem?_eq_none h0] at hp; cases hp
  rw [flatF_len Pv.len, hel] at hpl
  rw [h3, hfl]
  rw [List.eraseIdx_eq_take_drop_succ, flatF_append, List.getElem?_append] at hp
  have htl : (flatF Pv.cells (l.take i)).length = i * 6 := by rw [flatF_len Pv.len, List.length_take, Nat.min_eq_left (by omega)]
  rw [htl] at hp
  by_cases hpi : p < i * 6
  · rw [if_pos hpi] at hp
    rw [if_neg (by omega)]
    refine hc p v ?_
    rw [← flatF_take Pv.len, List.getElem?_take, if_pos hpi] at hp
    exact hp
  · rw [if_neg hpi] at hp
    rw [if_pos (by omega)]
    exact hp
end Go.Proofs.Ytacmfoljbjdcjaa
