/- What a set's calls make: starting, stopping, asking. -/
import Derived.WalkSpells
import Derived.KernelRfl
import Derived.Test.YthnhmgdefmahkaaTB
namespace Go.Proofs.Ythnhmgdefmahkaa
open Go.RowKit Go.Maps
set_option linter.unusedVariables false

theorem zero_int (w : World) : (zeroValue 3).run Try.prog w = .ok (.int .i64 0) w := by kernel_rfl

theorem all_nil (w : World) : Calls Try.prog 20 #[.pointer none] w fun e w' => e = .returned (.map none) ∧ w = w' := by
  go_enter Try.func20, Try.ntmps20
  go_wp2
  go_ret
  exact ⟨rfl, rfl⟩
theorem all_set {b : Nat} {m : Option Nat} {l : List (Int × Int)} {w : World} (h : SetAt w b m l) : Calls Try.prog 20 #[.pointer (some ⟨b, 0, none⟩)] w fun e w' => e = .returned (.map m) ∧ w = w' := by
  have hc := h.cell
  clear h
  go_enter Try.func20, Try.ntmps20
  go_wp2
  go_ret
  exact ⟨rfl, rfl⟩

/-- A pointer to no set, or to one whose map is nil. -/
def Bare (w : World) (p : Option Addr) : Prop := p = none ∨ ∃ b, p = some ⟨b, 0, none⟩ ∧ SetAt w b none []
theorem Bare.step {w w' : World} {p : Option Addr} (h : Bare w p) (hb : Below w.heap.size w w') : Bare w' p := by
  rcases h with h | ⟨b, h, hs⟩
  · exact .inl h
  · exact .inr ⟨b, h, hs.step hb⟩
theorem all_bare {p : Option Addr} {w : World} (h : Bare w p) : Calls Try.prog 20 #[.pointer p] w fun e w' => e = .returned (.map none) ∧ w = w' := by
  rcases h with rfl | ⟨b, rfl, hs⟩
  · exact all_nil w
  · exact all_set hs

theorem Start_nil (id t : Int) (w : World) : Calls Try.prog 9 #[.pointer none, .int .i64 id, .int .i64 t] w fun e w' => e = .returned (.tuple #[]) ∧ w = w' := by
  go_enter Try.func9, Try.ntmps9
  go_wp2
  exact bodyPost_ret (results_none rfl _ _ _) rfl ⟨rfl, rfl⟩

/-- Behind a start: the list's, in the map that there was, or in a new one. -/
def Started (w : World) (b : Nat) (m : Option Nat) (l' : List (Int × Int)) (w' : World) : Prop :=
  ∃ m', SetAt w' b m' l' ∧ (m' = m ∨ ∃ k, m' = some k ∧ w.heap.size ≤ k) ∧ Part (Ow b m) w w'

set_option maxHeartbeats 1000000 in
theorem Start_set (b : Nat) (m : Option Nat) (l : List (Int × Int)) (id t : Int) (w : World) (h : SetAt w b m l) (hid : (K id).wf = true) (ht : (K t).wf = true) (hl : l.length < 1000000) :
    Calls Try.prog 9 #[.pointer (some ⟨b, 0, none⟩), .int .i64 id, .int .i64 t] w fun e w' => e = .returned (.tuple #[]) ∧ Started w b m (startL l id t) w' := by
  have qT : ∀ (w : World) (r : Option Nat), (binOp .eql 25 (.map r) (.map none)).run Try.prog w = .ok (.bool r.isNone) w := fun w r => run_eql_map_nil w _ _ _ r Try.underlying25
  have hmm := @run_makeMap Try.prog
  have hkey := K_key id hid
  have hc := h.cell
  have hf := h.frozen
  have hlt := h.lt
  have H := keep h
  have HM := keep hkey
  have HV := keep (plainElem_int (H := Nat) (P := Try.prog) (e := 3) Try.underlying3 ht)
  have hfit : Fits (startL l id t) := fun p hp => by
    rcases mem_startL.1 hp with rfl | ⟨h1, _⟩
    · exact ⟨hid, ht⟩
    · exact h.fits p h1
  have HF := keep hfit
  clear hid ht hkey hfit
  rcases m with _ | k
  · obtain rfl : l = [] := h.2
    have hown : ((w.setCell ⟨b, 0, none⟩ (.map (some w.heap.size))).alloc (.map #[] 0)).ownsMap (H := Nat) Try.prog 3 (plainElem Try.prog 3) w.heap.size 0 (.map []) := by
      have := World.ownsMap_made (H := Nat) (w.setCell ⟨b, 0, none⟩ (.map (some w.heap.size))) Try.prog 3 (plainElem Try.prog 3)
      simpa using this
    have HO := keep hown
    have hp : Part (Ow b none) w ((w.setCell ⟨b, 0, none⟩ (.map (some w.heap.size))).alloc (.map #[] 0)) := ((Part.refl (Ow b none) w).setCell (p := ⟨b, 0, none⟩) (.inl (.inl rfl)) _).alloc _
    have HP := keep hp
    have hb1 : ((w.setCell ⟨b, 0, none⟩ (.map (some w.heap.size))).alloc (.map #[] 0)).heap[b]? = some (.cells #[.map (some w.heap.size)] 27 (0, 0)) := by
      rw [Below.heap_alloc _ _ _ (by simpa using hlt)]
      have h0 := h.1
      unfold World.setCell
      simp [Array.getElem?_modify, h0]
    have HB := keep hb1
    clear h hown hp hb1
    go_enter Try.func9, Try.ntmps9
    go_wp2_with (at_mapUpdate; refine wpList_mapUpdate_in _ rfl _ _ _ 25 rfl 3 3 keyed Try.underlying25 _ w.heap.size 0 (.map []) rfl HO.out (by unfold maxLen; omega) _ _ (K id) rfl rfl HM.out _ [] HV.out ?_; intro w1 hown1 hturn1)
    go_end0
    refine ⟨rfl, some w.heap.size, ⟨?_, ?_⟩, .inr ⟨_, rfl, Nat.le_refl _⟩, HP.out.trans (Part.of_grown (S := fun i => i = w.heap.size) hturn1.grown fun i hi => by simpa using hi.symm) fun i hi => .inr (Nat.le_of_eq hi.symm)⟩
    · rw [hturn1.grown.block b (by simp; omega) (by simp; omega)]
      exact HB.out
    · exact MapAt.of hown1 (Shows.nil.put Ord.nil id t) (Ord.nil.start id t) HF.out
  · obtain ⟨ho, _, D, hD, hS⟩ := h.2
    clear h
    go_enter Try.func9, Try.ntmps9
    go_wp2_with (at_mapUpdate; refine wpList_mapUpdate_in _ rfl _ _ _ 25 rfl 3 3 keyed Try.underlying25 _ k l.length D rfl hD (by unfold maxLen; omega) _ _ (K id) rfl rfl HM.out _ [] HV.out ?_; intro w1 hown1 hturn1)
    go_end0
    refine ⟨rfl, some k, ⟨?_, ?_⟩, .inl rfl, Part.of_grown hturn1.grown fun i hi => .inr hi⟩
    · rw [hturn1.grown.block b hlt (by have := H.out.ne; simp; omega)]
      exact H.out.1
    · exact MapAt.of hown1 (hS.put ho id t) (ho.start id t) HF.out

theorem Stop_bare {p : Option Addr} {w : World} (h : Bare w p) (id : Int) (hid : (K id).wf = true) :
    Calls Try.prog 11 #[.pointer p, .int .i64 id] w fun e w' => e = .returned (.tuple #[]) ∧ w = w' := by
  have hdr := fun ty w => Maps.drop_nil (P := Try.prog) (w := w) (t := 25) (e := 3) keyed Try.underlying25 (K_key id hid) ty
  have HA := keep (all_bare h)
  clear h hid
  go_enter Try.func11, Try.ntmps11
  go_wp2_with (go_at_call 20; refine HA.out.mono ?_; rintro e w' ⟨rfl, rfl⟩)
  go_end0
  exact ⟨rfl, rfl⟩

set_option maxHeartbeats 1000000 in
theorem Stop_set (b : Nat) (m : Option Nat) (l : List (Int × Int)) (id : Int) (w : World) (h : SetAt w b m l) (hid : (K id).wf = true) :
    Calls Try.prog 11 #[.pointer (some ⟨b, 0, none⟩), .int .i64 id] w fun e w' => e = .returned (.tuple #[]) ∧ SetAt w' b m (stopL l id) ∧ Part (Ow b m) w w' := by
  rcases m with _ | k
  · obtain rfl : l = [] := h.2
    refine (Stop_bare (.inr ⟨b, rfl, h⟩) id hid).mono ?_
    rintro e w' ⟨rfl, rfl⟩
    exact ⟨rfl, h, Part.refl _ _⟩
  · obtain ⟨ho, hfit, D, hD, hS⟩ := h.2
    have hlt := h.lt
    have HM := keep (K_key id hid)
    have HA := keep (all_set h)
    have HH := keep h
    clear h hid
    go_enter Try.func11, Try.ntmps11
    go_wp2_with (first
      | (go_at_call 20; refine HA.out.mono ?_; rintro e w' ⟨rfl, rfl⟩)
      | (at_delete; refine wpList_delete_own _ rfl _ _ 25 3 rfl 3 keyed Try.underlying25 _ k l.length D rfl hD _ (K id) rfl HM.out ?_; intro w1 hown1 hturn1))
    go_end0
    refine ⟨rfl, ⟨?_, ?_⟩, Part.of_grown hturn1.grown fun i hi => .inr hi⟩
    · rw [hturn1.grown.block b hlt (by have := HH.out.ne; simp; omega)]
      exact HH.out.1
    · exact MapAt.of hown1 (hS.del ho id) (ho.stop id) (hfit.sub fun p hp => (mem_stopL.1 hp).1)

theorem Len_bare {p : Option Addr} {w : World} (h : Bare w p) :
    Calls Try.prog 19 #[.pointer p] w fun e w' => e = .returned (.int .i64 0) ∧ w = w' := by
  have hdr := fun ty w => Maps.len_nil (P := Try.prog) (w := w) (t := 25) (k := 3) (e := 3) Try.underlying25 ty
  have HA := keep (all_bare h)
  clear h
  go_enter Try.func19, Try.ntmps19
  go_wp2_with (go_at_call 20; refine HA.out.mono ?_; rintro e w' ⟨rfl, rfl⟩)
  go_ret
  exact ⟨rfl, rfl⟩
theorem Len_set (b : Nat) (m : Option Nat) (l : List (Int × Int)) (w : World) (h : SetAt w b m l) :
    Calls Try.prog 19 #[.pointer (some ⟨b, 0, none⟩)] w fun e w' => e = .returned (.int .i64 (l.length : Int)) ∧ w = w' := by
  rcases m with _ | k
  · obtain rfl : l = [] := h.2
    exact Len_bare (.inr ⟨b, rfl, h⟩)
  · obtain ⟨ho, hfit, D, hD, hS⟩ := h.2
    have HA := keep (all_set h)
    have HS := keep hS.size
    clear h hS
    go_enter Try.func19, Try.ntmps19
    go_wp2_with (first
      | (go_at_call 20; refine HA.out.mono ?_; rintro e w' ⟨rfl, rfl⟩)
      | (at_len; refine wpList_len_own _ rfl _ 25 rfl 3 3 Try.underlying25 _ k l.length D rfl hD ?_; rw [HS.out]))
    go_ret
    exact ⟨rfl, rfl⟩

theorem At_bare {p : Option Addr} {w : World} (h : Bare w p) (id : Int) (hid : (K id).wf = true) :
    Calls Try.prog 16 #[.pointer p, .int .i64 id] w fun e w' => e = .returned (.tuple #[.int .i64 0, .bool false]) ∧ w = w' := by
  have hdr := fun w => Maps.look_nil (P := Try.prog) (w := w) (t := 25) (e := 3) true keyed Try.underlying25 (zero_int w) (K_key id hid)
  simp only [if_true] at hdr
  have HA := keep (all_bare h)
  clear h hid
  go_enter Try.func16, Try.ntmps16
  go_wp2_with (go_at_call 20; refine HA.out.mono ?_; rintro e w' ⟨rfl, rfl⟩)
  go_ret2
  exact ⟨rfl, rfl⟩
theorem At_set (b : Nat) (m : Option Nat) (l : List (Int × Int)) (id : Int) (w : World) (h : SetAt w b m l) (hid : (K id).wf = true) :
    Calls Try.prog 16 #[.pointer (some ⟨b, 0, none⟩), .int .i64 id] w fun e w' => e = .returned (.tuple #[.int .i64 (atL l id), .bool (hasL l id)]) ∧ w = w' := by
  rcases m with _ | k
  · obtain rfl : l = [] := h.2
    exact At_bare (.inr ⟨b, rfl, h⟩) id hid
  · obtain ⟨ho, hfit, D, hD, hS⟩ := h.2
    have HA := keep (all_set h)
    have HM := keep (K_key id hid)
    have hat : D.atKey (K id) (.lit (K 0)) = .lit (K (atL l id)) := by
      cases hh : hasL l id
      · rw [atL_not hh, atKey_of_not_has (by rw [hS.hasL]; exact hh)]
      · obtain ⟨t, ht⟩ := hasL_mem.1 hh
        rw [atL_mem ho ht, hS.there id t ht]
    have hhas := hS.hasL id
    obtain ⟨x, hx⟩ : ∃ x, atL l id = x := ⟨_, rfl⟩
    obtain ⟨y, hy⟩ : ∃ y, hasL l id = y := ⟨_, rfl⟩
    rw [hx] at hat ⊢
    rw [hy] at hhas ⊢
    have HT := keep hat
    have HS := keep hhas
    clear h hid hS hx hy hat hhas
    go_enter Try.func16, Try.ntmps16
    go_wp2_with (first
      | (go_at_call 20; refine HA.out.mono ?_; rintro e w' ⟨rfl, rfl⟩)
      | (at_lookup; refine wpList_lookup_own_ok_int _ rfl _ _ 25 rfl 3 3 .i64 keyed Try.underlying25 Try.underlying3 (zero_int _) k l.length D rfl hD _ (K id) rfl HM.out ?_; intro c hc hwc; obtain rfl : x = c := by { have := HT.out.symm.trans hc; injection this with h1; exact K_inj h1 }; clear hc hwc; rw [HS.out]))
    go_ret2
    exact ⟨rfl, rfl⟩
end Go.Proofs.Ythnhmgdefmahkaa
