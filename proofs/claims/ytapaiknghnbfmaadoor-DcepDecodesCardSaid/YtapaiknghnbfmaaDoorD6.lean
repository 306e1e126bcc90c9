/- Package dcep: a table in memory; New, find, own, State. -/
import Derived.Test.YtapaiknghnbfmaaDoorD5
import Derived.Test.YtapaiknghnbfmaaDoorCkM
import Derived.Test.YtapaiknghnbfmaaDoorPart
namespace Go.Proofs.YtapaiknghnbfmaaDoor
open Go.RowKit
set_option linter.unusedVariables false

/-- A channel. -/
structure Ch where
  st : Int
  o : OV
  go : Bool
  fr : Bool
def Ch.cells (c : Ch) : List Value := [.int .i64 c.st, .int .u8 c.o.k, .int .u16 c.o.p, .int .u32 c.o.l, .string c.o.la, .string c.o.pr, .bool c.go, .bool c.fr]
theorem Ch.len (c : Ch) : c.cells.length = 8 := rfl
def chZ : Ch := ⟨0, oZ, false, false⟩
/-- Block g holds the channels l, one behind the other. -/
def CR (g : Nat) (l : List Ch) (W : World) : Prop := ∃ cur : Array Value, W.heap[g]? = some (.cells cur 109 (0, 0)) ∧ l.length * 8 ≤ cur.size ∧ ∀ (p : Nat) (v : Value), (flatF Ch.cells l)[p]? = some v → cur[p]? = some v
section
variable {W W' : World} {g : Nat} {l : List Ch}
theorem CR.lt (h : CR g l W) : g < W.heap.size := by
  obtain ⟨cur, hg, _⟩ := h
  exact (Array.getElem?_eq_some_iff.1 hg).1
theorem CR.fz (h : CR g l W) (o : Nat) : W.frozen? ⟨g, o, none⟩ = false := by
  obtain ⟨cur, hg, _⟩ := h
  exact frozen_of_row _ _ _ _ _ hg
theorem CR.of (hb : W'.heap[g]? = W.heap[g]?) (h : CR g l W) : CR g l W' := by
  obtain ⟨cur, hg, h2⟩ := h
  exact ⟨cur, hb.trans hg, h2⟩
theorem CR.cell (h : CR g l W) {j : Nat} {c : Ch} (hj : l[j]? = some c) {i : Nat} {v : Value} (hi : i < 8) (hv : c.cells[i]? = some v) : W.cell? ⟨g, j * 8 + i, none⟩ = some v := by
  obtain ⟨cur, hg, _, hc⟩ := h
  rw [cell_of_row _ _ _ _ _ _ hg]
  exact hc _ _ ((flatF_get (f := Ch.cells) Ch.len l j c hj i hi).trans hv)
theorem CR.put1 (h : CR g l W) {j : Nat} {c : Ch} (hj : l[j]? = some c) {i : Nat} (hi : i < 8) (v : Value) (c' : Ch) (hc' : c'.cells = c.cells.set i v) : CR g (l.set j c') (W.setCell ⟨g, j * 8 + i, none⟩ v) := by
  obtain ⟨cur, hg, hs, hc⟩ := h
  have hjl : j < l.length := (List.getElem?_eq_some_iff.1 hj).1
  refine ⟨cur.setIfInBounds (j * 8 + i) v, heap_setCell_same W g (j * 8 + i) _ _ v hg, by rw [List.length_set, Array.size_setIfInBounds]; exact hs, fun p u hp => ?_⟩
  have hpl : p < (flatF Ch.cells (l.set j c')).length := by
    rcases Nat.lt_or_ge p (flatF Ch.cells (l.set j c')).length with h0 | h0
    · exact h0
    · rw [List.getElem?_eq_none h0] at hp; cases hp
  rw [flatF_len Ch.len, List.length_set] at hpl
  have hq : p / 8 < l.length := by omega
  have hr : p % 8 < 8 := Nat.mod_lt _ (by decide)
  have hpe : p / 8 * 8 + p % 8 = p := by omega
  by_cases hpj : p / 8 = j
  · have h1 := flatF_get (f := Ch.cells) Ch.len (l.set j c') (p / 8) c' (by rw [hpj, List.getElem?_set_self hjl]) (p % 8) hr
    rw [hpe, hp, hc', List.getElem?_set] at h1
    by_cases hpi : i = p % 8
    · rw [if_pos hpi, if_pos (by rw [Ch.len]; exact hi)] at h1
      have : j * 8 + i = p := by omega
      rw [this, Array.getElem?_setIfInBounds_self_of_lt (by omega)]
      exact h1.symm
    · rw [if_neg hpi] at h1
      rw [Array.getElem?_setIfInBounds_ne (by omega)]
      refine hc p u ?_
      have h2 := flatF_get (f := Ch.cells) Ch.len l (p / 8) c (by rw [hpj]; exact hj) (p % 8) hr
      rw [hpe] at h2
      exact h2.trans h1.symm
  · have h1 := flatF_get (f := Ch.cells) Ch.len (l.set j c') (p / 8) l[p / 8] (by rw [List.getElem?_set_ne (fun e => hpj e.symm), List.getElem?_eq_getElem hq]) (p % 8) hr
    have h2 := flatF_get (f := Ch.cells) Ch.len l (p / 8) l[p / 8] (List.getElem?_eq_getElem hq) (p % 8) hr
    rw [hpe] at h1 h2
    rw [Array.getElem?_setIfInBounds_ne (by omega)]
    exact hc p u (h2.trans (h1.symm.trans hp))
/-- The cells of a channel. -/
theorem CR.at_ (h : CR g l W) {j : Nat} {c : Ch} (hj : l[j]? = some c) :
    W.cell? ⟨g, j * 8, none⟩ = some (.int .i64 c.st) ∧ W.cell? ⟨g, j * 8 + 1, none⟩ = some (.int .u8 c.o.k) ∧ W.cell? ⟨g, j * 8 + 2, none⟩ = some (.int .u16 c.o.p) ∧ W.cell? ⟨g, j * 8 + 3, none⟩ = some (.int .u32 c.o.l) ∧ W.cell? ⟨g, j * 8 + 4, none⟩ = some (.string c.o.la) ∧ W.cell? ⟨g, j * 8 + 5, none⟩ = some (.string c.o.pr) ∧ W.cell? ⟨g, j * 8 + 6, none⟩ = some (.bool c.go) ∧ W.cell? ⟨g, j * 8 + 7, none⟩ = some (.bool c.fr) :=
  ⟨h.cell hj (i := 0) (by decide) rfl, h.cell hj (i := 1) (by decide) rfl, h.cell hj (i := 2) (by decide) rfl, h.cell hj (i := 3) (by decide) rfl, h.cell hj (i := 4) (by decide) rfl, h.cell hj (i := 5) (by decide) rfl, h.cell hj (i := 6) (by decide) rfl, h.cell hj (i := 7) (by decide) rfl⟩
theorem CR.again (h : CR g l W) {j : Nat} {c : Ch} (hj : j < l.length) : (l.set j c)[j]? = some c := List.getElem?_set_self hj
/-- A channel is laid over another one. -/
theorem CR.put8 (h : CR g l W) {j : Nat} (hj : j < l.length) (c : Ch) : CR g (l.set j c) ((((((((W.setCell ⟨g, j * 8, none⟩ (.int .i64 c.st)).setCell ⟨g, j * 8 + 1, none⟩ (.int .u8 c.o.k)).setCell ⟨g, j * 8 + 2, none⟩ (.int .u16 c.o.p)).setCell ⟨g, j * 8 + 3, none⟩ (.int .u32 c.o.l)).setCell ⟨g, j * 8 + 4, none⟩ (.string c.o.la)).setCell ⟨g, j * 8 + 5, none⟩ (.string c.o.pr)).setCell ⟨g, j * 8 + 6, none⟩ (.bool c.go)).setCell ⟨g, j * 8 + 7, none⟩ (.bool c.fr)) := by
  obtain ⟨d, hd⟩ : ∃ d, l[j]? = some d := ⟨l[j], List.getElem?_eq_getElem hj⟩
  have set2 : ∀ a b : Ch, (l.set j a).set j b = l.set j b := fun a b => List.set_set ..
  have get2 : ∀ a : Ch, (l.set j a)[j]? = some a := fun a => List.getElem?_set_self hj
  have h0 := h.put1 hd (i := 0) (by decide) (.int .i64 c.st) { d with st := c.st } rfl
  have h1 := h0.put1 (get2 _) (i := 1) (by decide) (.int .u8 c.o.k) ⟨c.st, { d.o with k := c.o.k }, d.go, d.fr⟩ rfl
  rw [set2] at h1
  have h2 := h1.put1 (get2 _) (i := 2) (by decide) (.int .u16 c.o.p) ⟨c.st, { d.o with k := c.o.k, p := c.o.p }, d.go, d.fr⟩ rfl
  rw [set2] at h2
  have h3 := h2.put1 (get2 _) (i := 3) (by decide) (.int .u32 c.o.l) ⟨c.st, { d.o with k := c.o.k, p := c.o.p, l := c.o.l }, d.go, d.fr⟩ rfl
  rw [set2] at h3
  have h4 := h3.put1 (get2 _) (i := 4) (by decide) (.string c.o.la) ⟨c.st, { d.o with k := c.o.k, p := c.o.p, l := c.o.l, la := c.o.la }, d.go, d.fr⟩ rfl
  rw [set2] at h4
  have h5 := h4.put1 (get2 _) (i := 5) (by decide) (.string c.o.pr) ⟨c.st, c.o, d.go, d.fr⟩ rfl
  rw [set2] at h5
  have h6 := h5.put1 (get2 _) (i := 6) (by decide) (.bool c.go) ⟨c.st, c.o, c.go, d.fr⟩ rfl
  rw [set2] at h6
  have h7 := h6.put1 (get2 _) (i := 7) (by decide) (.bool c.fr) c rfl
  rw [set2] at h7
  exact h7
end
/-- A table of this call's. -/
structure TB (w : World) (b g : Nat) (ev : Bool) (l : List Ch) (W : World) : Prop where
  hd : W.heap[b]? = some (.cells #[.bool ev, .slice (some ⟨g, 0, none⟩) l.length l.length] 97 (0, 0))
  row : CR g l W
  bg : b ≠ g
  lob : w.heap.size ≤ b
  log : w.heap.size ≤ g
  bl : Below w.heap.size w W
  le : l.length ≤ 64
section
variable {w W W' : World} {b g : Nat} {ev : Bool} {l : List Ch}
theorem TB.c0 (h : TB w b g ev l W) : W.cell? ⟨b, 0, none⟩ = some (.bool ev) ∧ W.cell? ⟨b, 1, none⟩ = some (.slice (some ⟨g, 0, none⟩) l.length l.length) := by
  refine ⟨?_, ?_⟩ <;> (rw [cell_of_row _ _ _ _ _ _ h.hd]; rfl)
theorem TB.ltb (h : TB w b g ev l W) : b < W.heap.size := (Array.getElem?_eq_some_iff.1 h.hd).1
theorem TB.step (h : TB w b g ev l W) (hb : Below W.heap.size W W') : TB w b g ev l W' :=
  ⟨(hb.block b h.ltb).trans h.hd, h.row.of (hb.block g h.row.lt), h.bg, h.lob, h.log, h.bl.trans (hb.mono h.bl.size), h.le⟩
theorem TB.turn (h : TB w b g ev l W) (hp : Part (fun i => i = g) W W') {l' : List Ch} (hr : CR g l' W') (hl : l'.length = l.length) : TB w b g ev l' W' :=
  ⟨by rw [hl]; exact (hp.block b h.ltb h.bg).trans h.hd, hr, h.bg, h.lob, h.log, h.bl.trans (hp.below h.bl.size fun i hi => by rw [hi]; exact h.log), by rw [hl]; exact h.le⟩
/-- Beside what another one writes. -/
theorem TB.beside (h : TB w b g ev l W) {S : Nat → Prop} (hp : Part S W W') (hb : ¬ S b) (hg : ¬ S g) (hS : ∀ i, S i → w.heap.size ≤ i) : TB w b g ev l W' :=
  ⟨(hp.block b h.ltb hb).trans h.hd, h.row.of (hp.block g h.row.lt hg), h.bg, h.lob, h.log, h.bl.trans (hp.below h.bl.size hS), h.le⟩
theorem find_nil (s : Int) : Calls Tryd.prog 51 #[.pointer none, .int .u16 s] W fun e w' => e = .returned (.pointer none) ∧ W = w' := by
  go_enter Tryd.func51, Tryd.ntmps51
  go_wp2
  go_ret
  exact ⟨rfl, rfl⟩
theorem find_no (h : TB w b g ev l W) (s : Nat) (hs : l.length ≤ s) (hs2 : s < 65536) : Calls Tryd.prog 51 #[.pointer (some ⟨b, 0, none⟩), .int .u16 (s : Int)] W fun e w' => e = .returned (.pointer none) ∧ W = w' := by
  obtain ⟨c0, c1⟩ := h.c0
  have hsI : (l.length : Int) ≤ (s : Int) := by omega
  go_enter Tryd.func51, Tryd.ntmps51
  go_wp2
  go_ret
  exact ⟨rfl, rfl⟩
theorem find_yes (h : TB w b g ev l W) (s : Nat) (hs : s < l.length) : Calls Tryd.prog 51 #[.pointer (some ⟨b, 0, none⟩), .int .u16 (s : Int)] W fun e w' => e = .returned (.pointer (some ⟨g, s * 8, none⟩)) ∧ W = w' := by
  obtain ⟨c0, c1⟩ := h.c0
  have hle := h.le
  have hsI : ¬ ((l.length : Int) ≤ (s : Int)) := by omega
  have hs0 : (0 : Int) ≤ (s : Int) := by omega
  have hsl : (s : Int) < (l.length : Int) := by omega
  have hc : Tryd.prog.cellsOf 109 = 8 := by kernel_rfl
  go_enter Tryd.func51, Tryd.ntmps51
  go_wp2
  go_ret
  exact ⟨rfl, rfl⟩
def ownB (ev : Bool) (s : Nat) : Bool := ev == (s % 2 == 0)
theorem own_any (h : TB w b g ev l W) (s : Nat) (hs2 : s < 65536) : Calls Tryd.prog 55 #[.pointer (some ⟨b, 0, none⟩), .int .u16 (s : Int)] W fun e w' => e = .returned (.bool (ownB ev s)) ∧ W = w' := by
  obtain ⟨c0, c1⟩ := h.c0
  have e1 : ((s : Int) % 2 == 0) = (s % 2 == 0) := by rw [Bool.eq_iff_iff]; simp only [beq_iff_eq]; omega
  have e2 : (Int.tmod (s : Int) 2 == 0) = (s % 2 == 0) := by rw [Int.tmod_eq_emod_of_nonneg (by omega)]; exact e1
  unfold ownB
  go_enter Tryd.func55, Tryd.ntmps55
  go_wp2
  go_ret
  exact ⟨rfl, rfl⟩
end
end Go.Proofs.YtapaiknghnbfmaaDoor
