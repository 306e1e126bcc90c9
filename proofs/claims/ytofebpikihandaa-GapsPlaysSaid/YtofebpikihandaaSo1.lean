/- The library's sort at numbers of 16 bits: the comparison, the insertion sort. -/
import Derived.WalkSpells
import Derived.KernelRfl
import Derived.WalkKit
import Derived.BigGuard
import Derived.BigCall
import Derived.CellFam
import Derived.Deep.Draws
import Derived.Deep.QuietTactic
import Derived.BigQuiet
import Derived.Sort.Row
import Derived.Sort.LotA
import Derived.Test.YtofebpikihandaaProg
import Derived.Test.YtofebpikihandaaPart
namespace Go.Proofs.Ytofebpikihandaa
open Go.RowKit Go.Sort
set_option linter.unusedVariables false

/-- The row in block g holds d. -/
abbrev Rw (w : World) (g : Nat) (d : Array Int) : Prop := Holds (Value.int .u16) w g 0 d
theorem Rw.cell {w : World} {g : Nat} {d : Array Int} (h : Rw w g d) {t : Nat} (ht : t < d.size) : w.cell? ⟨g, t, none⟩ = some (.int .u16 d[t]!) := by have := (h t ht).1; rwa [Nat.zero_add] at this
theorem Rw.fz {w : World} {g : Nat} {d : Array Int} (h : Rw w g d) {t : Nat} (ht : t < d.size) : w.frozen? ⟨g, t, none⟩ = false := by have := (h t ht).2; rwa [Nat.zero_add] at this
theorem Rw.swap {w : World} {g : Nat} {d : Array Int} (h : Rw w g d) {i j : Nat} (hi : i < d.size) (hj : j < d.size) :
    Rw ((w.setCell ⟨g, i, none⟩ (.int .u16 d[j]!)).setCell ⟨g, j, none⟩ (.int .u16 d[i]!)) g (swp d i j) := by
  have e := putRow_swp (Value.int .u16) w g 0 d i j hi hj
  rw [putRow_self _ _ _ _ _ h, Nat.zero_add, Nat.zero_add] at e
  rw [e]
  exact holds_putRow _ _ _ _ d _ h (by simp [swp])
theorem Rw.kept {S : Nat → Prop} {w w' : World} {g : Nat} {d : Array Int} (h : Rw w g d) (hp : Part S w w') (hg : ¬ S g) (hlt : g < w.heap.size) : Rw w' g d := fun j hj => by
  have hb := hp.block g hlt hg
  exact ⟨(World.cell?_of_block (w := w) (a := ⟨g, 0 + j, none⟩) hb).trans (h j hj).1, by have := (h j hj).2; unfold World.frozen? at *; simp only at *; rw [hb]; exact this⟩
theorem Rw.drew {w : World} {g : Nat} {d : Array Int} (h : Rw w g d) (q : Nat) : Rw (w.drewN q) g d := h

theorem isNaN16 (x : Int) (w : World) : Calls Try.prog 53 #[.int .u16 x] w fun e w' => e = .returned (.bool false) ∧ w' = w := by
  go_enter Try.func53, Try.ntmps53
  go_wp2
  go_ret
  exact ⟨by simp, rfl⟩
theorem Less16c (x y : Int) (w : World) : Calls Try.prog 43 #[.int .u16 x, .int .u16 y] w fun e w' => e = .returned (.bool (ltInt x y)) ∧ w' = w := by
  go_enter Try.func43, Try.ntmps43
  go_wp2_with (go_at_call 53; refine (isNaN16 _ _).mono ?_; rintro e w' ⟨rfl, rfl⟩)
  go_ret
  exact ⟨rfl, rfl⟩

/-- Behind a call that sorts a part of the row. -/
structure Done (w : World) (g : Nat) (d' : Array Int) (w' : World) : Prop where
  row : Rw w' g d'
  part : Part (fun i => i = g) w w'
theorem Done.refl {w : World} {g : Nat} {d : Array Int} (h : Rw w g d) : Done w g d w := ⟨h, Part.refl _ _⟩
theorem Done.drew {w w' : World} {g : Nat} {d : Array Int} (h : Done w g d w') (q : Nat) : Done w g d (w'.drewN q) := ⟨h.row.drew q, h.part.drewN q⟩
theorem Done.swap {w w' : World} {g : Nat} {d : Array Int} (h : Done w g d w') {i j : Nat} (hi : i < d.size) (hj : j < d.size) :
    Done w g (swp d i j) ((w'.setCell ⟨g, i, none⟩ (.int .u16 d[j]!)).setCell ⟨g, j, none⟩ (.int .u16 d[i]!)) :=
  ⟨h.row.swap hi hj, (h.part.setCell (p := ⟨g, i, none⟩) (.inl rfl) _).setCell (p := ⟨g, j, none⟩) (.inl rfl) _⟩
theorem Done.trans {w w1 w2 : World} {g : Nat} {d d' : Array Int} (h : Done w g d w1) (k : Done w1 g d' w2) : Done w g d' w2 := ⟨k.row, h.part.trans k.part fun i hi => .inl hi⟩

theorem ins_go {a j : Nat} {d : Array Int} (hj : a < j) (hl : ltInt d[j]! d[j - 1]! = true) : insInner ltInt a j d = insInner ltInt a (j - 1) (swp d j (j - 1)) := by
  obtain ⟨k, rfl⟩ : ∃ k, j = k + 1 := ⟨j - 1, by omega⟩
  simp only [Nat.add_sub_cancel] at hl ⊢
  rw [insInner, if_pos (by simp [hl]; omega)]
theorem ins_stop {a j : Nat} {d : Array Int} (h : j ≤ a ∨ ltInt d[j]! d[j - 1]! = false) : insInner ltInt a j d = d := by
  rcases j with _ | k
  · rfl
  · simp only [Nat.add_sub_cancel] at h
    rw [insInner, if_neg]
    rcases h with h | h
    · simp
      omega
    · simp [h]
theorem ins_size (a : Nat) : ∀ (j : Nat) (d : Array Int), (insInner ltInt a j d).size = d.size
  | 0, d => rfl
  | j + 1, d => by
    rw [insInner]
    split
    · rw [ins_size a j, swp_size]
    · rfl

def intOf16 : Value → Nat
  | .int _ x => x.toNat
  | _ => 0

set_option maxHeartbeats 2000000 in
theorem insertion_any {g c a b : Nat} {d : Array Int} {w : World} (h : Rw w g d) (hab : a ≤ b) (hb : b ≤ d.size) (hs : d.size ≤ 1000000) :
    Calls Try.prog 37 #[.slice (some ⟨g, 0, none⟩) d.size c, .int .i64 a, .int .i64 b] w fun e w' => e = .returned (.tuple #[]) ∧ Done w g (insertionSort ltInt d a b) w' := by
  obtain ⟨n, hn⟩ : ∃ n, d.size = n := ⟨_, rfl⟩
  have HD := keep (Done.refl h)
  have HN := keep hn
  rw [hn] at hb hs ⊢
  clear h hn
  go_enter Try.func37, Try.ntmps37
  go_wp2
  go_loopw [6] (fun vi wr => ∃ (i : Nat) (di : Array Int), vi = .int .i64 i ∧ a < i ∧ i ≤ b + 1 ∧ Hid (di.size = n ∧ Done w g di wr ∧ insOuter ltInt a b i di = insertionSort ltInt d a b)) (fun vi _ => b + 1 - intOf16 vi)
  case atStart => exact ⟨a + 1, d, by go_num, by omega, by omega, HN.out, HD.out, rfl⟩
  case round =>
    obtain ⟨i, di, rfl, hai, hib, H⟩ := hrel
    go_wp2
    · have hlt : i < b := by assumption
      go_loopw [7] (fun vj wq => ∃ (j : Nat) (dj : Array Int), vj = .int .i64 j ∧ a ≤ j ∧ j ≤ i ∧ Hid (dj.size = n ∧ Done w g dj wq ∧ insInner ltInt a j dj = insInner ltInt a i di)) (fun vj _ => intOf16 vj)
      case atStart => exact ⟨i, di, rfl, by omega, Nat.le_refl _, H.out.1, H.out.2.1, rfl⟩
      case round =>
        obtain ⟨j, dj, rfl, haj, hji, HJ⟩ := hrel
        obtain ⟨G, hG⟩ : ∃ G : Nat → Int, ∀ t, dj[t]! = G t := ⟨fun t => dj[t]!, fun _ => rfl⟩
        have hcw : ∀ t, t < n → wr.cell? ⟨g, t, none⟩ = some (.int .u16 (G t)) := fun t ht => by rw [← hG]; exact HJ.out.2.1.row.cell (by rw [HJ.out.1]; exact ht)
        have hfw : ∀ t, t < n → wr.frozen? ⟨g, t, none⟩ = false := fun t ht => HJ.out.2.1.row.fz (by rw [HJ.out.1]; exact ht)
        have HG := keep hG
        have OUT := keep fun (hst : j ≤ a ∨ ltInt dj[j]! dj[j - 1]! = false) => (show insOuter ltInt a b (i + 1) dj = insertionSort ltInt d a b by
          rw [← H.out.2.2]
          conv => rhs; rw [insOuter, if_pos hlt]
          rw [← HJ.out.2.2, ins_stop hst])
        clear hG
        go_wp2
        by_cases hja : a < j
        · have hjn : j < n := by omega
          have hjz : (j : Int) < (n : Int) := by omega
          have hj1 : j - 1 < n := by omega
          go_quiet (first | (go_at_call 43; refine Calls.quiet_of_same (Less16c _ _ _)))
          go_wp2
          · have hl : ltInt (G j) (G (j - 1)) = true := by assumption
            go_region
            all_goals go_wp2
            go_roundw
            case rel =>
              refine ⟨j - 1, swp dj j (j - 1), by congr 1; omega, by omega, by omega, by rw [swp_size]; exact HJ.out.1, ?_, by rw [← HJ.out.2.2, ins_go hja (by rw [HG.out, HG.out]; exact hl)]⟩
              rw [← HG.out, ← HG.out]
              exact (HJ.out.2.1.drew _).swap (by rw [HJ.out.1]; exact hjn) (by rw [HJ.out.1]; exact hj1)
            case measure => simp [intOf16]; omega
          · have hl : ltInt (G j) (G (j - 1)) = false := by assumption
            go_roundw
            case rel => exact ⟨i + 1, dj, by go_num, by omega, by omega, HJ.out.1, HJ.out.2.1.drew _, OUT.out (.inr (by rw [HG.out, HG.out]; exact hl))⟩
            case measure => simp [intOf16]; omega
        · go_quiet (first | (go_at_call 43; refine Calls.quiet_of_same (Less16c _ _ _)))
          go_wp2
          go_roundw
          case rel => exact ⟨i + 1, dj, by go_num, by omega, by omega, HJ.out.1, HJ.out.2.1.drew _, OUT.out (.inl (by omega))⟩
          case measure => simp [intOf16]; omega
    · have hge : ¬ i < b := by assumption
      go_end0
      refine ⟨rfl, ?_⟩
      have := H.out.2.2
      rw [insOuter, if_neg hge] at this
      rw [← this]
      exact H.out.2.1
end Go.Proofs.Ytofebpikihandaa
