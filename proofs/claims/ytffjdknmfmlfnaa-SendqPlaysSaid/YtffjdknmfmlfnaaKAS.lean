/- KAS of the stage: texts Q21, joined. -/
import Derived.Test.YtffjdknmfmlfnaaKAR
set_option linter.unusedSimpArgs false
set_option linter.unusedVariables false
namespace Go.Proofs.Ytffjdknmfmlfnaa
section
open Go.RowKit Go.Maps

/-- The greatest end of those blocks that are asked for. -/
def rmx (f : Int → Bool) (bl : List (Int × Int)) : Int := (bl.filter fun b => f b.1).foldl (fun m b => max m b.2) 0
def rch (bl : List (Int × Int)) (h : Nat) : Int := rmx (fun x => decide (x ≤ (h : Int))) bl
def BlOK (bl : List (Int × Int)) : Prop := ∀ b ∈ bl, 0 ≤ b.1 ∧ b.1 < 65536 ∧ 0 ≤ b.2 ∧ b.2 < 65536
theorem rmx_nn (f : Int → Bool) (bl : List (Int × Int)) : 0 ≤ rmx f bl := by
  unfold rmx
  generalize bl.filter (fun b => f b.1) = l
  have : ∀ (l : List (Int × Int)) (z : Int), 0 ≤ z → 0 ≤ l.foldl (fun m b => max m b.2) z := by
    intro l
    induction l with
    | nil => intro z hz; exact hz
    | cons b r ih => intro z hz; exact ih _ (by show (0 : Int) ≤ max z b.2; omega)
  exact this l 0 (Int.le_refl _)
theorem rmx_snoc (f : Int → Bool) (bl : List (Int × Int)) (b : Int × Int) : rmx f (bl ++ [b]) = if f b.1 = true then max (rmx f bl) b.2 else rmx f bl := by
  unfold rmx
  rw [List.filter_append, List.foldl_append, List.filter_cons]
  by_cases h : f b.1 = true
  · rw [if_pos h, if_pos h]
    rfl
  · rw [if_neg h, if_neg h]
    rfl
theorem rmx_lt {f : Int → Bool} {bl : List (Int × Int)} (h : BlOK bl) : rmx f bl < 65536 := by
  unfold rmx
  have : ∀ (l : List (Int × Int)) (z : Int), (∀ b ∈ l, b.2 < 65536) → z < 65536 → l.foldl (fun m b => max m b.2) z < 65536 := by
    intro l
    induction l with
    | nil => intro z _ hz; exact hz
    | cons b r ih => intro z hb hz; exact ih _ (fun x hx => hb x (List.mem_cons_of_mem _ hx)) (by have := hb b (List.mem_cons_self ..); show max z b.2 < 65536; omega)
  exact this _ 0 (fun b hb => (h b (List.mem_filter.1 hb).1).2.2.2) (by decide)
/-- At the next height: what begins there, or below. -/
theorem rch_next (bl : List (Int × Int)) (h : Nat) : rch bl (h + 1) = max (rmx (fun x => x == ((h + 1 : Nat) : Int)) bl) (rch bl h) := by
  unfold rch
  have key : ∀ l : List (Int × Int), rmx (fun x => decide (x ≤ ((h + 1 : Nat) : Int))) l.reverse = max (rmx (fun x => x == ((h + 1 : Nat) : Int)) l.reverse) (rmx (fun x => decide (x ≤ (h : Int))) l.reverse) := by
    intro l
    induction l with
    | nil => rfl
    | cons b r ih =>
      rw [List.reverse_cons, rmx_snoc, rmx_snoc, rmx_snoc, ih]
      by_cases h1 : b.1 ≤ (h : Int)
      · rw [if_pos (by simp; omega), if_neg (by simp; omega), if_pos (by simpa using h1)]
        omega
      · by_cases h2 : b.1 = ((h + 1 : Nat) : Int)
        · rw [if_pos (by simp; omega), if_pos (by simpa using h2), if_neg (by simpa using h1)]
          omega
        · rw [if_neg (by simp; omega), if_neg (by simpa using h2), if_neg (by simpa using h1)]
  have := key bl.reverse
  rwa [List.reverse_reverse] at this
theorem rch_zero (bl : List (Int × Int)) (hb : BlOK bl) : rch bl 0 = rmx (fun x => x == (0 : Int)) bl := by
  unfold rch rmx
  congr 1
  apply List.filter_congr
  intro b hbm
  have := (hb b hbm).1
  rw [Bool.eq_iff_iff, decide_eq_true_eq, beq_iff_eq]
  omega
/-- A row of heights. -/
def rowV (n : Nat) (R : Nat → Int) : List Value := (List.range n).map fun h => .int .u16 (R h)
theorem rowV_get (n : Nat) (R : Nat → Int) (h : Nat) (hh : h < n) : (rowV n R)[h]? = some (.int .u16 (R h)) := by
  unfold rowV
  rw [List.getElem?_map, List.getElem?_range hh]
  rfl
theorem rowV_set (n : Nat) (R R' : Nat → Int) (h : Nat) (hh : h < n) (ho : ∀ i, i ≠ h → i < n → R' i = R i) : (rowV n R).toArray.setIfInBounds h (.int .u16 (R' h)) = (rowV n R').toArray := by
  rw [List.setIfInBounds_toArray]
  congr 1
  apply List.ext_getElem?
  intro t
  rw [List.getElem?_set]
  unfold rowV
  by_cases ht : t < n
  · rw [List.getElem?_map, List.getElem?_map, List.getElem?_range ht, List.length_map, List.length_range]
    by_cases e : h = t
    · subst e
      rw [if_pos rfl, if_pos hh]
      rfl
    · rw [if_neg e]
      simp only [Option.map_some]
      rw [ho t (fun x => e x.symm) ht]
  · rw [if_neg (by omega), List.getElem?_eq_none (by simp; omega), List.getElem?_eq_none (by simp; omega)]
theorem rowV_rep (n : Nat) : (List.replicate n (Value.int .u16 0)) = rowV n fun _ => 0 := by
  apply List.ext_getElem?
  intro t
  unfold rowV
  rw [List.getElem?_replicate]
  by_cases ht : t < n
  · rw [if_pos ht, List.getElem?_map, List.getElem?_range ht]; rfl
  · rw [if_neg ht, List.getElem?_eq_none (by simp; omega)]
theorem rowV_at (n : Nat) (R : Nat → Int) (i : Nat) (hi : i < n) : (rowV n R).toArray[i]? = some (.int .u16 (R i)) := by
  have := rowV_get n R i hi
  simpa using this
def RB (W : World) (N : Nat) (R : Nat → Int) : Prop := W.heap[N]? = some (.cells (rowV 1025 R).toArray 39 (0, 0))
theorem RB.at_ {W : World} {N : Nat} {R : Nat → Int} (h : RB W N R) (i : Nat) (hi : i < 1025) : W.cell? ⟨N, i, none⟩ = some (Value.int .u16 (R i)) := by
  rw [cell_of_row _ _ _ _ _ _ h]
  exact rowV_at 1025 R i hi
theorem RB.fz {W : World} {N : Nat} {R : Nat → Int} (h : RB W N R) (i : Nat) : W.frozen? ⟨N, i, none⟩ = false := upd_fz h i
theorem RB.step {W W' : World} {N : Nat} {R : Nat → Int} (h : RB W N R) (hb : Below W.heap.size W W') : RB W' N R := (hb.block _ (Array.getElem?_eq_some_iff.1 h).1).trans h
theorem RB.set {W : World} {N : Nat} {R R' : Nat → Int} (h : RB W N R) (i : Nat) (hi : i < 1025) (v : Int) (hv : v = R' i) (ho : ∀ j, j ≠ i → j < 1025 → R' j = R j) : RB (W.setCell ⟨N, i, none⟩ (.int .u16 v)) N R' := by
  subst hv
  have : (W.setCell ⟨N, i, none⟩ (.int .u16 (R' i))).heap[N]? = some (.cells ((rowV 1025 R).toArray.setIfInBounds i (.int .u16 (R' i))) 39 (0, 0)) := heap_setCell_same W N i _ _ _ h
  rwa [rowV_set 1025 R R' i hi ho] at this
theorem RB.congr {W : World} {N : Nat} {R R' : Nat → Int} (h : RB W N R) (he : ∀ j, j < 1025 → R' j = R j) : RB W N R' := by
  have : rowV 1025 R' = rowV 1025 R := by
    unfold rowV
    exact List.map_congr_left fun j hj => by rw [he j (List.mem_range.1 hj)]
  unfold RB
  rw [this]
  exact h
/-- Behind the first j blocks. -/
def ra (bl : List (Int × Int)) (h : Nat) : Int := rmx (fun x => x == (h : Int)) bl
/-- Behind the first i heights. -/
def rb (bl : List (Int × Int)) (i h : Nat) : Int := if h ≤ i then rch bl h else ra bl h
theorem u16_info : (Try.prog.info? 39).map (fun i => (i.zero, i.size, i.bytes)) = some (some (.int .u16 0), 1, 2) := by kernel_rfl
theorem below_row {w W : World} (h : Below w.heap.size w W) (i : Nat) (v : Value) : Below w.heap.size w (W.setCell ⟨w.heap.size, i, none⟩ v) := h.setCell (by exact Nat.le_refl _) _
theorem reaches_any (s : SL) (bl : List (Int × Int)) (w : World) (h : LR blC w s bl) (hn : s.2.1 ≤ 1000000) (hok : BlOK bl) :
    Calls Try.prog 70 #[.slice s.1 s.2.1 s.2.2] w fun e w' => e = .returned (.slice (some ⟨w.heap.size, 0, none⟩) 1025 1025) ∧ RB w' w.heap.size (rch bl) ∧ Below w.heap.size w w' := by
  obtain ⟨i0, hi0, hz0, hz1, hz2⟩ := info_parts u16_info
  have mixed : Try.prog.follows .mixedOrders = true := by kernel_rfl
  have H := keep h
  have HL := keep h.1
  have HOK := keep hok
  clear h hok
  obtain ⟨s1, n, s3⟩ := s
  dsimp only at HL hn ⊢
  go_enter Try.func70, Try.ntmps70
  go_wp2_with (at_make; refine wpl_make rfl _ _ 117 rfl 39 i0 (.int .u16 0) Try.underlying117 hi0 hz0 hz1 rfl 1025 1025 rfl rfl rfl (by rw [hz2]; decide) (by decide) ?_
               intro w1 hrow hb1 hlt1)
  go_loopw [5, 10] (fun _ i wr => ∃ j : Nat, j ≤ n ∧ i = .int .i64 j ∧ Hid (RB wr w.heap.size (ra (bl.take j))) ∧ Hid (Below w.heap.size w wr)) (fun _ i _ => n - (intOf i).toNat)
  case atStart =>
    refine ⟨0, Nat.zero_le _, rfl, keep ?_, keep hb1⟩
    have h1 := hrow.out
    rw [rowV_rep] at h1
    exact h1
  case round =>
    obtain ⟨j, hj, rfl, hR, hB⟩ := hrel
    clear hb1 hlt1 hrow
    by_cases hlt : j < n
    · obtain ⟨b, o, x, hA, hbl, hx, hc⟩ := (H.out.kept (ok := fun _ => True) (Kpt.of_below hB.out) (InF.all _)).at_ blC_len (by decide) hlt
      dsimp only at hA
      subst hA
      have c0 := hc 0 _ rfl
      have c1 := hc 1 _ rfl
      dsimp only [Nat.add_zero] at c0
      clear hc
      have HX := keep hx
      obtain ⟨x0, x1, x2, x3⟩ := HOK.out x (List.mem_of_getElem? hx)
      have hsn : bl.take (j + 1) = bl.take j ++ [x] := by rw [List.take_add_one, hx]; rfl
      obtain ⟨xf, xt⟩ := x
      dsimp only at x0 x1 x2 x3 c0 c1
      have HX' := keep (And.intro x2 x3)
      by_cases hle : xf ≤ 1024
      · obtain ⟨m, rfl⟩ : ∃ m : Nat, xf = (m : Int) := ⟨xf.toNat, by omega⟩
        have hm : m < 1025 := by omega
        have hm2 : (m : Int) < 1025 := by omega
        have HN := keep (fun (W : World) (hW : RB W w.heap.size (ra (bl.take j))) (v : Int) (hv : v = max (ra (bl.take j) m) xt) => show RB _ w.heap.size (ra (bl.take (j + 1))) from hW.set m hm v (by
          rw [hsn]
          unfold ra
          rw [rmx_snoc, if_pos (by simp)]
          exact hv) fun i hi _ => by
            rw [hsn]
            unfold ra
            rw [rmx_snoc, if_neg (by simp; omega)])
        have hra := rmx_nn (fun x => x == (m : Int)) (bl.take j)
        clear hx hsn
        obtain ⟨y, hy⟩ : ∃ y, ra (bl.take j) m = y := ⟨_, rfl⟩
        rw [hy] at HN
        clear x0 x1 x2 x3
        go_wp2
        generalize hW2 : World.alloc _ _ = W2
        have b2 : Below wr.heap.size wr W2 := by rw [← hW2]; exact below_lay wr _
        have hr2 : W2.heap[wr.heap.size]? = some (.cells #[.int .u16 (m : Int), .int .u16 xt] 96 (0, 0)) := by rw [← hW2]; exact heap_alloc_new wr _
        have HR2 := keep (hR.out.step b2)
        have HB2 := keep (hB.out.trans (b2.mono hB.out.size))
        have d0 : W2.cell? ⟨wr.heap.size, 0, none⟩ = some (Value.int .u16 (m : Int)) := upd_cell hr2 0 _ rfl
        have d1 : W2.cell? ⟨wr.heap.size, 1, none⟩ = some (Value.int .u16 xt) := upd_cell hr2 1 _ rfl
        have cm := HR2.out.at_ m hm
        have fm := HR2.out.fz m
        rw [hy] at cm
        clear hra hy hr2 b2 hW2 c0 c1
        go_region
        go_wp2
        go_roundw
        case rel => exact ⟨j + 1, by omega, by go_num, keep (HN.out W2 HR2.out _ (by rw [Int.max_def]; split <;> split <;> omega)), keep (below_row HB2.out m _).drew⟩
        case measure => simp [intOf]; omega
      · have HRN : Hid (RB wr w.heap.size (ra (bl.take (j + 1)))) := keep (hR.out.congr fun i hi => by
          rw [hsn]
          unfold ra
          rw [rmx_snoc, if_neg (by simp; omega)])
        clear hx hsn
        go_wp2
        generalize hW2 : World.alloc _ _ = W2
        have b2 : Below wr.heap.size wr W2 := by rw [← hW2]; exact below_lay wr _
        have HR2 := keep (HRN.out.step b2)
        have HB2 := keep (hB.out.trans (b2.mono hB.out.size))
        clear b2 hW2
        go_roundw
        case rel => exact ⟨j + 1, by omega, by go_num, HR2, HB2⟩
        case measure => simp [intOf]; omega
    · obtain rfl : n = j := by omega
      have hRR := hR.out
      rw [List.take_of_length_le (by have := HL.out; omega)] at hRR
      have HRR : Hid (RB wr w.heap.size (rb bl 0)) := keep (hRR.congr fun i hi => by
        unfold rb
        by_cases h : i ≤ 0
        · obtain rfl : i = 0 := by omega
          rw [if_pos h, rch_zero bl HOK.out]
          rfl
        · rw [if_neg h])
      clear hRR hR
      go_wp2
      go_loopw [6, 30] (fun _ i w3 => ∃ t : Nat, t ≤ 1024 ∧ i = .int .i64 t ∧ Hid (RB w3 w.heap.size (rb bl t)) ∧ Hid (Below w.heap.size w w3)) (fun _ i _ => 1024 - (intOf i).toNat)
      case atStart => exact ⟨0, Nat.zero_le _, rfl, HRR, hB⟩
      case round =>
        obtain ⟨t, ht, rfl, hR3, hB3⟩ := hrel
        clear HRR hB
        rename_i w3
        by_cases hlt2 : t < 1024
        · have e1 := hR3.out.at_ t (by omega)
          have e2 := hR3.out.at_ (t + 1) (by omega)
          have f2 := hR3.out.fz (t + 1)
          have v1 : rb bl t t = rch bl t := if_pos (Nat.le_refl _)
          have v2 : rb bl t (t + 1) = ra bl (t + 1) := if_neg (by omega)
          rw [v1] at e1
          rw [v2] at e2
          have HN := keep (fun (v : Int) (hv : v = max (ra bl (t + 1)) (rch bl t)) => show RB _ w.heap.size (rb bl (t + 1)) from hR3.out.set (t + 1) (by omega) v (by
            unfold rb
            rw [if_pos (Nat.le_refl _), rch_next]
            exact hv) fun i hi _ => by
              unfold rb
              by_cases h : i ≤ t
              · rw [if_pos h, if_pos (by omega)]
              · rw [if_neg h, if_neg (by omega)])
          obtain ⟨y1, hy1⟩ : ∃ y, rch bl t = y := ⟨_, rfl⟩
          obtain ⟨y2, hy2⟩ : ∃ y, ra bl (t + 1) = y := ⟨_, rfl⟩
          rw [hy1] at e1 HN
          rw [hy2] at e2 HN
          have ht2 : (t : Int) < 1024 := by omega
          have ht3 : (t : Int) + 1 < 1025 := by omega
          have ht0 : 0 ≤ (t : Int) := by omega
          clear v1 v2 hy1 hy2
          go_wp2
          go_region
          go_wp2
          go_roundw
          case rel => exact ⟨t + 1, by omega, by go_num, keep (HN.out _ (by rw [Int.max_def]; split <;> split <;> omega)), keep (below_row hB3.out (t + 1) _).drew⟩
          case measure => simp [intOf]; omega
        · obtain rfl : t = 1024 := by omega
          go_wp2
          go_ret
          exact ⟨rfl, hR3.out.congr fun i hi => by unfold rb; rw [if_pos (by omega)], hB3.out⟩
end
end Go.Proofs.Ytffjdknmfmlfnaa
