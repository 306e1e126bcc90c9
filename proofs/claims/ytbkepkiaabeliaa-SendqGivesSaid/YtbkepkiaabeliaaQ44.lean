/- skipping. -/
import Derived.Test.YtbkepkiaabeliaaQ43
import Derived.Test.YtbkepkiaabeliaaQ11
namespace Go.Proofs.Ytbkepkiaabeliaa
open Go.RowKit Go.Maps
set_option linter.unusedVariables false

theorem own_put {w : World} {base : Nat} {e : TypeId} {K n c : Nat} {A : Option Addr} {xs : List Value} (h : w.ownsRow base e K (.slice A n c) n xs) {g : Nat} (hA : A = some ⟨g, 0, none⟩) (j : Nat) (v : Value) (hj : j < xs.length) : (w.setCell ⟨g, j, none⟩ v).ownsRow base e K (.slice A n c) n (xs.set j v) := by
  refine ⟨by rw [List.length_set]; exact h.1, ?_⟩
  rcases h.2 with ⟨h0, h1⟩ | ⟨g', cap, cur, hv, hb, hg, hnc, hm, hsz, ht⟩
  · have := h.1
    rw [h1, Nat.zero_mul] at this
    omega
  · subst hA
    injection hv with a1 a2 a3
    injection a1 with a1
    injection a1 with a1
    subst a1 a3
    refine .inr ⟨g, c, cur.setIfInBounds j v, rfl, hb, heap_setCell_same _ g j _ _ _ hg, hnc, hm, by simpa using hsz, ?_⟩
    rw [← ht, Array.toList_setIfInBounds, List.take_set]
/-- A stream and its number, into the list of those to be skipped. -/
def skL : List (Int × Int) → Int → Int → List (Int × Int)
  | [], o, s => [(o, s)]
  | x :: r, o, s => if x.1 = o then (x.1, s) :: r else x :: skL r o s
theorem skL_at : ∀ {l : List (Int × Int)} {o s t : Int} {j : Nat}, (∀ y ∈ l.take j, y.1 ≠ o) → l[j]? = some (o, t) → skL l o s = l.set j (o, s)
  | [], o, s, t, j, _, h => by cases h
  | x :: r, o, s, t, 0, _, h => by
    injection h with h
    subst h
    rw [skL, if_pos rfl]
    rfl
  | x :: r, o, s, t, j + 1, hn, h => by
    rw [skL, if_neg (hn x (by rw [List.take_succ_cons]; exact List.mem_cons_self ..)), skL_at (t := t) (j := j) (fun y hy => hn y (by rw [List.take_succ_cons]; exact List.mem_cons_of_mem _ hy)) h]
    rfl
theorem skL_none : ∀ {l : List (Int × Int)} {o s : Int}, (∀ y ∈ l, y.1 ≠ o) → skL l o s = l ++ [(o, s)]
  | [], o, s, _ => rfl
  | x :: r, o, s, hn => by
    rw [skL, if_neg (hn x (List.mem_cons_self ..)), skL_none (l := r) fun y hy => hn y (List.mem_cons_of_mem _ hy)]
    rfl
theorem skL_len (l : List (Int × Int)) (o s : Int) : (skL l o s).length ≤ l.length + 1 := by
  induction l with
  | nil => exact Nat.le_refl _
  | cons x r ih =>
    rw [skL]
    split
    · simp
    · simp only [List.length_cons]; omega
theorem flat_set : ∀ {l : List (Int × Int)} {j : Nat} {o t s : Int}, l[j]? = some (o, t) → (flatF blC l).set (j * 2 + 1) (.int .u16 s) = flatF blC (l.set j (o, s))
  | [], j, o, t, s, h => by cases h
  | x :: r, 0, o, t, s, h => by
    injection h with h
    subst h
    rfl
  | x :: r, j + 1, o, t, s, h => by
    have h1 := flat_set (l := r) (j := j) (o := o) (t := t) (s := s) h
    show (Value.int .u16 x.1 :: Value.int .u16 x.2 :: flatF blC r).set ((j + 1) * 2 + 1) _ = Value.int .u16 x.1 :: Value.int .u16 x.2 :: flatF blC (r.set j (o, s))
    rw [← h1, show (j + 1) * 2 + 1 = (j * 2 + 1) + 1 + 1 by omega]
    rfl
/-- What skipping leaves. -/
structure SkP (w : World) (base : Nat) (A : Option Addr) (n c : Nat) (l' : List (Int × Int)) (s : SL) (w' : World) : Prop where
  row : w'.ownsRow base 66 2 (.slice s.1 s.2.1 s.2.2) s.2.1 (flatF blC l')
  part : Part (fun i => (Value.slice A n c).ownBlock = some i) w w'
  ko : KeepsOthers w w'
theorem ko_below {w w' : World} (h : Below w.heap.size w w') : KeepsOthers w w' := ⟨h.size, fun k o hk _ => (h.block k (Array.getElem?_eq_some_iff.1 hk).1).trans hk⟩
set_option maxRecDepth 100000 in
set_option maxHeartbeats 2000000 in
theorem skipping_any {base : Nat} {A : Option Addr} {n c : Nat} {l : List (Int × Int)} {w : World} (h : w.ownsRow base 66 2 (.slice A n c) n (flatF blC l)) (hn : n ≤ 2000) (hb : base ≤ w.heap.size) (x : CZ) :
    Calls Try.prog 62 #[.slice A n c, .agg x.cells.toArray] w fun e w' => ∃ s, e = .returned (.slice s.1 s.2.1 s.2.2) ∧ SkP w base A n c (skL l x.ou x.si) s w' := by
  obtain ⟨i0, hi0, hz0, hz1, hz2⟩ := info_parts cSkip_info
  have hnl : n = l.length := by
    have := h.1
    rw [flatF_len blC_len] at this
    omega
  have HB := keep (below_lay w (.cells x.cells.toArray 51))
  have hz := (show ZB (w.alloc (.cells x.cells.toArray 51)) w.heap.size x from heap_alloc_new w _).all
  obtain ⟨⟨z0, z1, z2, z3, z4, z5, z6⟩, z7, z8, z9, z10, z11⟩ := hz
  have HO := keep (own_step h HB.out)
  have HH := keep h
  have HNL := keep hnl
  have HBS := keep hb
  obtain ⟨xk, xf, xa, xb, xo, xs, xp, ⟨x1, x2, x3⟩, ⟨x4, x5, x6⟩, ⟨x7, x8, x9⟩, ⟨x10, x11, x12⟩, ⟨x13, x14, x15⟩, xbl, xdu, xsk, xpr, xbs⟩ := x
  dsimp only [CZ.cells] at *
  clear h hnl z0 z1 z2 z3 z6 z7 z8 z9 z10 z11 hb
  generalize hW : w.alloc _ = W at *
  go_enter Try.func62, Try.ntmps62
  go_wp2
  go_loopw [5, 8] (fun _ i wr => ∃ (j k : Nat), j ≤ n ∧ i = .int .i64 j ∧ Hid (∀ y ∈ l.take j, y.1 ≠ xo) ∧ wr = W.drewN k) (fun _ i _ => n - (intOf i).toNat)
  case atStart => exact ⟨0, 0, Nat.zero_le _, rfl, keep (by simp), rfl⟩
  case round =>
    obtain ⟨j, k, hj, rfl, hno, rfl⟩ := hrel
    have HOK := keep (own_step HO.out (show Below W.heap.size W (W.drewN k) from below_drewN (Below.refl _ W) k))
    have HBK := keep (below_drewN HB.out k)
    by_cases hlt : j < n
    · have hjl : j < l.length := by have := HNL.out; omega
      obtain ⟨⟨o, t⟩, hl⟩ : ∃ y, l[j]? = some y := ⟨_, List.getElem?_eq_getElem hjl⟩
      have hne : flatF blC l ≠ [] := fun h0 => by
        have h1 := flatF_len blC_len l
        rw [h0] at h1
        simp at h1
        omega
      obtain ⟨g, rfl, hgb, hcs, hfz, _⟩ := own_row_at HOK.out hne
      have h0 : W.cell? ⟨g, j * 2, none⟩ = _ := hcs (j * 2) (.int .u16 o) (flatF_get (f := blC) blC_len l j (o, t) hl 0 (by decide))
      have h1 : W.cell? ⟨g, j * 2 + 1, none⟩ = _ := hcs (j * 2 + 1) (.int .u16 t) (flatF_get (f := blC) blC_len l j (o, t) hl 1 (by decide))
      have f1 : W.frozen? ⟨g, j * 2 + 1, none⟩ = false := hfz (j * 2 + 1)
      have hjI : (j : Int) < (n : Int) := by omega
      have hj0 : (0 : Int) ≤ (j : Int) := by omega
      have hn1 : (n : Int) ≤ 2000 := by omega
      have HL := keep hl
      have HG := keep hgb
      clear hjl hne hcs hfz hl hgb
      by_cases ho : o = xo
      · subst ho
        go_wp2
        go_quiet (fail)
        go_wp2
        go_ret
        have HBN := below_drewN HB.out (k + nq)
        have HON := own_step HO.out (show Below W.heap.size W (W.drewN (k + nq)) from below_drewN (Below.refl _ W) (k + nq))
        refine ⟨(some ⟨g, 0, none⟩, n, c), rfl, ⟨?_, ?_, ?_⟩⟩
        · rw [skL_at hno.out HL.out, ← flat_set HL.out]
          exact own_put HON rfl _ _ (by rw [flatF_len blC_len]; have := HNL.out; omega)
        · exact (Part.of_below (fun i => (Value.slice (some ⟨g, 0, none⟩) n c).ownBlock = some i) HBN).setCell (p := ⟨g, j * 2 + 1, none⟩) (.inl rfl) _
        · exact (ko_below HBN).trans (KeepsOthers.setCell _ _ _)
      · have hob : (o == xo) = false := by simpa using ho
        have HNE := keep ho
        clear ho
        go_wp2
        go_quiet (fail)
        go_wp2
        go_roundw
        case rel =>
          refine ⟨j + 1, k + nq, by omega, by go_num, keep fun y hy => ?_, rfl⟩
          rw [List.take_add_one, HL.out] at hy
          rcases List.mem_append.1 hy with hy | hy
          · exact hno.out y hy
          · rw [Option.toList_some, List.mem_singleton] at hy
            rw [hy]
            exact HNE.out
        case measure => simp [intOf]; omega
    · obtain rfl : n = j := by omega
      go_wp2_with (at_builtin; refine wpl_appendK (S := 2) (by decide) rfl (.tmp 27) (.tmp 33) 47 rfl base 66 i0 (.agg #[.int .u16 0, .int .u16 0]) Try.underlying47 hi0 hz0 hz1 rfl _ n (flatF blC l) rfl (own_step HOK.out (below_lay _ (.cells #[.int .u16 xo, .int .u16 xs] 66))) (some ⟨(W.drewN k).heap.size, 0, none⟩) 1 1 [.int .u16 xo, .int .u16 xs] rfl rfl (SR.row (heap_alloc_new (W.drewN k) _)) (by intro u hu; simp only [List.mem_cons, List.not_mem_nil, or_false] at hu; rcases hu with rfl | rfl <;> rfl) (by unfold maxLen; omega) (by rw [hz2]; omega) (Nat.le_trans (Nat.le_trans HBS.out HBK.out.size) (below_lay _ _).size) ?_
                   intro A5 c5 w5 ho5 hb5 hg5)
      go_ret
      have hno := hno.out
      rw [List.take_of_length_le (by have := HNL.out; omega)] at hno
      have hp := Part.of_grown (S := fun i => (Value.slice A n c).ownBlock = some i) hg5.out fun k hk => hk
      refine ⟨(A5, n + 1, c5), rfl, ⟨?_, ?_, ?_⟩⟩
      · rw [skL_none hno, flatF_append]
        exact ho5.out
      · exact (Part.of_below (fun i => (Value.slice A n c).ownBlock = some i) (up HBK.out (below_lay _ _))).trans hp fun i hi => .inl hi
      · refine (ko_below (up HBK.out (below_lay _ _))).trans (KeepsOthers.of_grownBy hg5.out fun j2 o ej hj => ?_)
        obtain ⟨cv, f2, hcv⟩ := own_cells (own_step HOK.out (below_lay _ (.cells #[.int .u16 xo, .int .u16 xs] 66))) ej
        rw [hcv] at hj
        cases hj
        rfl
end Go.Proofs.Ytbkepkiaabeliaa
