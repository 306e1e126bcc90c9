/- Package topic: an item is handed to all but the party that it is from. -/
import Derived.Test.YtnbicbnighpkjaaYE
namespace Go.Proofs.Ytnbicbnighpkjaa
open Go.RowKit Go.Maps
set_option linter.unusedVariables false
set_option linter.unusedSimpArgs false

theorem fullP_ws (x : Pt) (s : ByteArray) (m : Int) : (fullP x s m).ws.length ≤ x.ws.length ∧ (fullB x s m = true → (fullP x s m).ws.length + 1 ≤ x.ws.length) ∧ (fullP x s m).lost ≤ x.lost + 1 := by
  unfold fullP fullB
  by_cases h0 : m = 0
  · rw [if_pos h0, if_pos h0]
    exact ⟨Nat.le_refl _, fun h => (by cases h), Nat.le_succ _⟩
  · rw [if_neg h0, if_neg h0]
    by_cases h1 : m = 1
    · rw [if_pos h1, if_pos h1]
      exact ⟨Nat.le_refl _, fun h => (by cases h), Nat.le_refl _⟩
    · rw [if_neg h1, if_neg h1]
      refine ⟨List.length_eraseIdx_le .., fun h => ?_, Nat.le_refl _⟩
      have := of_decide_eq_true h
      dsimp only
      rw [List.length_eraseIdx, if_pos this]
      omega
theorem takeP_ws (x : Pt) (room : Nat) (y : It) (h : x.ws.length ≤ room) : (takeP x room y).ws.length ≤ room ∧ (takeP x room y).lost ≤ x.lost + 1 := by
  unfold takeP
  cases x.sub y.tp with
  | none => exact ⟨h, Nat.le_succ _⟩
  | some z =>
    obtain ⟨m, fl⟩ := z
    dsimp only
    obtain ⟨f1, f2, f3⟩ := fullP_ws x y.tp m
    cases fl with
    | true => exact ⟨h, Nat.le_succ _⟩
    | false =>
      rw [if_neg (by decide)]
      by_cases h1 : x.ws.length < room
      · rw [if_pos h1]
        refine ⟨?_, Nat.le_succ _⟩
        dsimp only
        rw [List.length_append]
        exact h1
      · rw [if_neg h1]
        by_cases h2 : fullB x y.tp m = true
        · rw [if_pos h2]
          refine ⟨?_, f3⟩
          dsimp only
          rw [List.length_append]
          have := f2 h2
          exact Nat.le_trans this h
        · rw [if_neg h2]
          exact ⟨Nat.le_trans f1 h, f3⟩
/-- Is the item taken by that party? -/
def handB (M : Mo) (y : It) (n : Nat) : Bool := match M.P n with
  | some x => !((n : Int) == y.fr) && takeB x M.room y
  | none => false
def handN (M : Mo) (y : It) (k : Nat) : Nat := ((List.range k).filter (handB M y)).length
theorem handN_succ (M : Mo) (y : It) (k : Nat) : handN M y (k + 1) = handN M y k + if handB M y k = true then 1 else 0 := by
  unfold handN
  rw [List.range_succ, List.filter_append, List.length_append]
  cases h : handB M y k <;> simp [h]
theorem handN_le (M : Mo) (y : It) (k : Nat) : handN M y k ≤ k := by
  unfold handN
  have := List.length_filter_le (handB M y) (List.range k)
  rwa [List.length_range] at this
/-- The first k parties have been asked. -/
def handTo (M : Mo) (y : It) (k : Nat) : Mo := { M with P := fun n => if n < k ∧ (n : Int) ≠ y.fr then (M.P n).map fun x => takeP x M.room y else M.P n }
theorem handTo_zero (M : Mo) (y : It) : handTo M y 0 = M := by
  unfold handTo
  have : (fun (n : Nat) => if n < 0 ∧ (n : Int) ≠ y.fr then (M.P n).map (fun x => takeP x M.room y) else M.P n) = M.P := by
    funext n
    rw [if_neg (by omega)]
  rw [this]
theorem handTo_succ (M : Mo) (y : It) (k : Nat) : handTo M y (k + 1) = { handTo M y k with P := putN (handTo M y k).P k (if (k : Int) ≠ y.fr then (M.P k).map (fun x => takeP x M.room y) else M.P k) } := by
  unfold handTo putN
  congr 1
  funext n
  dsimp only
  by_cases e : n = k
  · subst e
    rw [if_pos rfl]
    by_cases h : (n : Int) ≠ y.fr
    · rw [if_pos ⟨by omega, h⟩, if_pos h]
    · rw [if_neg (fun q => h q.2), if_neg h]
  · rw [if_neg e]
    by_cases h : n < k ∧ (n : Int) ≠ y.fr
    · rw [if_pos ⟨by omega, h.2⟩, if_pos h]
    · rw [if_neg (fun q => h ⟨by omega, q.2⟩), if_neg h]
theorem handTo_at (M : Mo) (y : It) (k : Nat) : (handTo M y k).P k = M.P k := by
  unfold handTo
  dsimp only
  rw [if_neg (by omega)]
def HD (lo : Nat) (ow : Ow) (b : Nat) (M : Mo) (y : It) (W1 : World) (i : Nat) (wr : World) : Prop := RP lo ow W1 b (handTo M y i) wr
section
variable {lo : Nat} {ow : Ow} {R : Gr} {W : World}
theorem HD.same {b : Nat} {M : Mo} {y : It} {i : Nat} {W1 wr w' : World} (h : HD lo ow b M y W1 i wr) (hb : Below wr.heap.size wr w') (hx : M.P i = none ∨ (i : Int) = y.fr) : HD lo ow b M y W1 (i + 1) w' := by
  obtain ⟨ow', h1, h2, h3⟩ := h
  have : handTo M y (i + 1) = handTo M y i := by
    rw [handTo_succ]
    have hP : putN (handTo M y i).P i (if (i : Int) ≠ y.fr then (M.P i).map (fun x => takeP x M.room y) else M.P i) = (handTo M y i).P := putN_self (by
      rw [handTo_at]
      rcases hx with hx | hx
      · rw [hx]
        split <;> rfl
      · rw [if_neg (fun q => q hx)])
    rw [hP]
  unfold HD
  rw [this]
  exact ⟨ow', h1.step hb, h2, h3.trans (Part.of_below _ hb) fun k hk => .inl hk⟩
set_option maxHeartbeats 8000000 in
set_option maxRecDepth 1000000 in
theorem hand_any (h : RA lo ow R W) {y : Iv} (hy : IV ow W y) (hl : ∀ n m, R.P n = some m → m.lost + 1 ≤ R.u) (hu : R.u ≤ 100001) :
    Calls Try.prog 43 #[ptr R.b, .agg #[.string y.tp, .int .i64 y.fr, .int .i64 y.nu, .bool y.tx, .slice y.da.1 y.da.2.1 y.da.2.2]] W fun e w' => e = .returned (.int .i64 (handN R.mo y.it R.np : Nat)) ∧ RP lo ow W R.b (handTo R.mo y.it R.np) w' := by
  obtain ⟨yt, yf, yn, yx, ⟨y1, y2, y3⟩, yb⟩ := y
  dsimp only
  have hB1 := below_lay W (.cells #[.string yt, .int .i64 yf, .int .i64 yn, .bool yx, .slice y1 y2 y3] 49)
  have h1 := h.step hB1
  have hBo : ow W.heap.size = none := h.ok.free (Nat.le_refl _)
  have hbx : (W.alloc (.cells #[.string yt, .int .i64 yf, .int .i64 yn, .bool yx, .slice y1 y2 y3] 49)).heap[W.heap.size]? = some (.cells #[.string yt, .int .i64 yf, .int .i64 yn, .bool yx, .slice y1 y2 y3] 49) := heap_alloc_new W _
  have hy1 : IV ow (W.alloc (.cells #[.string yt, .int .i64 yf, .int .i64 yn, .bool yx, .slice y1 y2 y3] 49)) ⟨yt, yf, yn, yx, (y1, y2, y3), yb⟩ := ⟨hy.bs.step hB1, hy.ut.step (Ext.refl W ow) hB1.size, hy.le, hy.tl⟩
  have hnp := h.np
  have hrm := h.rm
  obtain ⟨d0, d1, d2, d3⟩ := h1.c0
  obtain ⟨T, hT⟩ : ∃ T, T = Iv.it ⟨yt, yf, yn, yx, (y1, y2, y3), yb⟩ := ⟨_, rfl⟩
  rw [← hT]
  have hTf : T.fr = yf := by rw [hT]; rfl
  have HD0 := keep (show HD lo ow R.b R.mo T (W.alloc (.cells #[.string yt, .int .i64 yf, .int .i64 yn, .bool yx, .slice y1 y2 y3] 49)) 0 (W.alloc (.cells #[.string yt, .int .i64 yf, .int .i64 yn, .bool yx, .slice y1 y2 y3] 49)) from by
    unfold HD
    rw [handTo_zero]
    exact RP.of h1.rl (Below.refl _ _))
  have HEND := keep (show ∀ w', HD lo ow R.b R.mo T (W.alloc (.cells #[.string yt, .int .i64 yf, .int .i64 yn, .bool yx, .slice y1 y2 y3] 49)) R.np w' → RP lo ow W R.b (handTo R.mo T R.np) w' from fun w' ⟨ow', q1, q2, q3⟩ => ⟨ow', q1, fun k hk => q2 k (Nat.lt_of_lt_of_le hk hB1.size), (Part.of_below _ hB1).trans q3 fun k hk => .inl hk⟩)
  have HX := keep (And.intro hBo (And.intro hbx (And.intro hy1 (And.intro hl (And.intro hu (And.intro hnp (And.intro hrm (And.intro h1.lt (And.intro h1.ob h1.hd)))))))))
  have HT := keep (And.intro hT hTf)
  have hn16 : (R.np : Int) ≤ 16 := by omega
  clear h h1 hy hy1 hB1 hl hu hnp hrm hBo hbx hT hTf d1 d2 d3
  unfold ptr
  go_enter Try.func43, Try.ntmps43
  go_wp2_with fail
  go_loopw [12, 5] (fun iv tv wr => ∃ i : Nat, iv = .int .i64 (i : Int) ∧ tv = .int .i64 (handN R.mo T i : Nat) ∧ i ≤ R.np ∧ Hid (HD lo ow R.b R.mo T (W.alloc (.cells #[.string yt, .int .i64 yf, .int .i64 yn, .bool yx, .slice y1 y2 y3] 49)) i wr)) (fun iv _ _ => R.np - (intOf iv).toNat)
  case atStart => exact ⟨0, rfl, rfl, Nat.zero_le _, HD0⟩
  case round =>
    obtain ⟨i, rfl, rfl, hi, hD⟩ := hrel
    by_cases hlt : i < R.np
    · have hltI : (i : Int) < (R.np : Int) := by omega
      obtain ⟨ow', ⟨R', hR, hRb, hRM⟩, hE, hP⟩ := hD.out
      have hnp' : R'.np = R.np := by have := congrArg Mo.np hRM; exact this
      have hrm' : R'.room = R.room := by have := congrArg Mo.room hRM; exact this
      have hu' : R'.u = R.u := by have := congrArg Mo.u hRM; exact this
      have hwf : (Lit.int .i64 (i : Int)).wf = true := by simp [Lit.wf, IntKind.min, IntKind.max, IntKind.signed, IntKind.bits]; omega
      have L := hR.look hwf wr rfl
      obtain ⟨c0, c1, c2, c3⟩ := hR.c0
      have hat : R'.at (i : Int) = R'.P i := by unfold Gr.at; rw [if_pos (by omega)]; rfl
      have hPi : (R'.P i).map Gm.pt = R.mo.P i := by
        have : R'.mo.P i = (handTo R.mo T i).P i := congrArg (fun M => M.P i) hRM
        rw [handTo_at] at this
        exact this
      have hj := R'.js_at (i : Int)
      rw [hat] at hj
      have hbw : wr.heap[W.heap.size]? = some (.cells #[.string yt, .int .i64 yf, .int .i64 yn, .bool yx, .slice y1 y2 y3] 49) := (hP.block W.heap.size (Array.getElem?_eq_some_iff.1 HX.out.2.1).1 (fun ⟨t, ht, _⟩ => by rw [HX.out.1] at ht; cases ht)).trans HX.out.2.1
      rw [hRb, hrm'] at c1
      rw [hRb] at c2
      have hn1 : handN R.mo T (i + 1) = handN R.mo T i + if handB R.mo T i = true then 1 else 0 := handN_succ ..
      have hnl := handN_le R.mo T i
      have hnI : (handN R.mo T i : Int) ≤ 16 := by omega
      have hw1 : IntKind.i64.wrap ((i : Int) + 1) = (i : Int) + 1 := IntWalk.i64_in _ (by omega)
      have hw2 : IntKind.i64.wrap ((handN R.mo T i : Int) + 1) = (handN R.mo T i : Int) + 1 := IntWalk.i64_in _ (by omega)
      have HSX := keep (show ∀ W' : World, W'.heap[R.b]? = wr.heap[R.b]? → W'.heap[W.heap.size]? = wr.heap[W.heap.size]? → W'.cell? ⟨R.b, 1, none⟩ = some (.int .i64 (R.room : Int)) ∧ W'.cell? ⟨W.heap.size, 0, none⟩ = some (.string yt) ∧ W'.cell? ⟨W.heap.size, 1, none⟩ = some (.int .i64 yf) ∧ W'.cell? ⟨W.heap.size, 2, none⟩ = some (.int .i64 yn) ∧ W'.cell? ⟨W.heap.size, 3, none⟩ = some (.bool yx) ∧ W'.cell? ⟨W.heap.size, 4, none⟩ = some (.slice y1 y2 y3) from fun W' g1 g2 => ⟨(World.cell?_of_block (a := ⟨R.b, 1, none⟩) g1).trans c1, upd_cell (g2.trans hbw) 0 _ rfl, upd_cell (g2.trans hbw) 1 _ rfl, upd_cell (g2.trans hbw) 2 _ rfl, upd_cell (g2.trans hbw) 3 _ rfl, upd_cell (g2.trans hbw) 4 _ rfl⟩)
      cases hm : R'.P i with
      | none =>
        rw [hm] at hj hPi
        rw [hj] at L
        dsimp only [Option.map, Option.getD] at L hPi
        have hb0 : handB R.mo T i = false := by unfold handB; rw [← hPi]
        have HN := keep (show handN R.mo T (i + 1) = handN R.mo T i by rw [hn1, hb0]; rfl)
        have HDN := keep (show ∀ w', Below wr.heap.size wr w' → HD lo ow R.b R.mo T (W.alloc (.cells #[.string yt, .int .i64 yf, .int .i64 yn, .bool yx, .slice y1 y2 y3] 49)) (i + 1) w' from fun w' hb => hD.out.same hb (.inl hPi.symm))
        have HLT := keep hlt
        clear hR hRM hE hP hnp' hrm' hu' hat hPi hj hbw hn1 hnl hb0 hm hwf hlt hD
        go_wp2_with fail
        refine wp_region_held_drew (S := (fun w' => w'.cell? ⟨R.b, 1, none⟩ = some (.int .i64 (R.room : Int)) ∧ w'.cell? ⟨W.heap.size, 0, none⟩ = some (.string yt) ∧ w'.cell? ⟨W.heap.size, 1, none⟩ = some (.int .i64 yf) ∧ w'.cell? ⟨W.heap.size, 2, none⟩ = some (.int .i64 yn) ∧ w'.cell? ⟨W.heap.size, 3, none⟩ = some (.bool yx) ∧ w'.cell? ⟨W.heap.size, 4, none⟩ = some (.slice y1 y2 y3))) (by kernel_rfl) (HSX.out _ rfl rfl) (fun hHeld => ?_)
        refine wpAnyH_take (i := 0) (oi := ⟨some 21, _, _, _, _, _⟩) (v := ?vn1x0) rfl (by kernel_rfl) (by kernel_rfl) (by kernel_rfl) (fun _ _ _ h => h) (Or.inl ⟨by rfl, ?hyn1x0⟩) (by assumption) ?restn1x0
        case hyn1x0 => (intro wz hSw; (try dsimp only at hSw); go_simp <;> (try with_reducible rfl))
        try simp only [Act.put, List.setIfInBounds_toArray, List.set_cons_zero, List.set_cons_succ]
        refine wpAnyH_take (i := 1) (oi := ⟨some 22, _, _, _, _, _⟩) (v := ?vn2x1) rfl (by kernel_rfl) (by kernel_rfl) (by kernel_rfl) (fun _ _ _ h => h) (Or.inl ⟨by rfl, ?hyn2x1⟩) (by assumption) ?restn2x1
        case hyn2x1 => (intro wz hSw; (try dsimp only at hSw); go_simp <;> (try with_reducible rfl))
        try simp only [Act.put, List.setIfInBounds_toArray, List.set_cons_zero, List.set_cons_succ]
        refine wpAnyH_take (i := 2) (oi := ⟨some 23, _, _, _, _, _⟩) (v := ?vn3x2) rfl (by kernel_rfl) (by kernel_rfl) (by kernel_rfl) (fun _ _ _ h => h) (Or.inl ⟨by rfl, ?hyn3x2⟩) (by assumption) ?restn3x2
        case hyn3x2 => (intro wz hSw; (try dsimp only at hSw); go_simp <;> (try with_reducible rfl))
        try simp only [Act.put, List.setIfInBounds_toArray, List.set_cons_zero, List.set_cons_succ]
        refine wpAnyH_take (i := 3) (oi := ⟨some 24, _, _, _, _, _⟩) (v := undef) rfl (by kernel_rfl) (by kernel_rfl) (by kernel_rfl) (fun _ _ _ h => h) (Or.inr ⟨by rfl, rfl⟩) (by assumption) ?_
        try simp only [Act.put, List.setIfInBounds_toArray, List.set_cons_zero, List.set_cons_succ]
        refine wpAnyH_take (i := 4) (oi := ⟨some 25, _, _, _, _, _⟩) (v := undef) rfl (by kernel_rfl) (by kernel_rfl) (by kernel_rfl) (fun _ _ _ h => h) (Or.inr ⟨by rfl, rfl⟩) (by assumption) ?_
        try simp only [Act.put, List.setIfInBounds_toArray, List.set_cons_zero, List.set_cons_succ]
        refine wpAnyH_take (i := 5) (oi := ⟨some 26, _, _, _, _, _⟩) (v := undef) rfl (by kernel_rfl) (by kernel_rfl) (by kernel_rfl) (fun _ _ _ h => h) (Or.inr ⟨by rfl, rfl⟩) (by assumption) ?_
        try simp only [Act.put, List.setIfInBounds_toArray, List.set_cons_zero, List.set_cons_succ]
        refine wpAnyH_take (i := 6) (oi := ⟨some 27, _, _, _, _, _⟩) (v := undef) rfl (by kernel_rfl) (by kernel_rfl) (by kernel_rfl) (fun _ _ _ h => h) (Or.inr ⟨by rfl, rfl⟩) (by assumption) ?_
        try simp only [Act.put, List.setIfInBounds_toArray, List.set_cons_zero, List.set_cons_succ]
        refine wpAnyH_take (i := 7) (oi := ⟨some 28, _, _, _, _, _⟩) (v := ?vn4x7) rfl (by kernel_rfl) (by kernel_rfl) (by kernel_rfl) (fun _ _ _ h => h) (Or.inl ⟨by rfl, ?hyn4x7⟩) (by assumption) ?restn4x7
        case hyn4x7 => (intro wz hSw; (try dsimp only at hSw); go_simp <;> (try with_reducible rfl))
        try simp only [Act.put, List.setIfInBounds_toArray, List.set_cons_zero, List.set_cons_succ]
        refine wpAnyH_take (i := 8) (oi := ⟨some 29, _, _, _, _, _⟩) (v := ?vn5x8) rfl (by kernel_rfl) (by kernel_rfl) (by kernel_rfl) (fun _ _ _ h => h) (Or.inl ⟨by rfl, ?hyn5x8⟩) (by assumption) ?restn5x8
        case hyn5x8 => (intro wz hSw; (try dsimp only at hSw); go_simp <;> (try with_reducible rfl))
        try simp only [Act.put, List.setIfInBounds_toArray, List.set_cons_zero, List.set_cons_succ]
        refine wpAnyH_take (i := 9) (oi := ⟨some 30, _, _, _, _, _⟩) (v := undef) rfl (by kernel_rfl) (by kernel_rfl) (by kernel_rfl) (fun _ _ _ h => h) (Or.inr ⟨by rfl, rfl⟩) (by assumption) ?_
        try simp only [Act.put, List.setIfInBounds_toArray, List.set_cons_zero, List.set_cons_succ]
        refine wpAnyH_take (i := 10) (oi := ⟨some 31, _, _, _, _, _⟩) (v := undef) rfl (by kernel_rfl) (by kernel_rfl) (by kernel_rfl) (fun _ _ _ h => h) (Or.inr ⟨by rfl, rfl⟩) (by assumption) ?_
        try simp only [Act.put, List.setIfInBounds_toArray, List.set_cons_zero, List.set_cons_succ]
        refine wpAnyH_take (i := 11) (oi := ⟨some 32, _, _, _, _, _⟩) (v := undef) rfl (by kernel_rfl) (by kernel_rfl) (by kernel_rfl) (fun _ _ _ h => h) (Or.inr ⟨by rfl, rfl⟩) (by assumption) ?_
        try simp only [Act.put, List.setIfInBounds_toArray, List.set_cons_zero, List.set_cons_succ]
        refine wpAnyH_take (i := 12) (oi := ⟨some 33, _, _, _, _, _⟩) (v := undef) rfl (by kernel_rfl) (by kernel_rfl) (by kernel_rfl) (fun _ _ _ h => h) (Or.inr ⟨by rfl, rfl⟩) (by assumption) ?_
        try simp only [Act.put, List.setIfInBounds_toArray, List.set_cons_zero, List.set_cons_succ]
        refine wpAnyH_take (i := 13) (oi := ⟨some 34, _, _, _, _, _⟩) (v := undef) rfl (by kernel_rfl) (by kernel_rfl) (by kernel_rfl) (fun _ _ _ h => h) (Or.inr ⟨by rfl, rfl⟩) (by assumption) ?_
        try simp only [Act.put, List.setIfInBounds_toArray, List.set_cons_zero, List.set_cons_succ]
        refine wpAnyH_take (i := 14) (oi := ⟨some 35, _, _, _, _, _⟩) (v := undef) rfl (by kernel_rfl) (by kernel_rfl) (by kernel_rfl) (fun _ _ _ h => h) (Or.inr ⟨by rfl, rfl⟩) (by assumption) ?_
        try simp only [Act.put, List.setIfInBounds_toArray, List.set_cons_zero, List.set_cons_succ]
        refine wpAnyH_take (i := 15) (oi := ⟨some 36, _, _, _, _, _⟩) (v := undef) rfl (by kernel_rfl) (by kernel_rfl) (by kernel_rfl) (fun _ _ _ h => h) (Or.inr ⟨by rfl, rfl⟩) (by assumption) ?_
        try simp only [Act.put, List.setIfInBounds_toArray, List.set_cons_zero, List.set_cons_succ]
        refine wpAnyH_take (i := 16) (oi := ⟨some 37, _, _, _, _, _⟩) (v := ?vn6x16) rfl (by kernel_rfl) (by kernel_rfl) (by kernel_rfl) (fun _ _ _ h => h) (Or.inl ⟨by rfl, ?hyn6x16⟩) (by assumption) ?restn6x16
        case hyn6x16 => (intro wz hSw; (try dsimp only at hSw); go_simp <;> (try with_reducible rfl))
        try simp only [Act.put, List.setIfInBounds_toArray, List.set_cons_zero, List.set_cons_succ]
        refine wpAnyH_done (by kernel_rfl) ?_ _
        go_wp2
        go_roundw
        case rel => exact ⟨i + 1, by simp, by rw [HN.out], HLT.out, keep (HDN.out _ (Below.refl _ wr).drew)⟩
        all_goals (have := HLT.out; simp [intOf]; omega)
      | some m =>
        rw [hm] at hj hPi
        rw [hj] at L
        dsimp only [Option.map, Option.getD] at L hPi
        by_cases hfr : (i : Int) = yf
        · have hb0 : handB R.mo T i = false := by unfold handB; rw [← hPi]; dsimp only; rw [HT.out.2, hfr]; simp
          have HN := keep (show handN R.mo T (i + 1) = handN R.mo T i by rw [hn1, hb0]; rfl)
          have HDN := keep (show ∀ w', Below wr.heap.size wr w' → HD lo ow R.b R.mo T (W.alloc (.cells #[.string yt, .int .i64 yf, .int .i64 yn, .bool yx, .slice y1 y2 y3] 49)) (i + 1) w' from fun w' hb => hD.out.same hb (.inr (hfr.trans HT.out.2.symm)))
          have HLT := keep hlt
          have hneq : ((i : Int) != yf) = false := by rw [hfr]; simp
          have hneq2 : ((i : Int) == yf) = true := by rw [hfr]; simp
          clear hR hRM hE hP hnp' hrm' hu' hat hPi hj hbw hn1 hnl hb0 hm hwf hlt hD hfr
          unfold ptr at L
          go_wp2_with fail
          refine wp_region_held_drew (S := (fun w' => w'.cell? ⟨R.b, 1, none⟩ = some (.int .i64 (R.room : Int)) ∧ w'.cell? ⟨W.heap.size, 0, none⟩ = some (.string yt) ∧ w'.cell? ⟨W.heap.size, 1, none⟩ = some (.int .i64 yf) ∧ w'.cell? ⟨W.heap.size, 2, none⟩ = some (.int .i64 yn) ∧ w'.cell? ⟨W.heap.size, 3, none⟩ = some (.bool yx) ∧ w'.cell? ⟨W.heap.size, 4, none⟩ = some (.slice y1 y2 y3))) (by kernel_rfl) (HSX.out _ rfl rfl) (fun hHeld => ?_)
          refine wpAnyH_take (i := 0) (oi := ⟨some 21, _, _, _, _, _⟩) (v := ?vf1x0) rfl (by kernel_rfl) (by kernel_rfl) (by kernel_rfl) (fun _ _ _ h => h) (Or.inl ⟨by rfl, ?hyf1x0⟩) (by assumption) ?restf1x0
          case hyf1x0 => (intro wz hSw; (try dsimp only at hSw); go_simp <;> (try with_reducible rfl))
          try simp only [Act.put, List.setIfInBounds_toArray, List.set_cons_zero, List.set_cons_succ]
          refine wpAnyH_take (i := 1) (oi := ⟨some 22, _, _, _, _, _⟩) (v := ?vf2x1) rfl (by kernel_rfl) (by kernel_rfl) (by kernel_rfl) (fun _ _ _ h => h) (Or.inl ⟨by rfl, ?hyf2x1⟩) (by assumption) ?restf2x1
          case hyf2x1 => (intro wz hSw; (try dsimp only at hSw); go_simp <;> (try with_reducible rfl))
          try simp only [Act.put, List.setIfInBounds_toArray, List.set_cons_zero, List.set_cons_succ]
          refine wpAnyH_take (i := 2) (oi := ⟨some 23, _, _, _, _, _⟩) (v := ?vf3x2) rfl (by kernel_rfl) (by kernel_rfl) (by kernel_rfl) (fun _ _ _ h => h) (Or.inl ⟨by rfl, ?hyf3x2⟩) (by assumption) ?restf3x2
          case hyf3x2 => (intro wz hSw; (try dsimp only at hSw); go_simp <;> (try with_reducible rfl))
          try simp only [Act.put, List.setIfInBounds_toArray, List.set_cons_zero, List.set_cons_succ]
          refine wpAnyH_take (i := 3) (oi := ⟨some 24, _, _, _, _, _⟩) (v := ?vf4x3) rfl (by kernel_rfl) (by kernel_rfl) (by kernel_rfl) (fun _ _ _ h => h) (Or.inl ⟨by rfl, ?hyf4x3⟩) (by assumption) ?restf4x3
          case hyf4x3 => (intro wz hSw; (try dsimp only at hSw); go_simp <;> (try with_reducible rfl))
          try simp only [Act.put, List.setIfInBounds_toArray, List.set_cons_zero, List.set_cons_succ]
          refine wpAnyH_take (i := 4) (oi := ⟨some 25, _, _, _, _, _⟩) (v := ?vf5x4) rfl (by kernel_rfl) (by kernel_rfl) (by kernel_rfl) (fun _ _ _ h => h) (Or.inl ⟨by rfl, ?hyf5x4⟩) (by assumption) ?restf5x4
          case hyf5x4 => (intro wz hSw; (try dsimp only at hSw); go_simp <;> (try with_reducible rfl))
          try simp only [Act.put, List.setIfInBounds_toArray, List.set_cons_zero, List.set_cons_succ]
          refine wpAnyH_take (i := 5) (oi := ⟨some 26, _, _, _, _, _⟩) (v := ?vf6x5) rfl (by kernel_rfl) (by kernel_rfl) (by kernel_rfl) (fun _ _ _ h => h) (Or.inl ⟨by rfl, ?hyf6x5⟩) (by assumption) ?restf6x5
          case hyf6x5 => (intro wz hSw; (try dsimp only at hSw); go_simp <;> (try with_reducible rfl))
          try simp only [Act.put, List.setIfInBounds_toArray, List.set_cons_zero, List.set_cons_succ]
          refine wpAnyH_take (i := 6) (oi := ⟨some 27, _, _, _, _, _⟩) (v := ?vf7x6) rfl (by kernel_rfl) (by kernel_rfl) (by kernel_rfl) (fun _ _ _ h => h) (Or.inl ⟨by rfl, ?hyf7x6⟩) (by assumption) ?restf7x6
          case hyf7x6 => (intro wz hSw; (try dsimp only at hSw); go_simp <;> (try with_reducible rfl))
          try simp only [Act.put, List.setIfInBounds_toArray, List.set_cons_zero, List.set_cons_succ]
          refine wpAnyH_take (i := 7) (oi := ⟨some 28, _, _, _, _, _⟩) (v := ?vf8x7) rfl (by kernel_rfl) (by kernel_rfl) (by kernel_rfl) (fun _ _ _ h => h) (Or.inl ⟨by rfl, ?hyf8x7⟩) (by assumption) ?restf8x7
          case hyf8x7 => (intro wz hSw; (try dsimp only at hSw); go_simp <;> (try with_reducible rfl))
          try simp only [Act.put, List.setIfInBounds_toArray, List.set_cons_zero, List.set_cons_succ]
          refine wpAnyH_take (i := 8) (oi := ⟨some 29, _, _, _, _, _⟩) (v := ?vf9x8) rfl (by kernel_rfl) (by kernel_rfl) (by kernel_rfl) (fun _ _ _ h => h) (Or.inl ⟨by rfl, ?hyf9x8⟩) (by assumption) ?restf9x8
          case hyf9x8 => (intro wz hSw; (try dsimp only at hSw); go_simp <;> (try with_reducible rfl))
          try simp only [Act.put, List.setIfInBounds_toArray, List.set_cons_zero, List.set_cons_succ]
          refine wpAnyH_take (i := 9) (oi := ⟨some 30, _, _, _, _, _⟩) (v := undef) rfl (by kernel_rfl) (by kernel_rfl) (by kernel_rfl) (fun _ _ _ h => h) (Or.inr ⟨by rfl, rfl⟩) (by assumption) ?_
          try simp only [Act.put, List.setIfInBounds_toArray, List.set_cons_zero, List.set_cons_succ]
          refine wpAnyH_take (i := 10) (oi := ⟨some 31, _, _, _, _, _⟩) (v := undef) rfl (by kernel_rfl) (by kernel_rfl) (by kernel_rfl) (fun _ _ _ h => h) (Or.inr ⟨by rfl, rfl⟩) (by assumption) ?_
          try simp only [Act.put, List.setIfInBounds_toArray, List.set_cons_zero, List.set_cons_succ]
          refine wpAnyH_take (i := 11) (oi := ⟨some 32, _, _, _, _, _⟩) (v := undef) rfl (by kernel_rfl) (by kernel_rfl) (by kernel_rfl) (fun _ _ _ h => h) (Or.inr ⟨by rfl, rfl⟩) (by assumption) ?_
          try simp only [Act.put, List.setIfInBounds_toArray, List.set_cons_zero, List.set_cons_succ]
          refine wpAnyH_take (i := 12) (oi := ⟨some 33, _, _, _, _, _⟩) (v := undef) rfl (by kernel_rfl) (by kernel_rfl) (by kernel_rfl) (fun _ _ _ h => h) (Or.inr ⟨by rfl, rfl⟩) (by assumption) ?_
          try simp only [Act.put, List.setIfInBounds_toArray, List.set_cons_zero, List.set_cons_succ]
          refine wpAnyH_take (i := 13) (oi := ⟨some 34, _, _, _, _, _⟩) (v := undef) rfl (by kernel_rfl) (by kernel_rfl) (by kernel_rfl) (fun _ _ _ h => h) (Or.inr ⟨by rfl, rfl⟩) (by assumption) ?_
          try simp only [Act.put, List.setIfInBounds_toArray, List.set_cons_zero, List.set_cons_succ]
          refine wpAnyH_take (i := 14) (oi := ⟨some 35, _, _, _, _, _⟩) (v := undef) rfl (by kernel_rfl) (by kernel_rfl) (by kernel_rfl) (fun _ _ _ h => h) (Or.inr ⟨by rfl, rfl⟩) (by assumption) ?_
          try simp only [Act.put, List.setIfInBounds_toArray, List.set_cons_zero, List.set_cons_succ]
          refine wpAnyH_take (i := 15) (oi := ⟨some 36, _, _, _, _, _⟩) (v := undef) rfl (by kernel_rfl) (by kernel_rfl) (by kernel_rfl) (fun _ _ _ h => h) (Or.inr ⟨by rfl, rfl⟩) (by assumption) ?_
          try simp only [Act.put, List.setIfInBounds_toArray, List.set_cons_zero, List.set_cons_succ]
          refine wpAnyH_take (i := 16) (oi := ⟨some 37, _, _, _, _, _⟩) (v := ?vf10x16) rfl (by kernel_rfl) (by kernel_rfl) (by kernel_rfl) (fun _ _ _ h => h) (Or.inl ⟨by rfl, ?hyf10x16⟩) (by assumption) ?restf10x16
          case hyf10x16 => (intro wz hSw; (try dsimp only at hSw); go_simp <;> (try with_reducible rfl))
          try simp only [Act.put, List.setIfInBounds_toArray, List.set_cons_zero, List.set_cons_succ]
          refine wpAnyH_done (by kernel_rfl) ?_ _
          go_wp2
          go_roundw
          case rel => exact ⟨i + 1, by simp, by rw [HN.out], HLT.out, keep (HDN.out _ (Below.refl _ wr).drew)⟩
          all_goals (have := HLT.out; simp [intOf]; omega)
        · have hne : ((i : Int) == T.fr) = false := by rw [HT.out.2]; simpa using hfr
          have hb0 : handB R.mo T i = takeB m.pt R.room T := by unfold handB; rw [← hPi]; dsimp only; rw [hne]; rfl
          obtain ⟨z1, z2, z3, z4⟩ := hR.ms i m hm
          have hl0 : m.lost + 1 ≤ R.u := by
            cases hm0 : R.P i with
            | none =>
              have hz : R.mo.P i = none := by unfold Gr.mo; dsimp only; rw [hm0]; rfl
              rw [hz] at hPi
              cases hPi
            | some m0 =>
              have hz : R.mo.P i = some m0.pt := by unfold Gr.mo; dsimp only; rw [hm0]; rfl
              rw [hz] at hPi
              injection hPi with hPi
              have h9 := HX.out.2.2.2.1 i m0 hm0
              have h8 := congrArg Pt.lost hPi
              unfold Gm.pt at h8
              dsimp only at h8
              omega
          have hl9 : R.u ≤ 100001 := HX.out.2.2.2.2.1
          have b2 := (Below.refl wr.heap.size wr).drew
          have hyw : IV ow' (World.drew wr) ⟨yt, yf, yn, yx, (y1, y2, y3), yb⟩ := HX.out.2.2.1.step (hP.trans (Part.of_below (All ow) b2) fun k hk => .inl hk) (fun k hk => hk.nd) hE
          have hMd := z1.step b2
          have hOd := hR.ok.step b2.size
          have hrr : 1 ≤ R.room ∧ R.room ≤ 64 := HX.out.2.2.2.2.2.2.1
          have hwl : m.pt.ws.length = m.ws.length := by unfold Gm.pt; dsimp only; rw [List.length_map]
          have hTW := takeP_ws m.pt R.room T (by omega)
          have hTI : Iv.it ⟨yt, yf, yn, yx, (y1, y2, y3), yb⟩ = T := HT.out.1.symm
          have hx9 : (handTo R.mo T i).P i = some m.pt := by rw [handTo_at]; exact hPi.symm
          have HTP := keep (show ∀ w', MP lo i ow' (World.drew wr) m (takeP m.pt R.room T) w' → HD lo ow R.b R.mo T (W.alloc (.cells #[.string yt, .int .i64 yf, .int .i64 yn, .bool yx, .slice y1 y2 y3] 49)) (i + 1) w' ∧ w'.heap[R.b]? = wr.heap[R.b]? ∧ w'.heap[W.heap.size]? = wr.heap[W.heap.size]? from fun w' hM => by
            have hnb : ∀ {k : Nat} {t : Tag}, ow' k = some t → t.who = none → ¬ Of ow' i k := fun hk ht ⟨t', hk', ht'⟩ => by rw [hk] at hk'; injection hk' with hk'; rw [hk', ht'] at ht; cases ht
            have hob := hR.ob
            have hltb := hR.lt
            rw [hRb] at hob hltb
            have hB9 : W.heap.size < wr.heap.size := (Array.getElem?_eq_some_iff.1 hbw).1
            have hB8 : ow' W.heap.size = none := (hE _ (Array.getElem?_eq_some_iff.1 HX.out.2.1).1).trans HX.out.1
            obtain ⟨ow2, m2, k1, k2, k3, k4, k5, k6⟩ := hM
            refine ⟨?_, k4.block _ hltb (hnb hob rfl), k4.block _ hB9 (fun ⟨t, ht, _⟩ => by rw [hB8] at ht; cases ht)⟩
            have := (hR.step b2).turn hm ⟨ow2, m2, k1, k2, k3, k4, k5, k6⟩ (by rw [hrm']; exact hTW.1) (by rw [hu']; have := hTW.2; have h7 : m.pt.lost = m.lost := rfl; omega)
            rw [hRM, hRb] at this
            unfold HD
            rw [handTo_succ, if_pos (fun e => hfr (e.trans HT.out.2)), ← hPi]
            exact RP.then hE (hP.trans (Part.of_below _ b2) fun k hk => .inl hk) this)
          have KT := keep ((take_any hMd hOd (Nat.le_trans hR.lo b2.size) hyw hrr (by omega) (by rw [hrm'] at z3; exact z3)).mono fun e w' ⟨g1, g2⟩ => (⟨g1, HTP.out w' (by rw [hTI] at g2; exact g2)⟩ : e = Ending.returned (.bool (takeB m.pt R.room (Iv.it ⟨yt, yf, yn, yx, (y1, y2, y3), yb⟩))) ∧ HD lo ow R.b R.mo T (W.alloc (.cells #[.string yt, .int .i64 yf, .int .i64 yn, .bool yx, .slice y1 y2 y3] 49)) (i + 1) w' ∧ w'.heap[R.b]? = wr.heap[R.b]? ∧ w'.heap[W.heap.size]? = wr.heap[W.heap.size]?))
          rw [hTI] at KT
          obtain ⟨q, hq⟩ : ∃ q, takeB m.pt R.room T = q := ⟨_, rfl⟩
          rw [hq] at KT hb0
          have HN := keep (show handN R.mo T (i + 1) = handN R.mo T i + if q = true then 1 else 0 by rw [hn1, hb0])
          have HLT := keep hlt
          have hneq : ((i : Int) != yf) = true := by simpa using hfr
          have hneq2 : ((i : Int) == yf) = false := by simpa using hfr
          clear hR hRM hE hP hnp' hrm' hu' hat hPi hj hbw hn1 hnl hb0 hm hwf hlt hD hfr hne z1 z2 z3 z4 hl0 hl9 hyw b2 hMd hOd hrr hwl hTW hTI hx9 HTP hq
          obtain ⟨mb, hmb⟩ : ∃ mb, m.b = mb := ⟨_, rfl⟩
          unfold ptr at L KT
          dsimp only at KT
          rw [hmb] at L KT
          clear hmb
          cases q with
          | false =>
            go_wp2_with fail
            refine wp_region_held_drew (S := (fun w' => w'.cell? ⟨R.b, 1, none⟩ = some (.int .i64 (R.room : Int)) ∧ w'.cell? ⟨W.heap.size, 0, none⟩ = some (.string yt) ∧ w'.cell? ⟨W.heap.size, 1, none⟩ = some (.int .i64 yf) ∧ w'.cell? ⟨W.heap.size, 2, none⟩ = some (.int .i64 yn) ∧ w'.cell? ⟨W.heap.size, 3, none⟩ = some (.bool yx) ∧ w'.cell? ⟨W.heap.size, 4, none⟩ = some (.slice y1 y2 y3))) (by kernel_rfl) (HSX.out _ rfl rfl) (fun hHeld => ?_)
            refine wpAnyH_take (i := 0) (oi := ⟨some 21, _, _, _, _, _⟩) (v := ?vt11x0) rfl (by kernel_rfl) (by kernel_rfl) (by kernel_rfl) (fun _ _ _ h => h) (Or.inl ⟨by rfl, ?hyt11x0⟩) (by assumption) ?restt11x0
            case hyt11x0 => (intro wz hSw; (try dsimp only at hSw); go_simp <;> (try with_reducible rfl))
            try simp only [Act.put, List.setIfInBounds_toArray, List.set_cons_zero, List.set_cons_succ]
            refine wpAnyH_take (i := 1) (oi := ⟨some 22, _, _, _, _, _⟩) (v := ?vt12x1) rfl (by kernel_rfl) (by kernel_rfl) (by kernel_rfl) (fun _ _ _ h => h) (Or.inl ⟨by rfl, ?hyt12x1⟩) (by assumption) ?restt12x1
            case hyt12x1 => (intro wz hSw; (try dsimp only at hSw); go_simp <;> (try with_reducible rfl))
            try simp only [Act.put, List.setIfInBounds_toArray, List.set_cons_zero, List.set_cons_succ]
            refine wpAnyH_take (i := 2) (oi := ⟨some 23, _, _, _, _, _⟩) (v := ?vt13x2) rfl (by kernel_rfl) (by kernel_rfl) (by kernel_rfl) (fun _ _ _ h => h) (Or.inl ⟨by rfl, ?hyt13x2⟩) (by assumption) ?restt13x2
            case hyt13x2 => (intro wz hSw; (try dsimp only at hSw); go_simp <;> (try with_reducible rfl))
            try simp only [Act.put, List.setIfInBounds_toArray, List.set_cons_zero, List.set_cons_succ]
            refine wpAnyH_take (i := 3) (oi := ⟨some 24, _, _, _, _, _⟩) (v := ?vt14x3) rfl (by kernel_rfl) (by kernel_rfl) (by kernel_rfl) (fun _ _ _ h => h) (Or.inl ⟨by rfl, ?hyt14x3⟩) (by assumption) ?restt14x3
            case hyt14x3 => (intro wz hSw; (try dsimp only at hSw); go_simp <;> (try with_reducible rfl))
            try simp only [Act.put, List.setIfInBounds_toArray, List.set_cons_zero, List.set_cons_succ]
            refine wpAnyH_take (i := 4) (oi := ⟨some 25, _, _, _, _, _⟩) (v := ?vt15x4) rfl (by kernel_rfl) (by kernel_rfl) (by kernel_rfl) (fun _ _ _ h => h) (Or.inl ⟨by rfl, ?hyt15x4⟩) (by assumption) ?restt15x4
            case hyt15x4 => (intro wz hSw; (try dsimp only at hSw); go_simp <;> (try with_reducible rfl))
            try simp only [Act.put, List.setIfInBounds_toArray, List.set_cons_zero, List.set_cons_succ]
            refine wpAnyH_take (i := 5) (oi := ⟨some 26, _, _, _, _, _⟩) (v := ?vt16x5) rfl (by kernel_rfl) (by kernel_rfl) (by kernel_rfl) (fun _ _ _ h => h) (Or.inl ⟨by rfl, ?hyt16x5⟩) (by assumption) ?restt16x5
            case hyt16x5 => (intro wz hSw; (try dsimp only at hSw); go_simp <;> (try with_reducible rfl))
            try simp only [Act.put, List.setIfInBounds_toArray, List.set_cons_zero, List.set_cons_succ]
            refine wpAnyH_take (i := 6) (oi := ⟨some 27, _, _, _, _, _⟩) (v := ?vt17x6) rfl (by kernel_rfl) (by kernel_rfl) (by kernel_rfl) (fun _ _ _ h => h) (Or.inl ⟨by rfl, ?hyt17x6⟩) (by assumption) ?restt17x6
            case hyt17x6 => (intro wz hSw; (try dsimp only at hSw); go_simp <;> (try with_reducible rfl))
            try simp only [Act.put, List.setIfInBounds_toArray, List.set_cons_zero, List.set_cons_succ]
            refine wpAnyH_take (i := 7) (oi := ⟨some 28, _, _, _, _, _⟩) (v := ?vt18x7) rfl (by kernel_rfl) (by kernel_rfl) (by kernel_rfl) (fun _ _ _ h => h) (Or.inl ⟨by rfl, ?hyt18x7⟩) (by assumption) ?restt18x7
            case hyt18x7 => (intro wz hSw; (try dsimp only at hSw); go_simp <;> (try with_reducible rfl))
            try simp only [Act.put, List.setIfInBounds_toArray, List.set_cons_zero, List.set_cons_succ]
            refine wpAnyH_take (i := 8) (oi := ⟨some 29, _, _, _, _, _⟩) (v := ?vt19x8) rfl (by kernel_rfl) (by kernel_rfl) (by kernel_rfl) (fun _ _ _ h => h) (Or.inl ⟨by rfl, ?hyt19x8⟩) (by assumption) ?restt19x8
            case hyt19x8 => (intro wz hSw; (try dsimp only at hSw); go_simp <;> (try with_reducible rfl))
            try simp only [Act.put, List.setIfInBounds_toArray, List.set_cons_zero, List.set_cons_succ]
            refine wpAnyH_take (i := 9) (oi := ⟨some 30, _, _, _, _, _⟩) (v := ?vt110x9) rfl (by kernel_rfl) (by kernel_rfl) (by kernel_rfl) (fun _ _ _ h => h) (Or.inl ⟨by rfl, ?hyt110x9⟩) (by assumption) ?restt110x9
            case hyt110x9 => (intro wz hSw; (try dsimp only at hSw); go_simp <;> (try with_reducible rfl))
            try simp only [Act.put, List.setIfInBounds_toArray, List.set_cons_zero, List.set_cons_succ]
            refine wpAnyH_take (i := 10) (oi := ⟨some 31, _, _, _, _, _⟩) (v := ?vt111x10) rfl (by kernel_rfl) (by kernel_rfl) (by kernel_rfl) (fun _ _ _ h => h) (Or.inl ⟨by rfl, ?hyt111x10⟩) (by assumption) ?restt111x10
            case hyt111x10 => (intro wz hSw; (try dsimp only at hSw); go_simp <;> (try with_reducible rfl))
            try simp only [Act.put, List.setIfInBounds_toArray, List.set_cons_zero, List.set_cons_succ]
            refine wpAnyH_take (i := 11) (oi := ⟨some 32, _, _, _, _, _⟩) (v := ?vt112x11) rfl (by kernel_rfl) (by kernel_rfl) (by kernel_rfl) (fun _ _ _ h => h) (Or.inl ⟨by rfl, ?hyt112x11⟩) (by assumption) ?restt112x11
            case hyt112x11 => (intro wz hSw; (try dsimp only at hSw); go_simp <;> (try with_reducible rfl))
            try simp only [Act.put, List.setIfInBounds_toArray, List.set_cons_zero, List.set_cons_succ]
            refine wpAnyH_take (i := 12) (oi := ⟨some 33, _, _, _, _, _⟩) (v := ?vt113x12) rfl (by kernel_rfl) (by kernel_rfl) (by kernel_rfl) (fun _ _ _ h => h) (Or.inl ⟨by rfl, ?hyt113x12⟩) (by assumption) ?restt113x12
            case hyt113x12 => (intro wz hSw; (try dsimp only at hSw); go_simp <;> (try with_reducible rfl))
            try simp only [Act.put, List.setIfInBounds_toArray, List.set_cons_zero, List.set_cons_succ]
            refine wpAnyH_take (i := 13) (oi := ⟨some 34, _, _, _, _, _⟩) (v := ?vt114x13) rfl (by kernel_rfl) (by kernel_rfl) (by kernel_rfl) (fun _ _ _ h => h) (Or.inl ⟨by rfl, ?hyt114x13⟩) (by assumption) ?restt114x13
            case hyt114x13 => (intro wz hSw; (try dsimp only at hSw); go_simp <;> (try with_reducible rfl))
            try simp only [Act.put, List.setIfInBounds_toArray, List.set_cons_zero, List.set_cons_succ]
            refine wpAnyH_take (i := 14) (oi := ⟨some 35, _, _, _, _, _⟩) (v := ?vt115x14) rfl (by kernel_rfl) (by kernel_rfl) (by kernel_rfl) (fun _ _ _ h => h) (Or.inl ⟨by rfl, ?hyt115x14⟩) (by assumption) ?restt115x14
            case hyt115x14 => (intro wz hSw; (try dsimp only at hSw); go_simp <;> (try with_reducible rfl))
            try simp only [Act.put, List.setIfInBounds_toArray, List.set_cons_zero, List.set_cons_succ]
            refine wpAnyH_ready (rs := [15]) (by kernel_rfl) (by simp) (AllReadyH.cons (o := ⟨some 36, _, _, _, _, _⟩) rfl (fun K hK => ?_) AllReadyH.nil)
            go_simp
            go_at_call 49
            refine KT.out.mono ?_
            rintro e w2 ⟨rfl, hDX, g1, g2⟩
            have HDX0 := keep hDX
            have HDX := keep (show HD lo ow R.b R.mo T (W.alloc (.cells #[.string yt, .int .i64 yf, .int .i64 yn, .bool yx, .slice y1 y2 y3] 49)) (i + 1) w2 from HDX0.out)
            have HS9 := keep (HSX.out w2 g1 g2)
            clear hDX g1 g2 HDX0
            (try go_wp2_with fail)
            refine hK.out _ _ HS9.out (fun hHeld => ?_)
            clear hK K
            try simp only [Act.put, List.setIfInBounds_toArray, List.set_cons_zero, List.set_cons_succ]
            refine wpAnyH_take (i := 16) (oi := ⟨some 37, _, _, _, _, _⟩) (v := ?vt116x16) rfl (by kernel_rfl) (by kernel_rfl) (by kernel_rfl) (fun _ _ _ h => h) (Or.inl ⟨by rfl, ?hyt116x16⟩) (by assumption) ?restt116x16
            case hyt116x16 => (intro wz hSw; (try dsimp only at hSw); go_simp <;> (try with_reducible rfl))
            try simp only [Act.put, List.setIfInBounds_toArray, List.set_cons_zero, List.set_cons_succ]
            refine wpAnyH_done (by kernel_rfl) ?_ _
            go_wp2
            go_roundw
            case rel => exact ⟨i + 1, by simp, by rw [HN.out]; rfl, HLT.out, HDX⟩
            all_goals (have := HLT.out; simp [intOf]; omega)
          | true =>
            go_wp2_with fail
            refine wp_region_held_drew (S := (fun w' => w'.cell? ⟨R.b, 1, none⟩ = some (.int .i64 (R.room : Int)) ∧ w'.cell? ⟨W.heap.size, 0, none⟩ = some (.string yt) ∧ w'.cell? ⟨W.heap.size, 1, none⟩ = some (.int .i64 yf) ∧ w'.cell? ⟨W.heap.size, 2, none⟩ = some (.int .i64 yn) ∧ w'.cell? ⟨W.heap.size, 3, none⟩ = some (.bool yx) ∧ w'.cell? ⟨W.heap.size, 4, none⟩ = some (.slice y1 y2 y3))) (by kernel_rfl) (HSX.out _ rfl rfl) (fun hHeld => ?_)
            refine wpAnyH_take (i := 0) (oi := ⟨some 21, _, _, _, _, _⟩) (v := ?vt21x0) rfl (by kernel_rfl) (by kernel_rfl) (by kernel_rfl) (fun _ _ _ h => h) (Or.inl ⟨by rfl, ?hyt21x0⟩) (by assumption) ?restt21x0
            case hyt21x0 => (intro wz hSw; (try dsimp only at hSw); go_simp <;> (try with_reducible rfl))
            try simp only [Act.put, List.setIfInBounds_toArray, List.set_cons_zero, List.set_cons_succ]
            refine wpAnyH_take (i := 1) (oi := ⟨some 22, _, _, _, _, _⟩) (v := ?vt22x1) rfl (by kernel_rfl) (by kernel_rfl) (by kernel_rfl) (fun _ _ _ h => h) (Or.inl ⟨by rfl, ?hyt22x1⟩) (by assumption) ?restt22x1
            case hyt22x1 => (intro wz hSw; (try dsimp only at hSw); go_simp <;> (try with_reducible rfl))
            try simp only [Act.put, List.setIfInBounds_toArray, List.set_cons_zero, List.set_cons_succ]
            refine wpAnyH_take (i := 2) (oi := ⟨some 23, _, _, _, _, _⟩) (v := ?vt23x2) rfl (by kernel_rfl) (by kernel_rfl) (by kernel_rfl) (fun _ _ _ h => h) (Or.inl ⟨by rfl, ?hyt23x2⟩) (by assumption) ?restt23x2
            case hyt23x2 => (intro wz hSw; (try dsimp only at hSw); go_simp <;> (try with_reducible rfl))
            try simp only [Act.put, List.setIfInBounds_toArray, List.set_cons_zero, List.set_cons_succ]
            refine wpAnyH_take (i := 3) (oi := ⟨some 24, _, _, _, _, _⟩) (v := ?vt24x3) rfl (by kernel_rfl) (by kernel_rfl) (by kernel_rfl) (fun _ _ _ h => h) (Or.inl ⟨by rfl, ?hyt24x3⟩) (by assumption) ?restt24x3
            case hyt24x3 => (intro wz hSw; (try dsimp only at hSw); go_simp <;> (try with_reducible rfl))
            try simp only [Act.put, List.setIfInBounds_toArray, List.set_cons_zero, List.set_cons_succ]
            refine wpAnyH_take (i := 4) (oi := ⟨some 25, _, _, _, _, _⟩) (v := ?vt25x4) rfl (by kernel_rfl) (by kernel_rfl) (by kernel_rfl) (fun _ _ _ h => h) (Or.inl ⟨by rfl, ?hyt25x4⟩) (by assumption) ?restt25x4
            case hyt25x4 => (intro wz hSw; (try dsimp only at hSw); go_simp <;> (try with_reducible rfl))
            try simp only [Act.put, List.setIfInBounds_toArray, List.set_cons_zero, List.set_cons_succ]
            refine wpAnyH_take (i := 5) (oi := ⟨some 26, _, _, _, _, _⟩) (v := ?vt26x5) rfl (by kernel_rfl) (by kernel_rfl) (by kernel_rfl) (fun _ _ _ h => h) (Or.inl ⟨by rfl, ?hyt26x5⟩) (by assumption) ?restt26x5
            case hyt26x5 => (intro wz hSw; (try dsimp only at hSw); go_simp <;> (try with_reducible rfl))
            try simp only [Act.put, List.setIfInBounds_toArray, List.set_cons_zero, List.set_cons_succ]
            refine wpAnyH_take (i := 6) (oi := ⟨some 27, _, _, _, _, _⟩) (v := ?vt27x6) rfl (by kernel_rfl) (by kernel_rfl) (by kernel_rfl) (fun _ _ _ h => h) (Or.inl ⟨by rfl, ?hyt27x6⟩) (by assumption) ?restt27x6
            case hyt27x6 => (intro wz hSw; (try dsimp only at hSw); go_simp <;> (try with_reducible rfl))
            try simp only [Act.put, List.setIfInBounds_toArray, List.set_cons_zero, List.set_cons_succ]
            refine wpAnyH_take (i := 7) (oi := ⟨some 28, _, _, _, _, _⟩) (v := ?vt28x7) rfl (by kernel_rfl) (by kernel_rfl) (by kernel_rfl) (fun _ _ _ h => h) (Or.inl ⟨by rfl, ?hyt28x7⟩) (by assumption) ?restt28x7
            case hyt28x7 => (intro wz hSw; (try dsimp only at hSw); go_simp <;> (try with_reducible rfl))
            try simp only [Act.put, List.setIfInBounds_toArray, List.set_cons_zero, List.set_cons_succ]
            refine wpAnyH_take (i := 8) (oi := ⟨some 29, _, _, _, _, _⟩) (v := ?vt29x8) rfl (by kernel_rfl) (by kernel_rfl) (by kernel_rfl) (fun _ _ _ h => h) (Or.inl ⟨by rfl, ?hyt29x8⟩) (by assumption) ?restt29x8
            case hyt29x8 => (intro wz hSw; (try dsimp only at hSw); go_simp <;> (try with_reducible rfl))
            try simp only [Act.put, List.setIfInBounds_toArray, List.set_cons_zero, List.set_cons_succ]
            refine wpAnyH_take (i := 9) (oi := ⟨some 30, _, _, _, _, _⟩) (v := ?vt210x9) rfl (by kernel_rfl) (by kernel_rfl) (by kernel_rfl) (fun _ _ _ h => h) (Or.inl ⟨by rfl, ?hyt210x9⟩) (by assumption) ?restt210x9
            case hyt210x9 => (intro wz hSw; (try dsimp only at hSw); go_simp <;> (try with_reducible rfl))
            try simp only [Act.put, List.setIfInBounds_toArray, List.set_cons_zero, List.set_cons_succ]
            refine wpAnyH_take (i := 10) (oi := ⟨some 31, _, _, _, _, _⟩) (v := ?vt211x10) rfl (by kernel_rfl) (by kernel_rfl) (by kernel_rfl) (fun _ _ _ h => h) (Or.inl ⟨by rfl, ?hyt211x10⟩) (by assumption) ?restt211x10
            case hyt211x10 => (intro wz hSw; (try dsimp only at hSw); go_simp <;> (try with_reducible rfl))
            try simp only [Act.put, List.setIfInBounds_toArray, List.set_cons_zero, List.set_cons_succ]
            refine wpAnyH_take (i := 11) (oi := ⟨some 32, _, _, _, _, _⟩) (v := ?vt212x11) rfl (by kernel_rfl) (by kernel_rfl) (by kernel_rfl) (fun _ _ _ h => h) (Or.inl ⟨by rfl, ?hyt212x11⟩) (by assumption) ?restt212x11
            case hyt212x11 => (intro wz hSw; (try dsimp only at hSw); go_simp <;> (try with_reducible rfl))
            try simp only [Act.put, List.setIfInBounds_toArray, List.set_cons_zero, List.set_cons_succ]
            refine wpAnyH_take (i := 12) (oi := ⟨some 33, _, _, _, _, _⟩) (v := ?vt213x12) rfl (by kernel_rfl) (by kernel_rfl) (by kernel_rfl) (fun _ _ _ h => h) (Or.inl ⟨by rfl, ?hyt213x12⟩) (by assumption) ?restt213x12
            case hyt213x12 => (intro wz hSw; (try dsimp only at hSw); go_simp <;> (try with_reducible rfl))
            try simp only [Act.put, List.setIfInBounds_toArray, List.set_cons_zero, List.set_cons_succ]
            refine wpAnyH_take (i := 13) (oi := ⟨some 34, _, _, _, _, _⟩) (v := ?vt214x13) rfl (by kernel_rfl) (by kernel_rfl) (by kernel_rfl) (fun _ _ _ h => h) (Or.inl ⟨by rfl, ?hyt214x13⟩) (by assumption) ?restt214x13
            case hyt214x13 => (intro wz hSw; (try dsimp only at hSw); go_simp <;> (try with_reducible rfl))
            try simp only [Act.put, List.setIfInBounds_toArray, List.set_cons_zero, List.set_cons_succ]
            refine wpAnyH_take (i := 14) (oi := ⟨some 35, _, _, _, _, _⟩) (v := ?vt215x14) rfl (by kernel_rfl) (by kernel_rfl) (by kernel_rfl) (fun _ _ _ h => h) (Or.inl ⟨by rfl, ?hyt215x14⟩) (by assumption) ?restt215x14
            case hyt215x14 => (intro wz hSw; (try dsimp only at hSw); go_simp <;> (try with_reducible rfl))
            try simp only [Act.put, List.setIfInBounds_toArray, List.set_cons_zero, List.set_cons_succ]
            refine wpAnyH_ready (rs := [15]) (by kernel_rfl) (by simp) (AllReadyH.cons (o := ⟨some 36, _, _, _, _, _⟩) rfl (fun K hK => ?_) AllReadyH.nil)
            go_simp
            go_at_call 49
            refine KT.out.mono ?_
            rintro e w2 ⟨rfl, hDX, g1, g2⟩
            have HDX0 := keep hDX
            have HDX := keep (show HD lo ow R.b R.mo T (W.alloc (.cells #[.string yt, .int .i64 yf, .int .i64 yn, .bool yx, .slice y1 y2 y3] 49)) (i + 1) w2 from HDX0.out)
            have HS9 := keep (HSX.out w2 g1 g2)
            clear hDX g1 g2 HDX0
            (try go_wp2_with fail)
            refine hK.out _ _ HS9.out (fun hHeld => ?_)
            clear hK K
            try simp only [Act.put, List.setIfInBounds_toArray, List.set_cons_zero, List.set_cons_succ]
            refine wpAnyH_take (i := 16) (oi := ⟨some 37, _, _, _, _, _⟩) (v := ?vt216x16) rfl (by kernel_rfl) (by kernel_rfl) (by kernel_rfl) (fun _ _ _ h => h) (Or.inl ⟨by rfl, ?hyt216x16⟩) (by assumption) ?restt216x16
            case hyt216x16 => (intro wz hSw; (try dsimp only at hSw); go_simp <;> (try with_reducible rfl))
            try simp only [Act.put, List.setIfInBounds_toArray, List.set_cons_zero, List.set_cons_succ]
            refine wpAnyH_done (by kernel_rfl) ?_ _
            go_wp2
            go_roundw
            case rel => exact ⟨i + 1, by simp, by rw [HN.out]; simp, HLT.out, HDX⟩
            all_goals (have := HLT.out; simp [intOf]; omega)
    · obtain rfl : i = R.np := by omega
      have HFI := keep (HEND.out _ hD.out)
      clear hD HEND HD0
      go_wp2
      go_ret
      exact ⟨rfl, HFI.out⟩
end
end Go.Proofs.Ytnbicbnighpkjaa
