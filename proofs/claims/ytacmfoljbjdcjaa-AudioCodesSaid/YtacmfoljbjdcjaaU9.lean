/- Package audio: a packet is handed to all that listen but the party that says it. -/
import Derived.Test.YtacmfoljbjdcjaaU8
import Derived.Test.YtacmfoljbjdcjaaOct1
import Derived.Lib.LazyBuf
namespace Go.Proofs.Ytacmfoljbjdcjaa
open Go.RowKit Go.Maps
set_option linter.unusedVariables false
set_option linter.unusedSimpArgs false

def RetU (w : World) (bs : List UInt8) (e : Ending) (w' : World) : Prop :=
  ∃ A n c, e = .returned (.slice A n c) ∧ BS w' A n c bs ∧ Below w.heap.size w w' ∧ (∀ a, A = some a → w.heap.size ≤ a.block ∧ a.block < w'.heap.size) ∧ w'.ownsRow w.heap.size 5 1 (.slice A n c) n (bc bs)
set_option maxHeartbeats 1000000 in
theorem bclone_any (A : Option Addr) (n c : Nat) (bs : List UInt8) (w : World) (h : BS w A n c bs) (hn : n ≤ 100000) :
    Calls Try.prog 37 #[.slice A n c] w (RetU w bs) := by
  have qn : ∀ (w : World), (binOp .eql 24 (.slice A n c) (.slice none 0 0)).run Try.prog w = .ok (.bool A.isNone) w := fun w => by cases A <;> exact Lib.run_eql_slice_nil w _ _ _ n c 0 0 Try.underlying24
  cases A with
  | none =>
    have hb : bs = [] := by
      rcases bs with _ | ⟨x, r⟩
      · rfl
      · obtain ⟨_, _, e, _⟩ := h.br.at_ (j := 0) (by simp)
        cases e
    subst hb
    dsimp only [Option.isNone] at qn
    have HB := keep (show BS w none 0 0 [] from BS.nil w)
    clear h hn
    go_enter Try.func37, Try.ntmps37
    go_wp2
    go_ret
    exact ⟨none, 0, 0, rfl, HB.out, Below.refl _ _, fun a ha => (by cases ha), rfl, .inl ⟨rfl, rfl⟩⟩
  | some a0 =>
    dsimp only [Option.isNone] at qn
    obtain ⟨i0, hi0, hz0, hz1, hz2⟩ := info_parts u8_info
    have HS := keep (h.step (below_lay w (.cells #[] 5)))
    have HL := keep h.len
    have HN := keep hn
    have LW := keep (below_lay w (.cells #[] 5))
    have HO := keep (show (w.alloc (.cells #[] 5)).ownsRow w.heap.size 5 1 (.slice (some ⟨w.heap.size, 0, none⟩) 0 0) 0 [] from own_row (heap_alloc_new w _) 0 rfl (by decide))
    clear h hn
    go_enter Try.func37, Try.ntmps37
    go_wp2_with (at_builtin; refine wpl_append rfl (.tmp 5) (.tmp 6) 24 rfl w.heap.size 5 i0 (.int .u8 0) Try.underlying24 hi0 hz0 hz1 rfl _ 0 [] rfl HO.out (some a0) n c (bc bs) rfl (by rw [bc_length]; exact HL.out) HS.out.br.sr (bc_one _) (by have := HN.out; unfold maxLen; omega) (by have := HN.out; rw [hz2]; omega) (Nat.le_of_lt (by simp)) ?_
                 intro A4 c4 w4 ho4 hb4
                 simp only [Nat.zero_add, List.nil_append] at ho4
                 replace hb4 := keep (LW.out.trans hb4))
    go_ret
    exact ⟨A4, _, c4, rfl, BS.of_own ho4.out, hb4.out, fun a ha => ho4.out.lt a.block (by rw [ha]; rfl), ho4.out⟩

theorem takeL_ws (x : Lm) (n room : Nat) (y : Pk) (h : x.ws.length ≤ room) : (takeL x n room y).ws.length ≤ room ∧ (takeL x n room y).lost ≤ x.lost + 1 := by
  unfold takeL
  by_cases h0 : befB (x.sp n) y = true
  · rw [if_pos h0]
    by_cases h1 : x.ws.length < room
    · rw [if_pos h1]
      refine ⟨?_, Nat.le_succ _⟩
      dsimp only
      rw [List.length_append]
      exact h1
    · rw [if_neg h1]
      exact ⟨h, Nat.le_refl _⟩
  · rw [if_neg h0]
    exact ⟨h, Nat.le_succ _⟩
/-- Is the packet taken by that party? -/
def handB (M : Fm) (fr : Nat) (y : Pk) (n : Nat) : Bool := match M.P n with
  | some x => !(n == fr) && takeB x fr M.room y
  | none => false
def handN (M : Fm) (fr : Nat) (y : Pk) (k : Nat) : Nat := ((List.range k).filter (handB M fr y)).length
theorem handN_succ (M : Fm) (fr : Nat) (y : Pk) (k : Nat) : handN M fr y (k + 1) = handN M fr y k + if handB M fr y k = true then 1 else 0 := by
  unfold handN
  rw [List.range_succ, List.filter_append, List.length_append]
  cases h : handB M fr y k <;> simp [h]
theorem handN_le (M : Fm) (fr : Nat) (y : Pk) (k : Nat) : handN M fr y k ≤ k := by
  unfold handN
  have := List.length_filter_le (handB M fr y) (List.range k)
  rwa [List.length_range] at this
/-- The first k parties have been asked. -/
def handTo (M : Fm) (fr : Nat) (y : Pk) (k : Nat) : Fm := { M with P := fun n => if n < k ∧ n ≠ fr then (M.P n).map fun x => takeL x fr M.room y else M.P n }
theorem handTo_zero (M : Fm) (fr : Nat) (y : Pk) : handTo M fr y 0 = M := by
  unfold handTo
  have : (fun (n : Nat) => if n < 0 ∧ n ≠ fr then (M.P n).map (fun x => takeL x fr M.room y) else M.P n) = M.P := by
    funext n
    rw [if_neg (by omega)]
  rw [this]
theorem handTo_succ (M : Fm) (fr : Nat) (y : Pk) (k : Nat) : handTo M fr y (k + 1) = { handTo M fr y k with P := putN (handTo M fr y k).P k (if k ≠ fr then (M.P k).map (fun x => takeL x fr M.room y) else M.P k) } := by
  unfold handTo putN
  congr 1
  funext n
  dsimp only
  by_cases e : n = k
  · subst e
    rw [if_pos rfl]
    by_cases h : n ≠ fr
    · rw [if_pos ⟨by omega, h⟩, if_pos h]
    · rw [if_neg (fun q => h q.2), if_neg h]
  · rw [if_neg e]
    by_cases h : n < k ∧ n ≠ fr
    · rw [if_pos ⟨by omega, h.2⟩, if_pos h]
    · rw [if_neg (fun q => h ⟨by omega, q.2⟩), if_neg h]
theorem handTo_at (M : Fm) (fr : Nat) (y : Pk) (k : Nat) : (handTo M fr y k).P k = M.P k := by
  unfold handTo
  dsimp only
  rw [if_neg (by omega)]
def HD (lo : Nat) (ow : Ow) (b r : Nat) (M : Fm) (fr : Nat) (y : Pk) (W1 : World) (i : Nat) (wr : World) : Prop := FP lo ow W1 b r (handTo M fr y i) wr
section
variable {lo : Nat} {ow : Ow} {R : Gf} {W : World}
theorem HD.same {b r : Nat} {M : Fm} {fr : Nat} {y : Pk} {i : Nat} {W1 wr w' : World} (h : HD lo ow b r M fr y W1 i wr) (hb : Below wr.heap.size wr w') (hx : M.P i = none ∨ i = fr) : HD lo ow b r M fr y W1 (i + 1) w' := by
  obtain ⟨ow', h1, h2, h3⟩ := h
  have : handTo M fr y (i + 1) = handTo M fr y i := by
    rw [handTo_succ]
    have hP : putN (handTo M fr y i).P i (if i ≠ fr then (M.P i).map (fun x => takeL x fr M.room y) else M.P i) = (handTo M fr y i).P := putN_self (by
      rw [handTo_at]
      rcases hx with hx | hx
      · rw [hx]
        split <;> rfl
      · rw [if_neg (fun q => q hx)])
    rw [hP]
  unfold HD
  rw [this]
  exact ⟨ow', h1.step hb, h2, h3.trans (Part.of_below _ hb) fun k hk => .inl hk⟩
set_option maxHeartbeats 8000000 in
set_option maxRecDepth 1000000 in
theorem hand_any (h : FA lo ow R W) {fr : Nat} (hfr16 : fr < R.np) {y : Pv} (hy : IV ow W y) (hl : ∀ n m, R.P n = some m → m.lost + 1 ≤ R.u) (hu : R.u ≤ 100001) :
    Calls Try.prog 38 #[ptr R.b, .int .i64 (fr : Int), .agg #[.bool y.mr, .int .u8 y.kd, .int .u16 y.sq, .int .u32 y.st, .int .u32 y.so, .slice y.da.1 y.da.2.1 y.da.2.2]] W fun e w' => e = .returned (.int .i64 (handN R.fm fr y.pk R.np : Nat)) ∧ FP lo ow W R.b R.r (handTo R.fm fr y.pk R.np) w' := by
  obtain ⟨ym, yk, yq, yt, yo, ⟨y1, y2, y3⟩, yb⟩ := y
  dsimp only
  have hB1 := below_lay W (.cells #[.bool ym, .int .u8 yk, .int .u16 yq, .int .u32 yt, .int .u32 yo, .slice y1 y2 y3] 26)
  have h1 := h.step hB1
  have hBo : ow W.heap.size = none := h.ok.free (Nat.le_refl _)
  have hbx : (W.alloc (.cells #[.bool ym, .int .u8 yk, .int .u16 yq, .int .u32 yt, .int .u32 yo, .slice y1 y2 y3] 26)).heap[W.heap.size]? = some (.cells #[.bool ym, .int .u8 yk, .int .u16 yq, .int .u32 yt, .int .u32 yo, .slice y1 y2 y3] 26) := heap_alloc_new W _
  have hy1 : IV ow (W.alloc (.cells #[.bool ym, .int .u8 yk, .int .u16 yq, .int .u32 yt, .int .u32 yo, .slice y1 y2 y3] 26)) ⟨ym, yk, yq, yt, yo, (y1, y2, y3), yb⟩ := ⟨hy.bs.step hB1, hy.ut.step (Ext.refl W ow) hB1.size, hy.le⟩
  have hnp := h.np
  have hrm := h.rm
  obtain ⟨d0, d1⟩ := h1.c0
  obtain ⟨T, hT⟩ : ∃ T, T = Pv.pk ⟨ym, yk, yq, yt, yo, (y1, y2, y3), yb⟩ := ⟨_, rfl⟩
  rw [← hT]
  have HD0 := keep (show HD lo ow R.b R.r R.fm fr T (W.alloc (.cells #[.bool ym, .int .u8 yk, .int .u16 yq, .int .u32 yt, .int .u32 yo, .slice y1 y2 y3] 26)) 0 (W.alloc (.cells #[.bool ym, .int .u8 yk, .int .u16 yq, .int .u32 yt, .int .u32 yo, .slice y1 y2 y3] 26)) from by
    unfold HD
    rw [handTo_zero]
    exact FP.of h1.fl (Below.refl _ _))
  have HEND := keep (show ∀ w', HD lo ow R.b R.r R.fm fr T (W.alloc (.cells #[.bool ym, .int .u8 yk, .int .u16 yq, .int .u32 yt, .int .u32 yo, .slice y1 y2 y3] 26)) R.np w' → FP lo ow W R.b R.r (handTo R.fm fr T R.np) w' from fun w' ⟨ow', q1, q2, q3⟩ => ⟨ow', q1, fun k hk => q2 k (Nat.lt_of_lt_of_le hk hB1.size), (Part.of_below _ hB1).trans q3 fun k hk => .inl hk⟩)
  have HX := keep (And.intro hBo (And.intro hbx (And.intro hy1 (And.intro hl (And.intro hu (And.intro hnp (And.intro hrm hfr16)))))))
  have HT := keep hT
  have hn16 : (R.np : Int) ≤ 16 := by omega
  clear h h1 hy hy1 hB1 hl hu hnp hrm hBo hbx hT d0 hfr16
  unfold ptr
  go_enter Try.func38, Try.ntmps38
  go_wp2_with fail
  go_loopw [15, 7] (fun iv tv wr => ∃ i : Nat, iv = .int .i64 (i : Int) ∧ tv = .int .i64 (handN R.fm fr T i : Nat) ∧ i ≤ R.np ∧ Hid (HD lo ow R.b R.r R.fm fr T (W.alloc (.cells #[.bool ym, .int .u8 yk, .int .u16 yq, .int .u32 yt, .int .u32 yo, .slice y1 y2 y3] 26)) i wr)) (fun iv _ _ => R.np - (intOf iv).toNat)
  case atStart => exact ⟨0, rfl, rfl, Nat.zero_le _, HD0⟩
  case round =>
    obtain ⟨i, rfl, rfl, hi, hD⟩ := hrel
    by_cases hlt : i < R.np
    · have hltI : (i : Int) < (R.np : Int) := by omega
      obtain ⟨ow', ⟨R', hR, hRb, hRr, hRM⟩, hE, hP⟩ := hD.out
      have hnp' : R'.np = R.np := by have := congrArg Fm.np hRM; exact this
      have hrm' : R'.room = R.room := by have := congrArg Fm.room hRM; exact this
      have hu' : R'.u = R.u := by have := congrArg Fm.u hRM; exact this
      obtain ⟨c0, _⟩ := hR.c0
      obtain ⟨L, _⟩ := hR.cr (i := i) (by omega)
      have hPi : (R'.P i).map Gl.lm = R.fm.P i := by
        have : R'.fm.P i = (handTo R.fm fr T i).P i := congrArg (fun M => M.P i) hRM
        rw [handTo_at] at this
        exact this
      have hbw : wr.heap[W.heap.size]? = some (.cells #[.bool ym, .int .u8 yk, .int .u16 yq, .int .u32 yt, .int .u32 yo, .slice y1 y2 y3] 26) := (hP.block W.heap.size (Array.getElem?_eq_some_iff.1 HX.out.2.1).1 (fun ⟨t, ht, _⟩ => by rw [HX.out.1] at ht; cases ht)).trans HX.out.2.1
      rw [hRb, hrm'] at c0
      rw [hRr] at L
      unfold Gf.pv at L
      have hn1 : handN R.fm fr T (i + 1) = handN R.fm fr T i + if handB R.fm fr T i = true then 1 else 0 := handN_succ ..
      have hnl := handN_le R.fm fr T i
      have hnI : (handN R.fm fr T i : Int) ≤ 16 := by omega
      have hw1 : IntKind.i64.wrap ((i : Int) + 1) = (i : Int) + 1 := IntWalk.i64_in _ (by omega)
      have hw2 : IntKind.i64.wrap ((handN R.fm fr T i : Int) + 1) = (handN R.fm fr T i : Int) + 1 := IntWalk.i64_in _ (by omega)
      have HSX := keep (show ∀ W' : World, W'.heap[R.b]? = wr.heap[R.b]? → W'.heap[W.heap.size]? = wr.heap[W.heap.size]? → W'.cell? ⟨R.b, 0, none⟩ = some (.int .i64 (R.room : Int)) ∧ W'.cell? ⟨W.heap.size, 0, none⟩ = some (.bool ym) ∧ W'.cell? ⟨W.heap.size, 1, none⟩ = some (.int .u8 yk) ∧ W'.cell? ⟨W.heap.size, 2, none⟩ = some (.int .u16 yq) ∧ W'.cell? ⟨W.heap.size, 3, none⟩ = some (.int .u32 yt) ∧ W'.cell? ⟨W.heap.size, 4, none⟩ = some (.int .u32 yo) ∧ W'.cell? ⟨W.heap.size, 5, none⟩ = some (.slice y1 y2 y3) from fun W' g1 g2 => ⟨(World.cell?_of_block (a := ⟨R.b, 0, none⟩) g1).trans c0, upd_cell (g2.trans hbw) 0 _ rfl, upd_cell (g2.trans hbw) 1 _ rfl, upd_cell (g2.trans hbw) 2 _ rfl, upd_cell (g2.trans hbw) 3 _ rfl, upd_cell (g2.trans hbw) 4 _ rfl, upd_cell (g2.trans hbw) 5 _ rfl⟩)
      cases hm : R'.P i with
      | none =>
        rw [hm] at L hPi
        dsimp only [Option.map] at L hPi
        have hb0 : handB R.fm fr T i = false := by unfold handB; rw [← hPi]
        have HN := keep (show handN R.fm fr T (i + 1) = handN R.fm fr T i by rw [hn1, hb0]; rfl)
        have HDN := keep (show ∀ w', Below wr.heap.size wr w' → HD lo ow R.b R.r R.fm fr T (W.alloc (.cells #[.bool ym, .int .u8 yk, .int .u16 yq, .int .u32 yt, .int .u32 yo, .slice y1 y2 y3] 26)) (i + 1) w' from fun w' hb => hD.out.same hb (.inl hPi.symm))
        have HLT := keep hlt
        clear hR hRM hE hP hnp' hrm' hu' hPi hbw hn1 hnl hb0 hm hlt hD
        go_wp2_with fail
        refine wp_region_held_drew (S := (fun w' => w'.cell? ⟨R.b, 0, none⟩ = some (.int .i64 (R.room : Int)) ∧ w'.cell? ⟨W.heap.size, 0, none⟩ = some (.bool ym) ∧ w'.cell? ⟨W.heap.size, 1, none⟩ = some (.int .u8 yk) ∧ w'.cell? ⟨W.heap.size, 2, none⟩ = some (.int .u16 yq) ∧ w'.cell? ⟨W.heap.size, 3, none⟩ = some (.int .u32 yt) ∧ w'.cell? ⟨W.heap.size, 4, none⟩ = some (.int .u32 yo) ∧ w'.cell? ⟨W.heap.size, 5, none⟩ = some (.slice y1 y2 y3))) (by kernel_rfl) (HSX.out _ rfl rfl) (fun hHeld => ?_)
        refine wpAnyH_take (i := 0) (oi := ⟨some 20, _, _, _, _, _⟩) (v := ?vn1x0) rfl (by kernel_rfl) (by kernel_rfl) (by kernel_rfl) (fun _ _ _ h => h) (Or.inl ⟨by rfl, ?hyn1x0⟩) (by assumption) ?restn1x0
        case hyn1x0 => (intro wz hSw; (try dsimp only at hSw); go_simp <;> (try with_reducible rfl))
        try simp only [Act.put, List.setIfInBounds_toArray, List.set_cons_zero, List.set_cons_succ]
        refine wpAnyH_take (i := 1) (oi := ⟨some 21, _, _, _, _, _⟩) (v := ?vn2x1) rfl (by kernel_rfl) (by kernel_rfl) (by kernel_rfl) (fun _ _ _ h => h) (Or.inl ⟨by rfl, ?hyn2x1⟩) (by assumption) ?restn2x1
        case hyn2x1 => (intro wz hSw; (try dsimp only at hSw); go_simp <;> (try with_reducible rfl))
        try simp only [Act.put, List.setIfInBounds_toArray, List.set_cons_zero, List.set_cons_succ]
        refine wpAnyH_take (i := 2) (oi := ⟨some 22, _, _, _, _, _⟩) (v := ?vn3x2) rfl (by kernel_rfl) (by kernel_rfl) (by kernel_rfl) (fun _ _ _ h => h) (Or.inl ⟨by rfl, ?hyn3x2⟩) (by assumption) ?restn3x2
        case hyn3x2 => (intro wz hSw; (try dsimp only at hSw); go_simp <;> (try with_reducible rfl))
        try simp only [Act.put, List.setIfInBounds_toArray, List.set_cons_zero, List.set_cons_succ]
        refine wpAnyH_take (i := 3) (oi := ⟨some 23, _, _, _, _, _⟩) (v := undef) rfl (by kernel_rfl) (by kernel_rfl) (by kernel_rfl) (fun _ _ _ h => h) (Or.inr ⟨by rfl, rfl⟩) (by assumption) ?_
        try simp only [Act.put, List.setIfInBounds_toArray, List.set_cons_zero, List.set_cons_succ]
        refine wpAnyH_take (i := 4) (oi := ⟨some 24, _, _, _, _, _⟩) (v := undef) rfl (by kernel_rfl) (by kernel_rfl) (by kernel_rfl) (fun _ _ _ h => h) (Or.inr ⟨by rfl, rfl⟩) (by assumption) ?_
        try simp only [Act.put, List.setIfInBounds_toArray, List.set_cons_zero, List.set_cons_succ]
        refine wpAnyH_take (i := 5) (oi := ⟨some 25, _, _, _, _, _⟩) (v := undef) rfl (by kernel_rfl) (by kernel_rfl) (by kernel_rfl) (fun _ _ _ h => h) (Or.inr ⟨by rfl, rfl⟩) (by assumption) ?_
        try simp only [Act.put, List.setIfInBounds_toArray, List.set_cons_zero, List.set_cons_succ]
        refine wpAnyH_take (i := 6) (oi := ⟨some 26, _, _, _, _, _⟩) (v := ?vn4x6) rfl (by kernel_rfl) (by kernel_rfl) (by kernel_rfl) (fun _ _ _ h => h) (Or.inl ⟨by rfl, ?hyn4x6⟩) (by assumption) ?restn4x6
        case hyn4x6 => (intro wz hSw; (try dsimp only at hSw); go_simp <;> (try with_reducible rfl))
        try simp only [Act.put, List.setIfInBounds_toArray, List.set_cons_zero, List.set_cons_succ]
        refine wpAnyH_take (i := 7) (oi := ⟨some 27, _, _, _, _, _⟩) (v := ?vn5x7) rfl (by kernel_rfl) (by kernel_rfl) (by kernel_rfl) (fun _ _ _ h => h) (Or.inl ⟨by rfl, ?hyn5x7⟩) (by assumption) ?restn5x7
        case hyn5x7 => (intro wz hSw; (try dsimp only at hSw); go_simp <;> (try with_reducible rfl))
        try simp only [Act.put, List.setIfInBounds_toArray, List.set_cons_zero, List.set_cons_succ]
        refine wpAnyH_take (i := 8) (oi := ⟨some 28, _, _, _, _, _⟩) (v := undef) rfl (by kernel_rfl) (by kernel_rfl) (by kernel_rfl) (fun _ _ _ h => h) (Or.inr ⟨by rfl, rfl⟩) (by assumption) ?_
        try simp only [Act.put, List.setIfInBounds_toArray, List.set_cons_zero, List.set_cons_succ]
        refine wpAnyH_take (i := 9) (oi := ⟨some 29, _, _, _, _, _⟩) (v := undef) rfl (by kernel_rfl) (by kernel_rfl) (by kernel_rfl) (fun _ _ _ h => h) (Or.inr ⟨by rfl, rfl⟩) (by assumption) ?_
        try simp only [Act.put, List.setIfInBounds_toArray, List.set_cons_zero, List.set_cons_succ]
        refine wpAnyH_take (i := 10) (oi := ⟨some 30, _, _, _, _, _⟩) (v := undef) rfl (by kernel_rfl) (by kernel_rfl) (by kernel_rfl) (fun _ _ _ h => h) (Or.inr ⟨by rfl, rfl⟩) (by assumption) ?_
        try simp only [Act.put, List.setIfInBounds_toArray, List.set_cons_zero, List.set_cons_succ]
        refine wpAnyH_take (i := 11) (oi := ⟨some 31, _, _, _, _, _⟩) (v := undef) rfl (by kernel_rfl) (by kernel_rfl) (by kernel_rfl) (fun _ _ _ h => h) (Or.inr ⟨by rfl, rfl⟩) (by assumption) ?_
        try simp only [Act.put, List.setIfInBounds_toArray, List.set_cons_zero, List.set_cons_succ]
        refine wpAnyH_take (i := 12) (oi := ⟨some 32, _, _, _, _, _⟩) (v := undef) rfl (by kernel_rfl) (by kernel_rfl) (by kernel_rfl) (fun _ _ _ h => h) (Or.inr ⟨by rfl, rfl⟩) (by assumption) ?_
        try simp only [Act.put, List.setIfInBounds_toArray, List.set_cons_zero, List.set_cons_succ]
        refine wpAnyH_take (i := 13) (oi := ⟨some 33, _, _, _, _, _⟩) (v := undef) rfl (by kernel_rfl) (by kernel_rfl) (by kernel_rfl) (fun _ _ _ h => h) (Or.inr ⟨by rfl, rfl⟩) (by assumption) ?_
        try simp only [Act.put, List.setIfInBounds_toArray, List.set_cons_zero, List.set_cons_succ]
        refine wpAnyH_take (i := 14) (oi := ⟨some 34, _, _, _, _, _⟩) (v := undef) rfl (by kernel_rfl) (by kernel_rfl) (by kernel_rfl) (fun _ _ _ h => h) (Or.inr ⟨by rfl, rfl⟩) (by assumption) ?_
        try simp only [Act.put, List.setIfInBounds_toArray, List.set_cons_zero, List.set_cons_succ]
        refine wpAnyH_take (i := 15) (oi := ⟨some 35, _, _, _, _, _⟩) (v := undef) rfl (by kernel_rfl) (by kernel_rfl) (by kernel_rfl) (fun _ _ _ h => h) (Or.inr ⟨by rfl, rfl⟩) (by assumption) ?_
        try simp only [Act.put, List.setIfInBounds_toArray, List.set_cons_zero, List.set_cons_succ]
        refine wpAnyH_take (i := 16) (oi := ⟨some 36, _, _, _, _, _⟩) (v := ?vn6x16) rfl (by kernel_rfl) (by kernel_rfl) (by kernel_rfl) (fun _ _ _ h => h) (Or.inl ⟨by rfl, ?hyn6x16⟩) (by assumption) ?restn6x16
        case hyn6x16 => (intro wz hSw; (try dsimp only at hSw); go_simp <;> (try with_reducible rfl))
        try simp only [Act.put, List.setIfInBounds_toArray, List.set_cons_zero, List.set_cons_succ]
        refine wpAnyH_done (by kernel_rfl) ?_ _
        go_wp2
        go_roundw
        case rel => exact ⟨i + 1, by simp, by rw [HN.out], HLT.out, keep (HDN.out _ (Below.refl _ wr).drew)⟩
        all_goals (have := HLT.out; simp [intOf]; omega)
      | some m =>
        rw [hm] at L hPi
        dsimp only [Option.map] at L hPi
        by_cases hfr : i = fr
        · have hb0 : handB R.fm fr T i = false := by unfold handB; rw [← hPi]; dsimp only; rw [hfr]; simp
          have HN := keep (show handN R.fm fr T (i + 1) = handN R.fm fr T i by rw [hn1, hb0]; rfl)
          have HDN := keep (show ∀ w', Below wr.heap.size wr w' → HD lo ow R.b R.r R.fm fr T (W.alloc (.cells #[.bool ym, .int .u8 yk, .int .u16 yq, .int .u32 yt, .int .u32 yo, .slice y1 y2 y3] 26)) (i + 1) w' from fun w' hb => hD.out.same hb (.inr hfr))
          have HLT := keep hlt
          have hneq : ((i : Int) != (fr : Int)) = false := by rw [hfr]; simp
          have hneq2 : ((i : Int) == (fr : Int)) = true := by rw [hfr]; simp
          clear hR hRM hE hP hnp' hrm' hu' hPi hbw hn1 hnl hb0 hm hlt hD hfr
          unfold ptr at L
          go_wp2_with fail
          refine wp_region_held_drew (S := (fun w' => w'.cell? ⟨R.b, 0, none⟩ = some (.int .i64 (R.room : Int)) ∧ w'.cell? ⟨W.heap.size, 0, none⟩ = some (.bool ym) ∧ w'.cell? ⟨W.heap.size, 1, none⟩ = some (.int .u8 yk) ∧ w'.cell? ⟨W.heap.size, 2, none⟩ = some (.int .u16 yq) ∧ w'.cell? ⟨W.heap.size, 3, none⟩ = some (.int .u32 yt) ∧ w'.cell? ⟨W.heap.size, 4, none⟩ = some (.int .u32 yo) ∧ w'.cell? ⟨W.heap.size, 5, none⟩ = some (.slice y1 y2 y3))) (by kernel_rfl) (HSX.out _ rfl rfl) (fun hHeld => ?_)
          refine wpAnyH_take (i := 0) (oi := ⟨some 20, _, _, _, _, _⟩) (v := ?vf1x0) rfl (by kernel_rfl) (by kernel_rfl) (by kernel_rfl) (fun _ _ _ h => h) (Or.inl ⟨by rfl, ?hyf1x0⟩) (by assumption) ?restf1x0
          case hyf1x0 => (intro wz hSw; (try dsimp only at hSw); go_simp <;> (try with_reducible rfl))
          try simp only [Act.put, List.setIfInBounds_toArray, List.set_cons_zero, List.set_cons_succ]
          refine wpAnyH_take (i := 1) (oi := ⟨some 21, _, _, _, _, _⟩) (v := ?vf2x1) rfl (by kernel_rfl) (by kernel_rfl) (by kernel_rfl) (fun _ _ _ h => h) (Or.inl ⟨by rfl, ?hyf2x1⟩) (by assumption) ?restf2x1
          case hyf2x1 => (intro wz hSw; (try dsimp only at hSw); go_simp <;> (try with_reducible rfl))
          try simp only [Act.put, List.setIfInBounds_toArray, List.set_cons_zero, List.set_cons_succ]
          refine wpAnyH_take (i := 2) (oi := ⟨some 22, _, _, _, _, _⟩) (v := ?vf3x2) rfl (by kernel_rfl) (by kernel_rfl) (by kernel_rfl) (fun _ _ _ h => h) (Or.inl ⟨by rfl, ?hyf3x2⟩) (by assumption) ?restf3x2
          case hyf3x2 => (intro wz hSw; (try dsimp only at hSw); go_simp <;> (try with_reducible rfl))
          try simp only [Act.put, List.setIfInBounds_toArray, List.set_cons_zero, List.set_cons_succ]
          refine wpAnyH_take (i := 3) (oi := ⟨some 23, _, _, _, _, _⟩) (v := ?vf4x3) rfl (by kernel_rfl) (by kernel_rfl) (by kernel_rfl) (fun _ _ _ h => h) (Or.inl ⟨by rfl, ?hyf4x3⟩) (by assumption) ?restf4x3
          case hyf4x3 => (intro wz hSw; (try dsimp only at hSw); go_simp <;> (try with_reducible rfl))
          try simp only [Act.put, List.setIfInBounds_toArray, List.set_cons_zero, List.set_cons_succ]
          refine wpAnyH_take (i := 4) (oi := ⟨some 24, _, _, _, _, _⟩) (v := ?vf5x4) rfl (by kernel_rfl) (by kernel_rfl) (by kernel_rfl) (fun _ _ _ h => h) (Or.inl ⟨by rfl, ?hyf5x4⟩) (by assumption) ?restf5x4
          case hyf5x4 => (intro wz hSw; (try dsimp only at hSw); go_simp <;> (try with_reducible rfl))
          try simp only [Act.put, List.setIfInBounds_toArray, List.set_cons_zero, List.set_cons_succ]
          refine wpAnyH_take (i := 5) (oi := ⟨some 25, _, _, _, _, _⟩) (v := ?vf6x5) rfl (by kernel_rfl) (by kernel_rfl) (by kernel_rfl) (fun _ _ _ h => h) (Or.inl ⟨by rfl, ?hyf6x5⟩) (by assumption) ?restf6x5
          case hyf6x5 => (intro wz hSw; (try dsimp only at hSw); go_simp <;> (try with_reducible rfl))
          try simp only [Act.put, List.setIfInBounds_toArray, List.set_cons_zero, List.set_cons_succ]
          refine wpAnyH_take (i := 6) (oi := ⟨some 26, _, _, _, _, _⟩) (v := ?vf7x6) rfl (by kernel_rfl) (by kernel_rfl) (by kernel_rfl) (fun _ _ _ h => h) (Or.inl ⟨by rfl, ?hyf7x6⟩) (by assumption) ?restf7x6
          case hyf7x6 => (intro wz hSw; (try dsimp only at hSw); go_simp <;> (try with_reducible rfl))
          try simp only [Act.put, List.setIfInBounds_toArray, List.set_cons_zero, List.set_cons_succ]
          refine wpAnyH_take (i := 7) (oi := ⟨some 27, _, _, _, _, _⟩) (v := ?vf8x7) rfl (by kernel_rfl) (by kernel_rfl) (by kernel_rfl) (fun _ _ _ h => h) (Or.inl ⟨by rfl, ?hyf8x7⟩) (by assumption) ?restf8x7
          case hyf8x7 => (intro wz hSw; (try dsimp only at hSw); go_simp <;> (try with_reducible rfl))
          try simp only [Act.put, List.setIfInBounds_toArray, List.set_cons_zero, List.set_cons_succ]
          refine wpAnyH_take (i := 8) (oi := ⟨some 28, _, _, _, _, _⟩) (v := undef) rfl (by kernel_rfl) (by kernel_rfl) (by kernel_rfl) (fun _ _ _ h => h) (Or.inr ⟨by rfl, rfl⟩) (by assumption) ?_
          try simp only [Act.put, List.setIfInBounds_toArray, List.set_cons_zero, List.set_cons_succ]
          refine wpAnyH_take (i := 9) (oi := ⟨some 29, _, _, _, _, _⟩) (v := undef) rfl (by kernel_rfl) (by kernel_rfl) (by kernel_rfl) (fun _ _ _ h => h) (Or.inr ⟨by rfl, rfl⟩) (by assumption) ?_
          try simp only [Act.put, List.setIfInBounds_toArray, List.set_cons_zero, List.set_cons_succ]
          refine wpAnyH_take (i := 10) (oi := ⟨some 30, _, _, _, _, _⟩) (v := undef) rfl (by kernel_rfl) (by kernel_rfl) (by kernel_rfl) (fun _ _ _ h => h) (Or.inr ⟨by rfl, rfl⟩) (by assumption) ?_
          try simp only [Act.put, List.setIfInBounds_toArray, List.set_cons_zero, List.set_cons_succ]
          refine wpAnyH_take (i := 11) (oi := ⟨some 31, _, _, _, _, _⟩) (v := undef) rfl (by kernel_rfl) (by kernel_rfl) (by kernel_rfl) (fun _ _ _ h => h) (Or.inr ⟨by rfl, rfl⟩) (by assumption) ?_
          try simp only [Act.put, List.setIfInBounds_toArray, List.set_cons_zero, List.set_cons_succ]
          refine wpAnyH_take (i := 12) (oi := ⟨some 32, _, _, _, _, _⟩) (v := undef) rfl (by kernel_rfl) (by kernel_rfl) (by kernel_rfl) (fun _ _ _ h => h) (Or.inr ⟨by rfl, rfl⟩) (by assumption) ?_
          try simp only [Act.put, List.setIfInBounds_toArray, List.set_cons_zero, List.set_cons_succ]
          refine wpAnyH_take (i := 13) (oi := ⟨some 33, _, _, _, _, _⟩) (v := undef) rfl (by kernel_rfl) (by kernel_rfl) (by kernel_rfl) (fun _ _ _ h => h) (Or.inr ⟨by rfl, rfl⟩) (by assumption) ?_
          try simp only [Act.put, List.setIfInBounds_toArray, List.set_cons_zero, List.set_cons_succ]
          refine wpAnyH_take (i := 14) (oi := ⟨some 34, _, _, _, _, _⟩) (v := undef) rfl (by kernel_rfl) (by kernel_rfl) (by kernel_rfl) (fun _ _ _ h => h) (Or.inr ⟨by rfl, rfl⟩) (by assumption) ?_
          try simp only [Act.put, List.setIfInBounds_toArray, List.set_cons_zero, List.set_cons_succ]
          refine wpAnyH_take (i := 15) (oi := ⟨some 35, _, _, _, _, _⟩) (v := undef) rfl (by kernel_rfl) (by kernel_rfl) (by kernel_rfl) (fun _ _ _ h => h) (Or.inr ⟨by rfl, rfl⟩) (by assumption) ?_
          try simp only [Act.put, List.setIfInBounds_toArray, List.set_cons_zero, List.set_cons_succ]
          refine wpAnyH_take (i := 16) (oi := ⟨some 36, _, _, _, _, _⟩) (v := ?vf9x16) rfl (by kernel_rfl) (by kernel_rfl) (by kernel_rfl) (fun _ _ _ h => h) (Or.inl ⟨by rfl, ?hyf9x16⟩) (by assumption) ?restf9x16
          case hyf9x16 => (intro wz hSw; (try dsimp only at hSw); go_simp <;> (try with_reducible rfl))
          try simp only [Act.put, List.setIfInBounds_toArray, List.set_cons_zero, List.set_cons_succ]
          refine wpAnyH_done (by kernel_rfl) ?_ _
          go_wp2
          go_roundw
          case rel => exact ⟨i + 1, by simp, by rw [HN.out], HLT.out, keep (HDN.out _ (Below.refl _ wr).drew)⟩
          all_goals (have := HLT.out; simp [intOf]; omega)
        · have hne : (i == fr) = false := by simpa using hfr
          have hb0 : handB R.fm fr T i = takeB m.lm fr R.room T := by unfold handB; rw [← hPi]; dsimp only; rw [hne]; rfl
          obtain ⟨z1, z2, z3, z4⟩ := hR.ms i m hm
          have hl0 : m.lost + 1 ≤ R.u := by
            cases hm0 : R.P i with
            | none =>
              have hz : R.fm.P i = none := by unfold Gf.fm; dsimp only; rw [hm0]; rfl
              rw [hz] at hPi
              cases hPi
            | some m0 =>
              have hz : R.fm.P i = some m0.lm := by unfold Gf.fm; dsimp only; rw [hm0]; rfl
              rw [hz] at hPi
              injection hPi with hPi
              have h9 := HX.out.2.2.2.1 i m0 hm0
              have h8 := congrArg Lm.lost hPi
              unfold Gl.lm at h8
              dsimp only at h8
              omega
          have hl9 : R.u ≤ 100001 := HX.out.2.2.2.2.1
          have b2 := (Below.refl wr.heap.size wr).drew
          have hyw : IV ow' (World.drew wr) ⟨ym, yk, yq, yt, yo, (y1, y2, y3), yb⟩ := HX.out.2.2.1.step (hP.trans (Part.of_below (All ow) b2) fun k hk => .inl hk) (fun k hk => hk.nd) hE
          have hMd := z1.step b2
          have hOd := hR.ok.step b2.size
          have hrr : 1 ≤ R.room ∧ R.room ≤ 64 := HX.out.2.2.2.2.2.2.1
          have hfr16 : fr < 16 := by have := HX.out.2.2.2.2.2.2.2; omega
          have hwl : m.lm.ws.length = m.ws.length := by unfold Gl.lm; dsimp only; rw [List.length_map]
          have hTW := takeL_ws m.lm fr R.room T (by omega)
          have hTI : Pv.pk ⟨ym, yk, yq, yt, yo, (y1, y2, y3), yb⟩ = T := HT.out.symm
          have HTP := keep (show ∀ w', MP lo i ow' (World.drew wr) m (takeL m.lm fr R.room T) w' → HD lo ow R.b R.r R.fm fr T (W.alloc (.cells #[.bool ym, .int .u8 yk, .int .u16 yq, .int .u32 yt, .int .u32 yo, .slice y1 y2 y3] 26)) (i + 1) w' ∧ w'.heap[R.b]? = wr.heap[R.b]? ∧ w'.heap[W.heap.size]? = wr.heap[W.heap.size]? from fun w' hM => by
            have hnb : ∀ {k : Nat} {t : Tag}, ow' k = some t → t.who = none → ¬ Of ow' i k := fun hk ht ⟨t', hk', ht'⟩ => by rw [hk] at hk'; injection hk' with hk'; rw [hk', ht'] at ht; cases ht
            have hob := hR.ob
            have hltb := hR.lt
            rw [hRb] at hob hltb
            have hB9 : W.heap.size < wr.heap.size := (Array.getElem?_eq_some_iff.1 hbw).1
            have hB8 : ow' W.heap.size = none := (hE _ (Array.getElem?_eq_some_iff.1 HX.out.2.1).1).trans HX.out.1
            obtain ⟨ow2, m2, k1, k2, k3, k4, k5, k6⟩ := hM
            refine ⟨?_, k4.block _ hltb (hnb hob rfl), k4.block _ hB9 (fun ⟨t, ht, _⟩ => by rw [hB8] at ht; cases ht)⟩
            have h77 := (hR.step b2).turn hm k1 k2 k3 k4 k5 (by rw [k6, hrm']; exact hTW.1) (by rw [k6, hu']; have := hTW.2; have h7 : m.lm.lost = m.lost := rfl; omega)
            rw [hRM, hRb, hRr, k6] at h77
            unfold HD
            rw [handTo_succ, if_pos hfr, ← hPi]
            exact FP.then hE (hP.trans (Part.of_below _ b2) fun k hk => .inl hk) ⟨ow2, h77.1, k3, h77.2⟩)
          have KT := keep ((take_any hMd hOd (Nat.le_trans hR.lo b2.size) hyw hfr16 hrr (by omega)).mono fun e w' ⟨g1, g2⟩ => (⟨g1, HTP.out w' (by rw [hTI] at g2; exact g2)⟩ : e = Ending.returned (.bool (takeB m.lm fr R.room (Pv.pk ⟨ym, yk, yq, yt, yo, (y1, y2, y3), yb⟩))) ∧ HD lo ow R.b R.r R.fm fr T (W.alloc (.cells #[.bool ym, .int .u8 yk, .int .u16 yq, .int .u32 yt, .int .u32 yo, .slice y1 y2 y3] 26)) (i + 1) w' ∧ w'.heap[R.b]? = wr.heap[R.b]? ∧ w'.heap[W.heap.size]? = wr.heap[W.heap.size]?))
          rw [hTI] at KT
          obtain ⟨q, hq⟩ : ∃ q, takeB m.lm fr R.room T = q := ⟨_, rfl⟩
          rw [hq] at KT hb0
          have HN := keep (show handN R.fm fr T (i + 1) = handN R.fm fr T i + if q = true then 1 else 0 by rw [hn1, hb0])
          have HLT := keep hlt
          have hneq : ((i : Int) != (fr : Int)) = true := by simp; omega
          have hneq2 : ((i : Int) == (fr : Int)) = false := by simp; omega
          clear hR hRM hE hP hnp' hrm' hu' hPi hbw hn1 hnl hb0 hm hlt hD hfr hne z1 z2 z3 z4 hl0 hl9 hyw b2 hMd hOd hrr hwl hTW hTI HTP hq hfr16
          obtain ⟨mb, hmb⟩ : ∃ mb, m.b = mb := ⟨_, rfl⟩
          unfold ptr at L KT
          dsimp only at KT
          rw [hmb] at L KT
          clear hmb
          cases q with
          | false =>
            go_wp2_with fail
            refine wp_region_held_drew (S := (fun w' => w'.cell? ⟨R.b, 0, none⟩ = some (.int .i64 (R.room : Int)) ∧ w'.cell? ⟨W.heap.size, 0, none⟩ = some (.bool ym) ∧ w'.cell? ⟨W.heap.size, 1, none⟩ = some (.int .u8 yk) ∧ w'.cell? ⟨W.heap.size, 2, none⟩ = some (.int .u16 yq) ∧ w'.cell? ⟨W.heap.size, 3, none⟩ = some (.int .u32 yt) ∧ w'.cell? ⟨W.heap.size, 4, none⟩ = some (.int .u32 yo) ∧ w'.cell? ⟨W.heap.size, 5, none⟩ = some (.slice y1 y2 y3))) (by kernel_rfl) (HSX.out _ rfl rfl) (fun hHeld => ?_)
            refine wpAnyH_take (i := 0) (oi := ⟨some 20, _, _, _, _, _⟩) (v := ?vt11x0) rfl (by kernel_rfl) (by kernel_rfl) (by kernel_rfl) (fun _ _ _ h => h) (Or.inl ⟨by rfl, ?hyt11x0⟩) (by assumption) ?restt11x0
            case hyt11x0 => (intro wz hSw; (try dsimp only at hSw); go_simp <;> (try with_reducible rfl))
            try simp only [Act.put, List.setIfInBounds_toArray, List.set_cons_zero, List.set_cons_succ]
            refine wpAnyH_take (i := 1) (oi := ⟨some 21, _, _, _, _, _⟩) (v := ?vt12x1) rfl (by kernel_rfl) (by kernel_rfl) (by kernel_rfl) (fun _ _ _ h => h) (Or.inl ⟨by rfl, ?hyt12x1⟩) (by assumption) ?restt12x1
            case hyt12x1 => (intro wz hSw; (try dsimp only at hSw); go_simp <;> (try with_reducible rfl))
            try simp only [Act.put, List.setIfInBounds_toArray, List.set_cons_zero, List.set_cons_succ]
            refine wpAnyH_take (i := 2) (oi := ⟨some 22, _, _, _, _, _⟩) (v := ?vt13x2) rfl (by kernel_rfl) (by kernel_rfl) (by kernel_rfl) (fun _ _ _ h => h) (Or.inl ⟨by rfl, ?hyt13x2⟩) (by assumption) ?restt13x2
            case hyt13x2 => (intro wz hSw; (try dsimp only at hSw); go_simp <;> (try with_reducible rfl))
            try simp only [Act.put, List.setIfInBounds_toArray, List.set_cons_zero, List.set_cons_succ]
            refine wpAnyH_take (i := 3) (oi := ⟨some 23, _, _, _, _, _⟩) (v := ?vt14x3) rfl (by kernel_rfl) (by kernel_rfl) (by kernel_rfl) (fun _ _ _ h => h) (Or.inl ⟨by rfl, ?hyt14x3⟩) (by assumption) ?restt14x3
            case hyt14x3 => (intro wz hSw; (try dsimp only at hSw); go_simp <;> (try with_reducible rfl))
            try simp only [Act.put, List.setIfInBounds_toArray, List.set_cons_zero, List.set_cons_succ]
            refine wpAnyH_take (i := 4) (oi := ⟨some 24, _, _, _, _, _⟩) (v := ?vt15x4) rfl (by kernel_rfl) (by kernel_rfl) (by kernel_rfl) (fun _ _ _ h => h) (Or.inl ⟨by rfl, ?hyt15x4⟩) (by assumption) ?restt15x4
            case hyt15x4 => (intro wz hSw; (try dsimp only at hSw); go_simp <;> (try with_reducible rfl))
            try simp only [Act.put, List.setIfInBounds_toArray, List.set_cons_zero, List.set_cons_succ]
            refine wpAnyH_take (i := 5) (oi := ⟨some 25, _, _, _, _, _⟩) (v := ?vt16x5) rfl (by kernel_rfl) (by kernel_rfl) (by kernel_rfl) (fun _ _ _ h => h) (Or.inl ⟨by rfl, ?hyt16x5⟩) (by assumption) ?restt16x5
            case hyt16x5 => (intro wz hSw; (try dsimp only at hSw); go_simp <;> (try with_reducible rfl))
            try simp only [Act.put, List.setIfInBounds_toArray, List.set_cons_zero, List.set_cons_succ]
            refine wpAnyH_take (i := 6) (oi := ⟨some 26, _, _, _, _, _⟩) (v := ?vt17x6) rfl (by kernel_rfl) (by kernel_rfl) (by kernel_rfl) (fun _ _ _ h => h) (Or.inl ⟨by rfl, ?hyt17x6⟩) (by assumption) ?restt17x6
            case hyt17x6 => (intro wz hSw; (try dsimp only at hSw); go_simp <;> (try with_reducible rfl))
            try simp only [Act.put, List.setIfInBounds_toArray, List.set_cons_zero, List.set_cons_succ]
            refine wpAnyH_take (i := 7) (oi := ⟨some 27, _, _, _, _, _⟩) (v := ?vt18x7) rfl (by kernel_rfl) (by kernel_rfl) (by kernel_rfl) (fun _ _ _ h => h) (Or.inl ⟨by rfl, ?hyt18x7⟩) (by assumption) ?restt18x7
            case hyt18x7 => (intro wz hSw; (try dsimp only at hSw); go_simp <;> (try with_reducible rfl))
            try simp only [Act.put, List.setIfInBounds_toArray, List.set_cons_zero, List.set_cons_succ]
            refine wpAnyH_take (i := 8) (oi := ⟨some 28, _, _, _, _, _⟩) (v := ?vt19x8) rfl (by kernel_rfl) (by kernel_rfl) (by kernel_rfl) (fun _ _ _ h => h) (Or.inl ⟨by rfl, ?hyt19x8⟩) (by assumption) ?restt19x8
            case hyt19x8 => (intro wz hSw; (try dsimp only at hSw); go_simp <;> (try with_reducible rfl))
            try simp only [Act.put, List.setIfInBounds_toArray, List.set_cons_zero, List.set_cons_succ]
            refine wpAnyH_take (i := 9) (oi := ⟨some 29, _, _, _, _, _⟩) (v := ?vt110x9) rfl (by kernel_rfl) (by kernel_rfl) (by kernel_rfl) (fun _ _ _ h => h) (Or.inl ⟨by rfl, ?hyt110x9⟩) (by assumption) ?restt110x9
            case hyt110x9 => (intro wz hSw; (try dsimp only at hSw); go_simp <;> (try with_reducible rfl))
            try simp only [Act.put, List.setIfInBounds_toArray, List.set_cons_zero, List.set_cons_succ]
            refine wpAnyH_take (i := 10) (oi := ⟨some 30, _, _, _, _, _⟩) (v := ?vt111x10) rfl (by kernel_rfl) (by kernel_rfl) (by kernel_rfl) (fun _ _ _ h => h) (Or.inl ⟨by rfl, ?hyt111x10⟩) (by assumption) ?restt111x10
            case hyt111x10 => (intro wz hSw; (try dsimp only at hSw); go_simp <;> (try with_reducible rfl))
            try simp only [Act.put, List.setIfInBounds_toArray, List.set_cons_zero, List.set_cons_succ]
            refine wpAnyH_take (i := 11) (oi := ⟨some 31, _, _, _, _, _⟩) (v := ?vt112x11) rfl (by kernel_rfl) (by kernel_rfl) (by kernel_rfl) (fun _ _ _ h => h) (Or.inl ⟨by rfl, ?hyt112x11⟩) (by assumption) ?restt112x11
            case hyt112x11 => (intro wz hSw; (try dsimp only at hSw); go_simp <;> (try with_reducible rfl))
            try simp only [Act.put, List.setIfInBounds_toArray, List.set_cons_zero, List.set_cons_succ]
            refine wpAnyH_take (i := 12) (oi := ⟨some 32, _, _, _, _, _⟩) (v := ?vt113x12) rfl (by kernel_rfl) (by kernel_rfl) (by kernel_rfl) (fun _ _ _ h => h) (Or.inl ⟨by rfl, ?hyt113x12⟩) (by assumption) ?restt113x12
            case hyt113x12 => (intro wz hSw; (try dsimp only at hSw); go_simp <;> (try with_reducible rfl))
            try simp only [Act.put, List.setIfInBounds_toArray, List.set_cons_zero, List.set_cons_succ]
            refine wpAnyH_take (i := 13) (oi := ⟨some 33, _, _, _, _, _⟩) (v := ?vt114x13) rfl (by kernel_rfl) (by kernel_rfl) (by kernel_rfl) (fun _ _ _ h => h) (Or.inl ⟨by rfl, ?hyt114x13⟩) (by assumption) ?restt114x13
            case hyt114x13 => (intro wz hSw; (try dsimp only at hSw); go_simp <;> (try with_reducible rfl))
            try simp only [Act.put, List.setIfInBounds_toArray, List.set_cons_zero, List.set_cons_succ]
            refine wpAnyH_take (i := 14) (oi := ⟨some 34, _, _, _, _, _⟩) (v := ?vt115x14) rfl (by kernel_rfl) (by kernel_rfl) (by kernel_rfl) (fun _ _ _ h => h) (Or.inl ⟨by rfl, ?hyt115x14⟩) (by assumption) ?restt115x14
            case hyt115x14 => (intro wz hSw; (try dsimp only at hSw); go_simp <;> (try with_reducible rfl))
            try simp only [Act.put, List.setIfInBounds_toArray, List.set_cons_zero, List.set_cons_succ]
            refine wpAnyH_ready (rs := [15]) (by kernel_rfl) (by simp) (AllReadyH.cons (o := ⟨some 35, _, _, _, _, _⟩) rfl (fun K hK => ?_) AllReadyH.nil)
            go_simp
            go_at_call 45
            refine KT.out.mono ?_
            rintro e w2 ⟨rfl, hDX, g1, g2⟩
            have HDX0 := keep hDX
            have HDX := keep (show HD lo ow R.b R.r R.fm fr T (W.alloc (.cells #[.bool ym, .int .u8 yk, .int .u16 yq, .int .u32 yt, .int .u32 yo, .slice y1 y2 y3] 26)) (i + 1) w2 from HDX0.out)
            have HS9 := keep (HSX.out w2 g1 g2)
            clear hDX g1 g2 HDX0
            (try go_wp2_with fail)
            refine hK.out _ _ HS9.out (fun hHeld => ?_)
            clear hK K
            try simp only [Act.put, List.setIfInBounds_toArray, List.set_cons_zero, List.set_cons_succ]
            refine wpAnyH_take (i := 16) (oi := ⟨some 36, _, _, _, _, _⟩) (v := ?vt116x16) rfl (by kernel_rfl) (by kernel_rfl) (by kernel_rfl) (fun _ _ _ h => h) (Or.inl ⟨by rfl, ?hyt116x16⟩) (by assumption) ?restt116x16
            case hyt116x16 => (intro wz hSw; (try dsimp only at hSw); go_simp <;> (try with_reducible rfl))
            try simp only [Act.put, List.setIfInBounds_toArray, List.set_cons_zero, List.set_cons_succ]
            refine wpAnyH_done (by kernel_rfl) ?_ _
            go_wp2
            go_roundw
            case rel => exact ⟨i + 1, by simp, by rw [HN.out]; rfl, HLT.out, HDX⟩
            all_goals (have := HLT.out; simp [intOf]; omega)
          | true =>
            go_wp2_with fail
            refine wp_region_held_drew (S := (fun w' => w'.cell? ⟨R.b, 0, none⟩ = some (.int .i64 (R.room : Int)) ∧ w'.cell? ⟨W.heap.size, 0, none⟩ = some (.bool ym) ∧ w'.cell? ⟨W.heap.size, 1, none⟩ = some (.int .u8 yk) ∧ w'.cell? ⟨W.heap.size, 2, none⟩ = some (.int .u16 yq) ∧ w'.cell? ⟨W.heap.size, 3, none⟩ = some (.int .u32 yt) ∧ w'.cell? ⟨W.heap.size, 4, none⟩ = some (.int .u32 yo) ∧ w'.cell? ⟨W.heap.size, 5, none⟩ = some (.slice y1 y2 y3))) (by kernel_rfl) (HSX.out _ rfl rfl) (fun hHeld => ?_)
            refine wpAnyH_take (i := 0) (oi := ⟨some 20, _, _, _, _, _⟩) (v := ?vt21x0) rfl (by kernel_rfl) (by kernel_rfl) (by kernel_rfl) (fun _ _ _ h => h) (Or.inl ⟨by rfl, ?hyt21x0⟩) (by assumption) ?restt21x0
            case hyt21x0 => (intro wz hSw; (try dsimp only at hSw); go_simp <;> (try with_reducible rfl))
            try simp only [Act.put, List.setIfInBounds_toArray, List.set_cons_zero, List.set_cons_succ]
            refine wpAnyH_take (i := 1) (oi := ⟨some 21, _, _, _, _, _⟩) (v := ?vt22x1) rfl (by kernel_rfl) (by kernel_rfl) (by kernel_rfl) (fun _ _ _ h => h) (Or.inl ⟨by rfl, ?hyt22x1⟩) (by assumption) ?restt22x1
            case hyt22x1 => (intro wz hSw; (try dsimp only at hSw); go_simp <;> (try with_reducible rfl))
            try simp only [Act.put, List.setIfInBounds_toArray, List.set_cons_zero, List.set_cons_succ]
            refine wpAnyH_take (i := 2) (oi := ⟨some 22, _, _, _, _, _⟩) (v := ?vt23x2) rfl (by kernel_rfl) (by kernel_rfl) (by kernel_rfl) (fun _ _ _ h => h) (Or.inl ⟨by rfl, ?hyt23x2⟩) (by assumption) ?restt23x2
            case hyt23x2 => (intro wz hSw; (try dsimp only at hSw); go_simp <;> (try with_reducible rfl))
            try simp only [Act.put, List.setIfInBounds_toArray, List.set_cons_zero, List.set_cons_succ]
            refine wpAnyH_take (i := 3) (oi := ⟨some 23, _, _, _, _, _⟩) (v := ?vt24x3) rfl (by kernel_rfl) (by kernel_rfl) (by kernel_rfl) (fun _ _ _ h => h) (Or.inl ⟨by rfl, ?hyt24x3⟩) (by assumption) ?restt24x3
            case hyt24x3 => (intro wz hSw; (try dsimp only at hSw); go_simp <;> (try with_reducible rfl))
            try simp only [Act.put, List.setIfInBounds_toArray, List.set_cons_zero, List.set_cons_succ]
            refine wpAnyH_take (i := 4) (oi := ⟨some 24, _, _, _, _, _⟩) (v := ?vt25x4) rfl (by kernel_rfl) (by kernel_rfl) (by kernel_rfl) (fun _ _ _ h => h) (Or.inl ⟨by rfl, ?hyt25x4⟩) (by assumption) ?restt25x4
            case hyt25x4 => (intro wz hSw; (try dsimp only at hSw); go_simp <;> (try with_reducible rfl))
            try simp only [Act.put, List.setIfInBounds_toArray, List.set_cons_zero, List.set_cons_succ]
            refine wpAnyH_take (i := 5) (oi := ⟨some 25, _, _, _, _, _⟩) (v := ?vt26x5) rfl (by kernel_rfl) (by kernel_rfl) (by kernel_rfl) (fun _ _ _ h => h) (Or.inl ⟨by rfl, ?hyt26x5⟩) (by assumption) ?restt26x5
            case hyt26x5 => (intro wz hSw; (try dsimp only at hSw); go_simp <;> (try with_reducible rfl))
            try simp only [Act.put, List.setIfInBounds_toArray, List.set_cons_zero, List.set_cons_succ]
            refine wpAnyH_take (i := 6) (oi := ⟨some 26, _, _, _, _, _⟩) (v := ?vt27x6) rfl (by kernel_rfl) (by kernel_rfl) (by kernel_rfl) (fun _ _ _ h => h) (Or.inl ⟨by rfl, ?hyt27x6⟩) (by assumption) ?restt27x6
            case hyt27x6 => (intro wz hSw; (try dsimp only at hSw); go_simp <;> (try with_reducible rfl))
            try simp only [Act.put, List.setIfInBounds_toArray, List.set_cons_zero, List.set_cons_succ]
            refine wpAnyH_take (i := 7) (oi := ⟨some 27, _, _, _, _, _⟩) (v := ?vt28x7) rfl (by kernel_rfl) (by kernel_rfl) (by kernel_rfl) (fun _ _ _ h => h) (Or.inl ⟨by rfl, ?hyt28x7⟩) (by assumption) ?restt28x7
            case hyt28x7 => (intro wz hSw; (try dsimp only at hSw); go_simp <;> (try with_reducible rfl))
            try simp only [Act.put, List.setIfInBounds_toArray, List.set_cons_zero, List.set_cons_succ]
            refine wpAnyH_take (i := 8) (oi := ⟨some 28, _, _, _, _, _⟩) (v := ?vt29x8) rfl (by kernel_rfl) (by kernel_rfl) (by kernel_rfl) (fun _ _ _ h => h) (Or.inl ⟨by rfl, ?hyt29x8⟩) (by assumption) ?restt29x8
            case hyt29x8 => (intro wz hSw; (try dsimp only at hSw); go_simp <;> (try with_reducible rfl))
            try simp only [Act.put, List.setIfInBounds_toArray, List.set_cons_zero, List.set_cons_succ]
            refine wpAnyH_take (i := 9) (oi := ⟨some 29, _, _, _, _, _⟩) (v := ?vt210x9) rfl (by kernel_rfl) (by kernel_rfl) (by kernel_rfl) (fun _ _ _ h => h) (Or.inl ⟨by rfl, ?hyt210x9⟩) (by assumption) ?restt210x9
            case hyt210x9 => (intro wz hSw; (try dsimp only at hSw); go_simp <;> (try with_reducible rfl))
            try simp only [Act.put, List.setIfInBounds_toArray, List.set_cons_zero, List.set_cons_succ]
            refine wpAnyH_take (i := 10) (oi := ⟨some 30, _, _, _, _, _⟩) (v := ?vt211x10) rfl (by kernel_rfl) (by kernel_rfl) (by kernel_rfl) (fun _ _ _ h => h) (Or.inl ⟨by rfl, ?hyt211x10⟩) (by assumption) ?restt211x10
            case hyt211x10 => (intro wz hSw; (try dsimp only at hSw); go_simp <;> (try with_reducible rfl))
            try simp only [Act.put, List.setIfInBounds_toArray, List.set_cons_zero, List.set_cons_succ]
            refine wpAnyH_take (i := 11) (oi := ⟨some 31, _, _, _, _, _⟩) (v := ?vt212x11) rfl (by kernel_rfl) (by kernel_rfl) (by kernel_rfl) (fun _ _ _ h => h) (Or.inl ⟨by rfl, ?hyt212x11⟩) (by assumption) ?restt212x11
            case hyt212x11 => (intro wz hSw; (try dsimp only at hSw); go_simp <;> (try with_reducible rfl))
            try simp only [Act.put, List.setIfInBounds_toArray, List.set_cons_zero, List.set_cons_succ]
            refine wpAnyH_take (i := 12) (oi := ⟨some 32, _, _, _, _, _⟩) (v := ?vt213x12) rfl (by kernel_rfl) (by kernel_rfl) (by kernel_rfl) (fun _ _ _ h => h) (Or.inl ⟨by rfl, ?hyt213x12⟩) (by assumption) ?restt213x12
            case hyt213x12 => (intro wz hSw; (try dsimp only at hSw); go_simp <;> (try with_reducible rfl))
            try simp only [Act.put, List.setIfInBounds_toArray, List.set_cons_zero, List.set_cons_succ]
            refine wpAnyH_take (i := 13) (oi := ⟨some 33, _, _, _, _, _⟩) (v := ?vt214x13) rfl (by kernel_rfl) (by kernel_rfl) (by kernel_rfl) (fun _ _ _ h => h) (Or.inl ⟨by rfl, ?hyt214x13⟩) (by assumption) ?restt214x13
            case hyt214x13 => (intro wz hSw; (try dsimp only at hSw); go_simp <;> (try with_reducible rfl))
            try simp only [Act.put, List.setIfInBounds_toArray, List.set_cons_zero, List.set_cons_succ]
            refine wpAnyH_take (i := 14) (oi := ⟨some 34, _, _, _, _, _⟩) (v := ?vt215x14) rfl (by kernel_rfl) (by kernel_rfl) (by kernel_rfl) (fun _ _ _ h => h) (Or.inl ⟨by rfl, ?hyt215x14⟩) (by assumption) ?restt215x14
            case hyt215x14 => (intro wz hSw; (try dsimp only at hSw); go_simp <;> (try with_reducible rfl))
            try simp only [Act.put, List.setIfInBounds_toArray, List.set_cons_zero, List.set_cons_succ]
            refine wpAnyH_ready (rs := [15]) (by kernel_rfl) (by simp) (AllReadyH.cons (o := ⟨some 35, _, _, _, _, _⟩) rfl (fun K hK => ?_) AllReadyH.nil)
            go_simp
            go_at_call 45
            refine KT.out.mono ?_
            rintro e w2 ⟨rfl, hDX, g1, g2⟩
            have HDX0 := keep hDX
            have HDX := keep (show HD lo ow R.b R.r R.fm fr T (W.alloc (.cells #[.bool ym, .int .u8 yk, .int .u16 yq, .int .u32 yt, .int .u32 yo, .slice y1 y2 y3] 26)) (i + 1) w2 from HDX0.out)
            have HS9 := keep (HSX.out w2 g1 g2)
            clear hDX g1 g2 HDX0
            (try go_wp2_with fail)
            refine hK.out _ _ HS9.out (fun hHeld => ?_)
            clear hK K
            try simp only [Act.put, List.setIfInBounds_toArray, List.set_cons_zero, List.set_cons_succ]
            refine wpAnyH_take (i := 16) (oi := ⟨some 36, _, _, _, _, _⟩) (v := ?vt216x16) rfl (by kernel_rfl) (by kernel_rfl) (by kernel_rfl) (fun _ _ _ h => h) (Or.inl ⟨by rfl, ?hyt216x16⟩) (by assumption) ?restt216x16
            case hyt216x16 => (intro wz hSw; (try dsimp only at hSw); go_simp <;> (try with_reducible rfl))
            try simp only [Act.put, List.setIfInBounds_toArray, List.set_cons_zero, List.set_cons_succ]
            refine wpAnyH_done (by kernel_rfl) ?_ _
            go_wp2
            go_roundw
            case rel => exact ⟨i + 1, by simp, by rw [HN.out]; simp, HLT.out, HDX⟩
            all_goals (have := HLT.out; simp [intOf]; omega)
    · obtain rfl : i = R.np := by omega
      have HFI := keep (HEND.out _ hD.out)
      clear hD HEND HD0
      go_wp2
      go_ret
      exact ⟨rfl, HFI.out⟩
end
end Go.Proofs.Ytacmfoljbjdcjaa
