/- Package audio: New, Listen, Quiet. -/
import Derived.Test.YtacmfoljbjdcjaaU5
namespace Go.Proofs.Ytacmfoljbjdcjaa
open Go.RowKit Go.Maps
set_option linter.unusedVariables false
set_option linter.unusedSimpArgs false

def clampT (n : Int) (mx : Nat) : Nat := if n < 1 ∨ (mx : Int) < n then mx else n.toNat
theorem clampT_le (n : Int) {mx : Nat} (h : 1 ≤ mx) : 1 ≤ clampT n mx ∧ clampT n mx ≤ mx := by unfold clampT; split <;> omega
def newM (np room : Nat) : Fm := ⟨np, room, fun _ => none, 0⟩
def owNew (g k : Nat) : Ow := fun i => if i = g then some .row else if i = k then some .fwd else none
theorem new_fl (w1 : World) (np room g : Nat) (hn : 1 ≤ np ∧ np ≤ 16) (hr : 1 ≤ room ∧ room ≤ 64) {lo : Nat} (hlo : lo ≤ g) (hg : w1.heap[g]? = some (.cells (List.replicate np (.pointer none)).toArray 77 (0, 0))) :
    FL lo (owNew g w1.heap.size) w1.heap.size g (newM np room) (w1.alloc (.cells #[.int .i64 room, .slice (some ⟨g, 0, none⟩) np np] 75)) := by
  have b1 := below_lay w1 (.cells #[.int .i64 room, .slice (some ⟨g, 0, none⟩) np np] 75)
  have hgl : g < w1.heap.size := (Array.getElem?_eq_some_iff.1 hg).1
  have hsz : (w1.alloc (.cells #[.int .i64 room, .slice (some ⟨g, 0, none⟩) np np] 75)).heap.size = w1.heap.size + 1 := by simp
  refine ⟨⟨w1.heap.size, g, np, room, fun _ => none, 0⟩, ⟨heap_alloc_new w1 _, ?_, ⟨_, (b1.block g hgl).trans hg, by simp, fun i hi => ?_⟩, ?_, fun n m hm => (by cases hm), ⟨fun k t hk => ?_, fun k t hk => ?_⟩, (by rw [hsz]; omega), hn, hr⟩, rfl, rfl, rfl⟩
  · show owNew g w1.heap.size w1.heap.size = _
    unfold owNew
    rw [if_neg (by omega), if_pos rfl]
  · dsimp only at hi
    show (List.replicate np (Value.pointer none)).toArray[i]? = some (.pointer none)
    simp [hi]
  · show owNew g w1.heap.size g = _
    unfold owNew
    rw [if_pos rfl]
  · unfold owNew at hk
    split at hk
    · omega
    · split at hk
      · omega
      · cases hk
  · rw [hsz]
    unfold owNew at hk
    split at hk
    · omega
    · split at hk
      · omega
      · cases hk
/-- A new forwarder. -/
def NewP (W : World) (lo np room : Nat) (e : Ending) (w' : World) : Prop := ∃ b r ow, e = .returned (ptr b) ∧ FL lo ow b r (newM np room) w' ∧ Below W.heap.size W w'
theorem ptr_info : (Try.prog.info? 77).map (fun i => (i.zero, i.size, i.bytes)) = some (some (.pointer none), 1, 8) := by kernel_rfl
theorem info_parts {t : TypeId} {z : Value} {s b : Nat} (h : (Try.prog.info? t).map (fun i => (i.zero, i.size, i.bytes)) = some (some z, s, b)) : ∃ i, Try.prog.info? t = some i ∧ i.zero = some z ∧ i.size = s ∧ i.bytes = b := by
  cases hh : Try.prog.info? t with
  | none => rw [hh] at h; cases h
  | some i =>
    rw [hh] at h
    simp only [Option.map_some, Option.some.injEq, Prod.mk.injEq] at h
    exact ⟨i, rfl, h.1, h.2.1, h.2.2⟩
set_option maxHeartbeats 2000000 in
set_option maxRecDepth 100000 in
theorem New_any (a r : Int) (W : World) {lo : Nat} (hlo : lo ≤ W.heap.size) : Calls Try.prog 17 #[.int .i64 a, .int .i64 r] W (NewP W lo (clampT a 16) (clampT r 64)) := by
  have h1 := clampT_le a (mx := 16) (by decide)
  have h2 := clampT_le r (mx := 64) (by decide)
  obtain ⟨x, hx⟩ : ∃ x, clampT a 16 = x := ⟨_, rfl⟩
  obtain ⟨y, hy⟩ : ∃ y, clampT r 64 = y := ⟨_, rfl⟩
  obtain ⟨i0, hi0, hz0, hz1, hz2⟩ := info_parts ptr_info
  have HG := keep (show ∀ w1 : World, w1.heap[W.heap.size]? = some (.cells (List.replicate x (.pointer none)).toArray 77 (0, 0)) → Below W.heap.size W w1 → NewP W lo x y (.returned (ptr w1.heap.size)) (w1.alloc (.cells #[.int .i64 y, .slice (some ⟨W.heap.size, 0, none⟩) x x] 75)) from fun w1 hg hb =>
    ⟨_, _, _, rfl, new_fl w1 x y W.heap.size (by rw [← hx]; exact h1) (by rw [← hy]; exact h2) hlo hg, hb.trans ((below_lay w1 _).mono hb.size)⟩)
  have HX := keep (show x ≤ 16 by rw [← hx]; exact h1.2)
  rw [hx, hy]
  clear hlo h1 h2
  unfold ptr at HG
  have fin : ∀ (A' R' : Int), A' = (x : Int) → R' = (y : Int) → True := fun _ _ _ _ => trivial
  by_cases a1 : a < 1 ∨ 16 < a
  · obtain rfl : x = 16 := by rw [← hx]; exact if_pos (show a < 1 ∨ ((16 : Nat) : Int) < a from a1)
    clear hx
    by_cases r1 : r < 1 ∨ 64 < r
    · obtain rfl : y = 64 := by rw [← hy]; exact if_pos (show r < 1 ∨ ((64 : Nat) : Int) < r from r1)
      clear hy
      rcases a1 with a1 | a1 <;> rcases r1 with r1 | r1
      all_goals
        go_enter Try.func17, Try.ntmps17
        go_wp2_with (at_make; refine wpl_make rfl _ _ 73 rfl 77 i0 (.pointer none) Try.underlying73 hi0 hz0 hz1 rfl 16 _ rfl rfl rfl (by rw [hz2]; omega) (by unfold maxLen; omega) ?_; intro w1 hg1 hb1 hs1; replace hb1 := keep hb1; replace hs1 := keep hs1)
        go_ret
        exact HG.out _ hg1.out hb1.out
    · obtain rfl : (y : Int) = r := by rw [← hy, show clampT r 64 = r.toNat from if_neg (show ¬ (r < 1 ∨ ((64 : Nat) : Int) < r) from r1)]; omega
      clear hy
      have r2 : ¬ (y : Int) < 1 := by omega
      have r3 : ¬ 64 < (y : Int) := by omega
      clear r1
      rcases a1 with a1 | a1
      all_goals
        go_enter Try.func17, Try.ntmps17
        go_wp2_with (at_make; refine wpl_make rfl _ _ 73 rfl 77 i0 (.pointer none) Try.underlying73 hi0 hz0 hz1 rfl 16 _ rfl rfl rfl (by rw [hz2]; omega) (by unfold maxLen; omega) ?_; intro w1 hg1 hb1 hs1; replace hb1 := keep hb1; replace hs1 := keep hs1)
        go_ret
        exact HG.out _ hg1.out hb1.out
  · obtain rfl : (x : Int) = a := by rw [← hx, show clampT a 16 = a.toNat from if_neg (show ¬ (a < 1 ∨ ((16 : Nat) : Int) < a) from a1)]; omega
    clear hx
    have a2 : ¬ (x : Int) < 1 := by omega
    have a3 : ¬ 16 < (x : Int) := by omega
    clear a1
    by_cases r1 : r < 1 ∨ 64 < r
    · obtain rfl : y = 64 := by rw [← hy]; exact if_pos (show r < 1 ∨ ((64 : Nat) : Int) < r from r1)
      clear hy
      rcases r1 with r1 | r1
      all_goals
        go_enter Try.func17, Try.ntmps17
        go_wp2_with (at_make; refine wpl_make rfl _ _ 73 rfl 77 i0 (.pointer none) Try.underlying73 hi0 hz0 hz1 rfl x _ rfl rfl rfl (by rw [hz2]; have := HX.out; omega) (by have := HX.out; unfold maxLen; omega) ?_; intro w1 hg1 hb1 hs1; replace hb1 := keep hb1; replace hs1 := keep hs1)
        go_ret
        exact HG.out _ hg1.out hb1.out
    · obtain rfl : (y : Int) = r := by rw [← hy, show clampT r 64 = r.toNat from if_neg (show ¬ (r < 1 ∨ ((64 : Nat) : Int) < r) from r1)]; omega
      clear hy
      have r2 : ¬ (y : Int) < 1 := by omega
      have r3 : ¬ 64 < (y : Int) := by omega
      clear r1
      go_enter Try.func17, Try.ntmps17
      go_wp2_with (at_make; refine wpl_make rfl _ _ 73 rfl 77 i0 (.pointer none) Try.underlying73 hi0 hz0 hz1 rfl x _ rfl rfl rfl (by rw [hz2]; have := HX.out; omega) (by have := HX.out; unfold maxLen; omega) ?_; intro w1 hg1 hb1 hs1; replace hb1 := keep hb1; replace hs1 := keep hs1)
      go_ret
      exact HG.out _ hg1.out hb1.out
/-- The cells of a listener that is none yet. -/
def spZs : List Value := [.bool false, .int .u32 0, .int .u16 0, .int .u16 0]
def lsZ : Array Value := ((List.replicate 16 spZs).flatten ++ [Value.slice none 0 0, Value.int .i64 0]).toArray
theorem zero_lis : (∀ w, (zeroValue 83).run Try.prog w = .ok (.agg lsZ) w) := fun w => by kernel_rfl
theorem lsZ_lc (b : Nat) : LC ⟨b, fun _ => spZ, (none, 0, 0), [], 0⟩ lsZ := by
  refine ⟨rfl, fun i hi j v hv => ?_, rfl, rfl⟩
  have hj : j < 4 := by
    rcases Nat.lt_or_ge j 4 with h0 | h0
    · exact h0
    · rw [List.getElem?_eq_none (by show 4 ≤ j; exact h0)] at hv; cases hv
  have all : ∀ i : Fin 16, ∀ j : Fin 4, lsZ[i.val * 4 + j.val]? = spZ.cells[j.val]? := by
    intro i j
    obtain ⟨i, hi⟩ := i
    obtain ⟨j, hj⟩ := j
    rcases i with _|_|_|_|_|_|_|_|_|_|_|_|_|_|_|_|i <;> first | omega | (rcases j with _|_|_|_|j <;> first | rfl | omega)
  have := all ⟨i, hi⟩ ⟨j, hj⟩
  rw [this]
  exact hv
def listenE (M : Fm) (p : Int) : Int := if hasB M p = false then 1 else if (M.at p).isSome = true then 8 else 0
def listenM (M : Fm) (p : Int) : Fm := if listenE M p = 0 then { M with P := putN M.P p.toNat (some lmZ) } else M
def quietE (M : Fm) (p : Int) : Int := if hasB M p = false then 1 else if (M.at p).isSome = true then 0 else 11
def quietM (M : Fm) (p : Int) : Fm := if quietE M p = 0 then { M with P := putN M.P p.toNat none } else M
section
variable {lo : Nat} {ow : Ow} {R : Gf} {W : World}
/-- A party listens. -/
theorem FA.listen (h : FA lo ow R W) {n : Nat} (hn : n < R.np) : FP lo ow W R.b R.r { R.fm with P := putN R.fm.P n (some lmZ) } ((W.alloc (.cells lsZ 83)).setCell ⟨R.r, n, none⟩ (.pointer (some ⟨W.heap.size, 0, none⟩))) := by
  have b1 := below_lay W (.cells lsZ 83)
  have s1 : (W.alloc (.cells lsZ 83)).heap.size = W.heap.size + 1 := by simp
  have he : Ext W ow (ow.put W.heap.size (.mem n)) := (Ext.refl W ow).put (Nat.le_refl _) _
  have ho : Ok lo (ow.put W.heap.size (.mem n)) (W.alloc (.cells lsZ 83)) := h.ok.put _ h.lo (by omega) b1.size
  obtain ⟨g1, g2⟩ := h.seat hn (y := some ⟨W.heap.size, fun _ => spZ, (none, 0, 0), [], 0⟩) b1 he ho (fun m hm => by
    injection hm with hm
    subst hm
    exact ⟨⟨⟨_, heap_alloc_new W _, lsZ_lc _⟩, put_same, ⟨rfl, .inl ⟨rfl, rfl⟩⟩, fun a ha => (by cases ha), fun x hx => (by simp at hx), Nat.zero_le _, Nat.zero_le _⟩, Nat.le_refl _, Nat.zero_le _, Nat.zero_le _, fun a ha => (by cases ha)⟩) _ rfl
  exact ⟨_, g1, he, g2⟩
theorem FA.quiet (h : FA lo ow R W) {n : Nat} (hn : n < R.np) : FP lo ow W R.b R.r { R.fm with P := putN R.fm.P n none } (W.setCell ⟨R.r, n, none⟩ (.pointer none)) := by
  obtain ⟨g1, g2⟩ := h.seat hn (y := none) (Below.refl _ W) (Ext.refl W ow) h.ok (fun m hm => by cases hm) _ rfl
  exact ⟨_, g1, Ext.refl W ow, g2⟩
set_option maxHeartbeats 2000000 in
set_option maxRecDepth 100000 in
theorem Listen_any (h : FA lo ow R W) (p : Int) : Calls Try.prog 18 #[ptr R.b, .int .i64 p] W fun e w' => e = .returned (.int .i64 (listenE R.fm p)) ∧ FP lo ow W R.b R.r (listenM R.fm p) w' := by
  have K := keep (has_any h p)
  obtain ⟨d0, d1⟩ := h.c0
  have HS := keep (FP.of h.fl (Below.refl _ W))
  cases hb : hasB R.fm p with
  | false =>
    have e1 : listenE R.fm p = 1 := by unfold listenE; rw [if_pos hb]
    have e2 : listenM R.fm p = R.fm := by unfold listenM; rw [e1]; rfl
    rw [e1, e2]
    rw [hb] at K
    clear h e1 e2 hb
    unfold ptr at K ⊢
    go_enter Try.func18, Try.ntmps18
    go_wp2_with (go_at_call 36; refine K.out.mono ?_; rintro e w2 ⟨rfl, rfl⟩)
    go_ret
    exact ⟨rfl, HS.out⟩
  | true =>
    rw [hb] at K
    obtain ⟨n, rfl, hn, hat, hc, hf⟩ := h.pa_has hb
    have hnI : (n : Int) < (R.np : Int) := by omega
    have hfm := R.at_fm (n : Int)
    unfold Gf.pa at hc
    cases hm : R.at (n : Int) with
    | some m =>
      rw [hm] at hc hfm
      dsimp only at hc
      have e1 : listenE R.fm (n : Int) = 8 := by unfold listenE; rw [if_neg (by rw [hb]; decide), if_pos (by rw [hfm]; rfl)]
      have e2 : listenM R.fm (n : Int) = R.fm := by unfold listenM; rw [e1]; rfl
      rw [e1, e2]
      clear h e1 e2 hb hat hfm hm
      unfold ptr at K hc ⊢
      go_enter Try.func18, Try.ntmps18
      go_wp2_with (go_at_call 36; refine K.out.mono ?_; rintro e w2 ⟨rfl, rfl⟩)
      go_ret
      exact ⟨rfl, HS.out⟩
    | none =>
      rw [hm] at hc hfm
      dsimp only at hc
      have e1 : listenE R.fm (n : Int) = 0 := by unfold listenE; rw [if_neg (by rw [hb]; decide), if_neg (by rw [hfm]; decide)]
      have e2 : listenM R.fm (n : Int) = { R.fm with P := putN R.fm.P n (some lmZ) } := by unfold listenM; rw [e1]; rfl
      rw [e1, e2]
      have HF := keep (h.listen hn)
      rw [World.setCell_alloc_past _ _ _ _ h.ltr] at HF
      obtain ⟨Z, hZ⟩ : ∃ Z, lsZ = Z := ⟨_, rfl⟩
      have zr := zero_lis
      have hrl := h.ltr
      rw [hZ] at HF zr
      clear h e1 e2 hb hat hfm hm hZ
      unfold ptr at K ⊢
      go_enter Try.func18, Try.ntmps18
      go_wp2_with (go_at_call 36; refine K.out.mono ?_; rintro e w2 ⟨rfl, rfl⟩)
      go_ret
      exact ⟨rfl, HF.out⟩
set_option maxHeartbeats 2000000 in
theorem Quiet_any (h : FA lo ow R W) (p : Int) : Calls Try.prog 23 #[ptr R.b, .int .i64 p] W fun e w' => e = .returned (.int .i64 (quietE R.fm p)) ∧ FP lo ow W R.b R.r (quietM R.fm p) w' := by
  have K := keep (has_any h p)
  obtain ⟨d0, d1⟩ := h.c0
  have HS := keep (FP.of h.fl (Below.refl _ W))
  cases hb : hasB R.fm p with
  | false =>
    have e1 : quietE R.fm p = 1 := by unfold quietE; rw [if_pos hb]
    have e2 : quietM R.fm p = R.fm := by unfold quietM; rw [e1]; rfl
    rw [e1, e2]
    rw [hb] at K
    clear h e1 e2 hb
    unfold ptr at K ⊢
    go_enter Try.func23, Try.ntmps23
    go_wp2_with (go_at_call 36; refine K.out.mono ?_; rintro e w2 ⟨rfl, rfl⟩)
    go_ret
    exact ⟨rfl, HS.out⟩
  | true =>
    rw [hb] at K
    obtain ⟨n, rfl, hn, hat, hc, hf⟩ := h.pa_has hb
    have hnI : (n : Int) < (R.np : Int) := by omega
    have hfm := R.at_fm (n : Int)
    unfold Gf.pa at hc
    cases hm : R.at (n : Int) with
    | none =>
      rw [hm] at hc hfm
      dsimp only at hc
      have e1 : quietE R.fm (n : Int) = 11 := by unfold quietE; rw [if_neg (by rw [hb]; decide), if_neg (by rw [hfm]; decide)]
      have e2 : quietM R.fm (n : Int) = R.fm := by unfold quietM; rw [e1]; rfl
      rw [e1, e2]
      clear h e1 e2 hb hat hfm hm
      unfold ptr at K ⊢
      go_enter Try.func23, Try.ntmps23
      go_wp2_with (go_at_call 36; refine K.out.mono ?_; rintro e w2 ⟨rfl, rfl⟩)
      go_ret
      exact ⟨rfl, HS.out⟩
    | some m =>
      rw [hm] at hc hfm
      dsimp only at hc
      have e1 : quietE R.fm (n : Int) = 0 := by unfold quietE; rw [if_neg (by rw [hb]; decide), if_pos (by rw [hfm]; rfl)]
      have e2 : quietM R.fm (n : Int) = { R.fm with P := putN R.fm.P n none } := by unfold quietM; rw [e1]; rfl
      rw [e1, e2]
      have HF := keep (h.quiet hn)
      clear h e1 e2 hb hat hfm hm
      unfold ptr at K hc ⊢
      go_enter Try.func23, Try.ntmps23
      go_wp2_with (go_at_call 36; refine K.out.mono ?_; rintro e w2 ⟨rfl, rfl⟩)
      go_ret
      exact ⟨rfl, HF.out⟩
end
end Go.Proofs.Ytacmfoljbjdcjaa
