/- Package topic: New, Join, Leave. -/
import Derived.Test.YtnbicbnighpkjaaYC
namespace Go.Proofs.Ytnbicbnighpkjaa
open Go.RowKit Go.Maps
set_option linter.unusedVariables false
set_option linter.unusedSimpArgs false

def clampT (n : Int) (mx : Nat) : Nat := if n < 1 ∨ (mx : Int) < n then mx else n.toNat
theorem clampT_le (n : Int) {mx : Nat} (h : 1 ≤ mx) : 1 ≤ clampT n mx ∧ clampT n mx ≤ mx := by unfold clampT; split <;> omega
def newM (np room : Nat) : Mo := ⟨np, room, fun _ => none, fun _ => 0, 0⟩
def owNew (k : Nat) : Ow := fun i => if i = k then some .jn else if i = k + 1 then some .pub else if i = k + 2 then some .rel else none
theorem new_rl (W : World) (np room : Nat) (hn : 1 ≤ np ∧ np ≤ 16) (hr : 1 ≤ room ∧ room ≤ 64) {lo : Nat} (hlo : lo ≤ W.heap.size) :
    RL lo (owNew W.heap.size) (W.heap.size + 2) (newM np room) (((W.alloc (.map #[] 0)).alloc (.map #[] 0)).alloc (.cells #[.int .i64 np, .int .i64 room, .map (some W.heap.size), .map (some (W.heap.size + 1))] 63)) := by
  have b1 := below_lay W (.map #[] 0)
  have b2 := below_lay (W.alloc (.map #[] 0)) (.map #[] 0)
  have b3 := below_lay ((W.alloc (.map #[] 0)).alloc (.map #[] 0)) (.cells #[.int .i64 np, .int .i64 room, .map (some W.heap.size), .map (some (W.heap.size + 1))] 63)
  have s1 : (W.alloc (.map #[] 0)).heap.size = W.heap.size + 1 := by simp
  have s2 : ((W.alloc (.map #[] 0)).alloc (.map #[] 0)).heap.size = W.heap.size + 2 := by simp
  have m1 := MapV.made W 3 .i64
  have m2 := MapS.made (W.alloc (.map #[] 0)) 9
  rw [s1] at m2
  have e1 : Gr.js ⟨W.heap.size + 2, W.heap.size, W.heap.size + 1, 0, 0, np, room, fun _ => none, fun _ => none, 0⟩ = fun _ => none := by
    funext i
    unfold Gr.js
    by_cases h : 0 ≤ i
    · rw [if_pos h]; rfl
    · rw [if_neg h]
  have hsz : (((W.alloc (.map #[] 0)).alloc (.map #[] 0)).alloc (.cells #[.int .i64 np, .int .i64 room, .map (some W.heap.size), .map (some (W.heap.size + 1))] 63)).heap.size = W.heap.size + 3 := by simp
  refine ⟨⟨W.heap.size + 2, W.heap.size, W.heap.size + 1, 0, 0, np, room, fun _ => none, fun _ => none, 0⟩, ⟨?_, ?_, ?_, ?_, ?_, ?_, fun n m hm => (by cases hm), ⟨fun k t hk => ?_, fun k t hk => ?_⟩, (by rw [hsz]; omega), hn, hr, Nat.le_refl _, Nat.le_refl _, fun s k hk => (by cases hk)⟩, rfl, rfl⟩
  · have := heap_alloc_new ((W.alloc (.map #[] 0)).alloc (.map #[] 0)) (.cells #[.int .i64 np, .int .i64 room, .map (some W.heap.size), .map (some (W.heap.size + 1))] 63)
    rw [s2] at this
    exact this
  · show owNew W.heap.size (W.heap.size + 2) = _
    unfold owNew
    rw [if_neg (by omega), if_neg (by omega), if_pos rfl]
  · rw [e1]
    exact (m1.kept (Part.of_below (fun _ => False) b2) fun h => h).kept (Part.of_below (fun _ => False) b3) fun h => h
  · show owNew W.heap.size W.heap.size = _
    unfold owNew
    rw [if_pos rfl]
  · exact m2.kept (Part.of_below (fun _ => False) b3) fun h => h
  · show owNew W.heap.size (W.heap.size + 1) = _
    unfold owNew
    rw [if_neg (by omega), if_pos rfl]
  · unfold owNew at hk
    split at hk
    · omega
    · split at hk
      · omega
      · split at hk
        · omega
        · cases hk
  · rw [hsz]
    unfold owNew at hk
    split at hk
    · omega
    · split at hk
      · omega
      · split at hk
        · omega
        · cases hk
set_option maxHeartbeats 2000000 in
theorem New_any (a r : Int) (W : World) {lo : Nat} (hlo : lo ≤ W.heap.size) : Calls Try.prog 12 #[.int .i64 a, .int .i64 r] W fun e w' => e = .returned (ptr (W.heap.size + 2)) ∧ RL lo (owNew W.heap.size) (W.heap.size + 2) (newM (clampT a 16) (clampT r 64)) w' ∧ Below W.heap.size W w' := by
  have HF := keep fun np room hn hr => new_rl W np room hn hr hlo
  have HB := keep fun (np room : Nat) => up (up (below_lay W (.map #[] 0)) (below_lay _ (.map #[] 0))) (below_lay _ (.cells #[.int .i64 np, .int .i64 room, .map (some W.heap.size), .map (some (W.heap.size + 1))] 63))
  have hmm := @run_makeMap Try.prog
  have h1 := clampT_le a (mx := 16) (by decide)
  have h2 := clampT_le r (mx := 64) (by decide)
  obtain ⟨x, hx⟩ : ∃ x, clampT a 16 = x := ⟨_, rfl⟩
  obtain ⟨y, hy⟩ : ∃ y, clampT r 64 = y := ⟨_, rfl⟩
  have HG := keep (And.intro (HF.out x y (by rw [← hx]; exact h1) (by rw [← hy]; exact h2)) (HB.out x y))
  rw [hx, hy]
  clear HF HB hlo h1 h2
  unfold ptr
  by_cases a1 : a < 1 ∨ 16 < a
  · obtain rfl : x = 16 := by rw [← hx]; exact if_pos (show a < 1 ∨ ((16 : Nat) : Int) < a from a1)
    clear hx
    by_cases r1 : r < 1 ∨ 64 < r
    · obtain rfl : y = 64 := by rw [← hy]; exact if_pos (show r < 1 ∨ ((64 : Nat) : Int) < r from r1)
      clear hy
      rcases a1 with a1 | a1 <;> rcases r1 with r1 | r1
      all_goals
        go_enter Try.func12, Try.ntmps12
        go_wp2
        go_ret
        exact ⟨rfl, HG.out⟩
    · obtain rfl : (y : Int) = r := by rw [← hy, show clampT r 64 = r.toNat from if_neg (show ¬ (r < 1 ∨ ((64 : Nat) : Int) < r) from r1)]; omega
      clear hy
      have r2 : ¬ (y : Int) < 1 := by omega
      have r3 : ¬ 64 < (y : Int) := by omega
      clear r1
      rcases a1 with a1 | a1
      all_goals
        go_enter Try.func12, Try.ntmps12
        go_wp2
        go_ret
        exact ⟨rfl, HG.out⟩
  · obtain rfl : (x : Int) = a := by rw [← hx, show clampT a 16 = a.toNat from if_neg (show ¬ (a < 1 ∨ ((16 : Nat) : Int) < a) from a1)]; omega
    clear hx
    have a2 : ¬ (x : Int) < 1 := by omega
    have a3 : ¬ 16 < (x : Int) := by omega
    clear a1
    by_cases r1 : r < 1 ∨ 64 < r
    · obtain rfl : y = 64 := by rw [← hy]; exact if_pos (show r < 1 ∨ ((64 : Nat) : Int) < r from r1)
      clear hy
      rcases r1 with r1 | r1
      all_goals
        go_enter Try.func12, Try.ntmps12
        go_wp2
        go_ret
        exact ⟨rfl, HG.out⟩
    · obtain rfl : (y : Int) = r := by rw [← hy, show clampT r 64 = r.toNat from if_neg (show ¬ (r < 1 ∨ ((64 : Nat) : Int) < r) from r1)]; omega
      clear hy
      have r2 : ¬ (y : Int) < 1 := by omega
      have r3 : ¬ 64 < (y : Int) := by omega
      clear r1
      go_enter Try.func12, Try.ntmps12
      go_wp2
      go_ret
      exact ⟨rfl, HG.out⟩
def joinE (M : Mo) (p : Int) : Int := if hasB M p = false then 1 else if (M.at p).isSome = true then 8 else 0
def joinM (M : Mo) (p : Int) : Mo := if joinE M p = 0 then { M with P := putN M.P p.toNat (some ptZ), u := M.u + 1 } else M
def leaveE (M : Mo) (p : Int) : Int := if hasB M p = false then 1 else if (M.at p).isSome = true then 0 else 11
def leaveM (M : Mo) (p : Int) : Mo := if leaveE M p = 0 then { M with P := putN M.P p.toNat none } else M
theorem hasB_iff {M : Mo} {p : Int} : hasB M p = true ↔ 0 ≤ p ∧ p < (M.np : Int) := by unfold hasB; simp
section
variable {lo : Nat} {ow : Ow} {R : Gr} {W : World}
theorem RA.rl (h : RA lo ow R W) : RL lo ow R.b R.mo W := ⟨R, h, rfl, rfl⟩
/-- A party joins. -/
theorem RA.join (h : RA lo ow R W) {p : Int} (hp : 0 ≤ p) (hp2 : p < (R.np : Int)) {w4 : World} (hM : MapV w4 3 .i64 R.j (R.cj + 1) (putV R.js p (ptr (W.heap.size + 1))))
    (hg : ((W.alloc (.map #[] 0)).alloc (.cells #[.map (some W.heap.size), .slice none 0 0, .int .i64 0] 79)).grownBy w4 (some R.j)) :
    RP lo ow W R.b { R.mo with P := putN R.mo.P p.toNat (some ptZ), u := R.mo.u + 1 } w4 := by
  have b1 := below_lay W (.map #[] 0)
  have b2 := below_lay (W.alloc (.map #[] 0)) (.cells #[.map (some W.heap.size), .slice none 0 0, .int .i64 0] 79)
  have b3 := b1.trans (b2.mono b1.size)
  have s1 : (W.alloc (.map #[] 0)).heap.size = W.heap.size + 1 := by simp
  have s2 : ((W.alloc (.map #[] 0)).alloc (.cells #[.map (some W.heap.size), .slice none 0 0, .int .i64 0] 79)).heap.size = W.heap.size + 2 := by simp
  have hp4 : Part (fun i => i = R.j) ((W.alloc (.map #[] 0)).alloc (.cells #[.map (some W.heap.size), .slice none 0 0, .int .i64 0] 79)) w4 := Part.of_grown hg fun k hk => by injection hk with hk; exact hk.symm
  have hpw : Part (fun i => i = R.j) W w4 := (Part.of_below _ b3).trans hp4 fun i hi => .inl hi
  have hjl := h.jn.lt
  have n1 : W.heap.size ≠ R.j := by omega
  have n2 : W.heap.size + 1 ≠ R.j := by omega
  have hs4 : W.heap.size + 2 ≤ w4.heap.size := by have := hp4.size; omega
  have he : Ext W ow ((ow.put W.heap.size (.sm p.toNat)).put (W.heap.size + 1) (.mem p.toNat)) := ((Ext.refl W ow).put (Nat.le_refl _) _).put (by omega) _
  have ho : Ok lo ((ow.put W.heap.size (.sm p.toNat)).put (W.heap.size + 1) (.mem p.toNat)) w4 := (h.ok.put (W' := w4) _ h.lo (by omega) hpw.size).put _ (by have := h.lo; omega) (by omega) (Nat.le_refl _)
  have hpa : Part (All ow) W w4 := hpw.mono fun k hk => by subst hk; exact ⟨_, h.oj, by simp⟩
  have t1 : ((ow.put W.heap.size (.sm p.toNat)).put (W.heap.size + 1) (.mem p.toNat)) (W.heap.size + 1) = some (.mem p.toNat) := put_same
  have t2 : ((ow.put W.heap.size (.sm p.toNat)).put (W.heap.size + 1) (.mem p.toNat)) W.heap.size = some (.sm p.toNat) := (put_other (by omega)).trans put_same
  have hmb : ((W.alloc (.map #[] 0)).alloc (.cells #[.map (some W.heap.size), .slice none 0 0, .int .i64 0] 79)).heap[W.heap.size + 1]? = some (.cells #[.map (some W.heap.size), .slice none 0 0, .int .i64 0] 79 (0, 0)) := by
    have := heap_alloc_new (W.alloc (.map #[] 0)) (.cells #[.map (some W.heap.size), .slice none 0 0, .int .i64 0] 79)
    rw [s1] at this
    exact this
  have hmm : MapS w4 9 W.heap.size 0 fun _ => none := ((MapS.made W 9).kept (Part.of_below (fun _ => False) b2) (fun h => h)).kept hp4 n1
  have hma : MA lo ((ow.put W.heap.size (.sm p.toNat)).put (W.heap.size + 1) (.mem p.toNat)) p.toNat ⟨W.heap.size + 1, W.heap.size, 0, fun _ => none, (none, 0, 0), [], 0⟩ w4 :=
    ⟨(hp4.block _ (by omega) n2).trans hmb, t1, hmm, t2, fun s x hx => (by cases hx), ⟨rfl, .inl ⟨rfl, rfl⟩⟩, fun a ha => (by cases ha), fun x hx => (by simp at hx), Nat.zero_le _, Nat.zero_le _, Nat.zero_le _⟩
  refine ⟨_, ⟨{ R with P := putN R.P p.toNat (some ⟨W.heap.size + 1, W.heap.size, 0, fun _ => none, (none, 0, 0), [], 0⟩), cj := R.cj + 1, u := R.u + 1 }, ⟨(hpw.block _ h.lt (tag_ne h.ob h.oj (by simp))).trans h.hd, (he _ h.lt).trans h.ob, ?_, (he _ hjl).trans h.oj, h.pb.kept hpw (tag_ne h.oq h.oj (by simp)), (he _ h.pb.lt).trans h.oq, fun k z hz => ?_, ho, Nat.le_trans h.lo hpw.size, h.np, h.rm, ?_, ?_, fun s k hk => ?_⟩, rfl, ?_⟩, he, hpa⟩
  · have : Gr.js { R with P := putN R.P p.toNat (some ⟨W.heap.size + 1, W.heap.size, 0, fun _ => none, (none, 0, 0), [], 0⟩), cj := R.cj + 1, u := R.u + 1 } = putV R.js p (ptr (W.heap.size + 1)) := by
      funext i
      unfold Gr.js putV putN
      dsimp only
      by_cases e : i = p
      · subst e
        rw [if_pos hp, if_pos rfl, if_pos rfl]
        rfl
      · rw [if_neg e]
        by_cases h0 : 0 ≤ i
        · rw [if_pos h0, if_neg (by omega), if_pos h0]
        · rw [if_neg h0, if_neg h0]
    rw [this]
    exact hM
  · dsimp only at hz
    by_cases e : k = p.toNat
    · subst e
      rw [putN_same] at hz
      injection hz with hz
      subst hz
      exact ⟨hma, by show p.toNat < R.np; omega, Nat.zero_le _, Nat.zero_le _⟩
    · rw [putN_ne _ _ e] at hz
      obtain ⟨z1, z2, z3, z4⟩ := h.ms k z hz
      exact ⟨z1.keep hpw (fun i hi => by subst hi; exact ⟨by rw [h.oj]; simp, fun ⟨t, q1, q2⟩ => by rw [h.oj] at q1; injection q1 with q1; rw [← q1] at q2; cases q2⟩) he, z2, z3, by show z.lost ≤ R.u + 1; omega⟩
  · have := h.cj; show R.cj + 1 ≤ R.u + 1; omega
  · have := h.cq; show R.cq ≤ R.u + 1; omega
  · have := h.nu s k hk; show k ≤ R.u + 1; omega
  · unfold Gr.mo
    dsimp only
    congr 1
    funext k
    by_cases e : k = p.toNat
    · subst e
      rw [putN_same, putN_same]
      rfl
    · rw [putN_ne _ _ e, putN_ne _ _ e]
/-- A party leaves. -/
theorem RA.leave (h : RA lo ow R W) {p : Int} (hp : 0 ≤ p) {w4 : World} {c' : Nat} (hc : c' ≤ R.cj) (hM : MapV w4 3 .i64 R.j c' (delV R.js p)) (hg : W.grownBy w4 (some R.j)) :
    RP lo ow W R.b { R.mo with P := putN R.mo.P p.toNat none } w4 := by
  have hpw : Part (fun i => i = R.j) W w4 := Part.of_grown hg fun k hk => by injection hk with hk; exact hk.symm
  have hpa : Part (All ow) W w4 := hpw.mono fun k hk => by subst hk; exact ⟨_, h.oj, by simp⟩
  refine ⟨ow, ⟨{ R with P := putN R.P p.toNat none, cj := c' }, ⟨(hpw.block _ h.lt (tag_ne h.ob h.oj (by simp))).trans h.hd, h.ob, ?_, h.oj, h.pb.kept hpw (tag_ne h.oq h.oj (by simp)), h.oq, fun k z hz => ?_, h.ok.step hpw.size, Nat.le_trans h.lo hpw.size, h.np, h.rm, Nat.le_trans hc h.cj, h.cq, h.nu⟩, rfl, ?_⟩, Ext.refl W ow, hpa⟩
  · have : Gr.js { R with P := putN R.P p.toNat none, cj := c' } = delV R.js p := by
      funext i
      unfold Gr.js delV putN
      dsimp only
      by_cases e : i = p
      · subst e
        rw [if_pos hp, if_pos rfl, if_pos rfl]
        rfl
      · rw [if_neg e]
        by_cases h0 : 0 ≤ i
        · rw [if_pos h0, if_neg (by omega), if_pos h0]
        · rw [if_neg h0, if_neg h0]
    rw [this]
    exact hM
  · dsimp only at hz
    by_cases e : k = p.toNat
    · subst e
      rw [putN_same] at hz
      cases hz
    · rw [putN_ne _ _ e] at hz
      obtain ⟨z1, z2⟩ := h.ms k z hz
      exact ⟨z1.keep hpw (fun i hi => by subst hi; exact ⟨by rw [h.oj]; simp, fun ⟨t, q1, q2⟩ => by rw [h.oj] at q1; injection q1 with q1; rw [← q1] at q2; cases q2⟩) (Ext.refl W ow), z2⟩
  · unfold Gr.mo
    dsimp only
    congr 1
    funext k
    by_cases e : k = p.toNat
    · subst e
      rw [putN_same, putN_same]
      rfl
    · rw [putN_ne _ _ e, putN_ne _ _ e]
set_option maxHeartbeats 2000000 in
theorem Join_any (h : RA lo ow R W) {p : Int} (hp : (Lit.int .i64 p).wf = true) (hu : R.u ≤ 100000) : Calls Try.prog 22 #[ptr R.b, .int .i64 p] W fun e w' => e = .returned (.int .i64 (joinE R.mo p)) ∧ RP lo ow W R.b (joinM R.mo p) w' := by
  have K := keep (has_any h p)
  obtain ⟨d0, d1, d2, d3⟩ := h.c0
  have L := h.look hp W rfl
  have hj := R.js_at p
  have hat := R.at_mo p
  have HS := keep (RP.of h.rl (Below.refl _ W))
  cases hb : hasB R.mo p with
  | false =>
    have e1 : joinE R.mo p = 1 := by unfold joinE; rw [if_pos hb]
    have e2 : joinM R.mo p = R.mo := by unfold joinM; rw [e1]; rfl
    rw [e1, e2]
    rw [hb] at K
    clear h hp hu L hj hat e1 e2 hb
    unfold ptr at K ⊢
    go_enter Try.func22, Try.ntmps22
    go_wp2_with (go_at_call 38; refine K.out.mono ?_; rintro e w2 ⟨rfl, rfl⟩)
    go_ret
    exact ⟨rfl, HS.out⟩
  | true =>
    rw [hb] at K
    have hbp := hasB_iff.1 hb
    cases hm : R.at p with
    | some m =>
      rw [hm] at hj hat
      have e1 : joinE R.mo p = 8 := by unfold joinE; rw [if_neg (by rw [hb]; decide), if_pos (by rw [hat]; rfl)]
      have e2 : joinM R.mo p = R.mo := by unfold joinM; rw [e1]; rfl
      rw [e1, e2]
      rw [hj] at L
      dsimp only [Option.map, Option.getD] at L
      clear h hp hu hj hat e1 e2 hb hbp hm
      unfold ptr at K L ⊢
      go_enter Try.func22, Try.ntmps22
      go_wp2_with (go_at_call 38; refine K.out.mono ?_; rintro e w2 ⟨rfl, rfl⟩)
      go_ret
      exact ⟨rfl, HS.out⟩
    | none =>
      rw [hm] at hj hat
      have e1 : joinE R.mo p = 0 := by unfold joinE; rw [if_neg (by rw [hb]; decide), if_neg (by rw [hat]; decide)]
      have e2 : joinM R.mo p = { R.mo with P := putN R.mo.P p.toNat (some ptZ), u := R.mo.u + 1 } := by unfold joinM; rw [e1]; rfl
      rw [e1, e2]
      rw [hj] at L
      dsimp only [Option.map, Option.getD] at L
      have hmm := @run_makeMap Try.prog
      have b1 := below_lay W (.map #[] 0)
      have b2 := below_lay (W.alloc (.map #[] 0)) (.cells #[.map (some W.heap.size), .slice none 0 0, .int .i64 0] 79)
      obtain ⟨w4, hrun4, hM4, hgr4, hsz4⟩ := (h.step (b1.trans (b2.mono b1.size))).jn.store (e := 73) Try.underlying3 Try.underlying60 hp (by have := h.cj; unfold maxLen; omega) (ptr (W.heap.size + 1))
      have hcc : (if (R.js p).isSome = true then R.cj else R.cj + 1) = R.cj + 1 := by rw [hj]; rfl
      rw [hcc] at hM4
      have HF := keep (h.join hbp.1 hbp.2 hM4 hgr4)
      clear h hp hu hj hat e1 e2 hb hbp hm hM4 hgr4 hsz4 b1 b2 hcc HS
      unfold ptr at K hrun4 ⊢
      go_enter Try.func22, Try.ntmps22
      go_wp2_with (go_at_call 38; refine K.out.mono ?_; rintro e w2 ⟨rfl, rfl⟩)
      go_ret
      exact ⟨rfl, HF.out⟩
set_option maxHeartbeats 2000000 in
theorem Leave_any (h : RA lo ow R W) {p : Int} (hp : (Lit.int .i64 p).wf = true) : Calls Try.prog 23 #[ptr R.b, .int .i64 p] W fun e w' => e = .returned (.int .i64 (leaveE R.mo p)) ∧ RP lo ow W R.b (leaveM R.mo p) w' := by
  have K := keep (has_any h p)
  obtain ⟨d0, d1, d2, d3⟩ := h.c0
  have L := h.look hp W rfl
  have hj := R.js_at p
  have hat := R.at_mo p
  have HS := keep (RP.of h.rl (Below.refl _ W))
  cases hb : hasB R.mo p with
  | false =>
    have e1 : leaveE R.mo p = 1 := by unfold leaveE; rw [if_pos hb]
    have e2 : leaveM R.mo p = R.mo := by unfold leaveM; rw [e1]; rfl
    rw [e1, e2]
    rw [hb] at K
    clear h hp L hj hat e1 e2 hb
    unfold ptr at K ⊢
    go_enter Try.func23, Try.ntmps23
    go_wp2_with (go_at_call 38; refine K.out.mono ?_; rintro e w2 ⟨rfl, rfl⟩)
    go_ret
    exact ⟨rfl, HS.out⟩
  | true =>
    rw [hb] at K
    have hbp := hasB_iff.1 hb
    cases hm : R.at p with
    | none =>
      rw [hm] at hj hat
      have e1 : leaveE R.mo p = 11 := by unfold leaveE; rw [if_neg (by rw [hb]; decide), if_neg (by rw [hat]; decide)]
      have e2 : leaveM R.mo p = R.mo := by unfold leaveM; rw [e1]; rfl
      rw [e1, e2]
      rw [hj] at L
      dsimp only [Option.map, Option.getD] at L
      clear h hp hj hat e1 e2 hb hbp hm
      unfold ptr at K ⊢
      go_enter Try.func23, Try.ntmps23
      go_wp2_with (go_at_call 38; refine K.out.mono ?_; rintro e w2 ⟨rfl, rfl⟩)
      go_ret
      exact ⟨rfl, HS.out⟩
    | some m =>
      rw [hm] at hj hat
      have e1 : leaveE R.mo p = 0 := by unfold leaveE; rw [if_neg (by rw [hb]; decide), if_pos (by rw [hat]; rfl)]
      have e2 : leaveM R.mo p = { R.mo with P := putN R.mo.P p.toNat none } := by unfold leaveM; rw [e1]; rfl
      rw [e1, e2]
      rw [hj] at L
      dsimp only [Option.map, Option.getD] at L
      obtain ⟨w4, hrun4, hM4, hgr4, hsz4⟩ := h.jn.drop (e := 73) Try.underlying3 Try.underlying60 hp 0
      have HF := keep (h.leave hbp.1 (Nat.sub_le _ _) hM4 hgr4)
      clear h hp hj hat e1 e2 hb hbp hm hM4 hgr4 hsz4 HS
      unfold ptr at K L ⊢
      go_enter Try.func23, Try.ntmps23
      go_wp2_with (go_at_call 38; refine K.out.mono ?_; rintro e w2 ⟨rfl, rfl⟩)
      go_ret
      exact ⟨rfl, HF.out⟩
end
end Go.Proofs.Ytnbicbnighpkjaa
