/- Package topic: a party subscribes, and drops a subscription. -/
import Derived.Test.YtnbicbnighpkjaaY8
import Derived.Test.YtnbicbnighpkjaaYL
import Derived.Shelf.Strconv.Clone
import Derived.Lib.LazyBuf
namespace Go.Proofs.Ytnbicbnighpkjaa
open Go.RowKit Go.Maps
open Go.Shelf
set_option linter.unusedVariables false
set_option linter.unusedSimpArgs false

theorem liteClone_any (s : ByteArray) (hs : s.size ≤ 281474976710656) (w : World) : Calls Try.prog 48 #[.string s] w fun e w' => e = .returned (.string s) ∧ Below w.heap.size w w' :=
  Any.stringslite_Clone laysClone s w hs
theorem sclone_any (s : ByteArray) (hs : s.size ≤ 281474976710656) (w : World) : Calls Try.prog 41 #[.string s] w fun e w' => e = .returned (.string s) ∧ Below w.heap.size w w' := by
  have K := keep (liteClone_any s hs w)
  go_enter Try.func41, Try.ntmps41
  go_wp2_with (go_at_call 48; refine K.out.mono ?_; rintro e w' ⟨rfl, hb⟩)
  go_ret
  exact ⟨rfl, hb⟩
section
variable {lo n : Nat} {ow : Ow} {m : Gm} {W : World}
theorem MA.len_ (h : MA lo ow n m W) : ∀ W', W'.heap = W.heap → ∀ ty, (Builtin.len_ #[76] ty #[.map (some m.k)]).run Try.prog W' = .ok (.int .i64 m.c) W' := fun W' hW ty => (h.sm.same (w' := W') (by rw [hW])).len (e := 75) Try.underlying76 ty
theorem vs_some {m : Gm} {s : ByteArray} {x : Gs} (h : m.f s = some x) : m.vs s = some (ptr x.b) := by unfold Gm.vs; rw [h]; rfl
theorem vs_none {m : Gm} {s : ByteArray} (h : m.f s = none) : m.vs s = none := by unfold Gm.vs; rw [h]; rfl

set_option maxHeartbeats 4000000 in
set_option maxRecDepth 1000000 in
theorem subscribe_any (h : MA lo ow n m W) (ho : Ok lo ow W) (hlo : lo ≤ W.heap.size) {t : ByteArray} (ht : t.size ≤ 256) {md : Int} (hm : 0 ≤ md ∧ md ≤ 2) :
    Calls Try.prog 39 #[ptr m.b, .string t, .int .i64 md] W fun e w' => e = .returned (.int .i64 (subE m.pt t)) ∧ MP lo n ow W m (subP m.pt t md) w' := by
  obtain ⟨d0, d1, d2⟩ := h.c0
  have L := h.look t (by omega) W rfl
  have LL := fun ty => h.len_ W rfl ty
  have hcl := h.cl
  have HMP := keep (MP.of h ho)
  cases hf : m.f t with
  | some x =>
    obtain ⟨hxb, hxo, hxm⟩ := h.sb t x hf
    have x1 := upd_cell hxb 1 _ rfl
    have e4 : m.pt.sub t = some (x.m, x.fl) := by unfold Gm.pt; dsimp only; rw [hf]; rfl
    rw [vs_some hf] at L
    dsimp only [Option.getD] at L
    cases hfl : x.fl with
    | false =>
      have e1 : subE m.pt t = 8 := by unfold subE; rw [e4, hfl]
      have e2 : subP m.pt t md = m.pt := by unfold subP; rw [e1]; rfl
      rw [e1, e2]
      rw [hfl] at x1
      obtain ⟨xb, xm, xf⟩ := x
      unfold ptr at L ⊢
      clear h ho e1 e2 e4 hf hfl hxb hxo hxm hcl
      dsimp only at L x1 ⊢
      go_enter Try.func39, Try.ntmps39
      go_wp2_with fail
      go_ret
      exact ⟨rfl, HMP.out⟩
    | true =>
      have e1 : subE m.pt t = 0 := by unfold subE; rw [e4, hfl]
      have e2 : subP m.pt t md = { m.pt with sub := putF m.pt.sub t (some (md, false)), c := m.c } := by unfold subP; rw [e1, e4]; rfl
      rw [e1, e2]
      rw [hfl] at x1
      have hcc : (if (m.vs t).isSome = true then m.c else m.c + 1) = m.c := by rw [vs_some hf]; rfl
      have hc64 : m.c ≤ 64 := hcl
      clear e1 e2 e4
      have HH := keep (And.intro h (And.intro ho (And.intro hlo (And.intro ht hm))))
      obtain ⟨xb, xm, xf⟩ := x
      unfold ptr at L
      have HXM := keep (And.intro hf hfl)
      clear h ho hf hfl hxb hxo hxm hcl hlo ht hm
      dsimp only at L x1
      unfold ptr
      go_enter Try.func39, Try.ntmps39
      go_wp2_with fail
      have HS0 := keep (show ∀ W' : World, W'.heap[m.b]? = W.heap[m.b]? → W'.cell? ⟨m.b, 0, none⟩ = some (.map (some m.k)) from fun W' g => upd_cell (g.trans HH.out.1.hd) 0 _ rfl)
      replace hcc := keep hcc
      replace hc64 := keep hc64
      clear L LL d0 d1 d2 x1
      have KC := keep fun w => sclone_any t (by have := HH.out.2.2.2.1; omega) w
      have HLT := keep HH.out.1.lt
      have HFIN := keep (show ∀ (g : Nat) (W1 W2 : World), Below W.heap.size W W1 → W.heap.size ≤ g → W1.heap[g]? = some (.cells #[.int .i64 md, .bool false] 81) → MapS W2 9 m.k m.c (putS m.vs t (ptr g)) → W1.grownBy W2 (some m.k) → MP lo n ow W m { m.pt with sub := putF m.pt.sub t (some (md, false)), c := m.c } W2 from fun g W1 W2 hb hg hbx hM hgr => by
        have hp1 : Part (fun i => i = m.k) W1 W2 := Part.of_grown hgr fun k hk => by injection hk with hk; exact hk.symm
        have hp : Part (fun i => i = m.k) W W2 := (Part.of_below _ hb).trans hp1 fun i hi => .inl hi
        have hgk : g ≠ m.k := by have := HH.out.1.sm.lt; omega
        have hg1 : g < W1.heap.size := (Array.getElem?_eq_some_iff.1 hbx).1
        obtain ⟨q1, q2, q3, q4⟩ := HH.out.1.putSub HH.out.2.1 HH.out.2.2.1 hp hM ((hp1.block g hg1 hgk).trans hbx) hg HH.out.2.2.2.2 hc64.out
        exact ⟨_, _, q1, q2, q3, q4, rfl, by
          unfold Gm.pt
          congr 1
          funext s
          unfold putF
          dsimp only
          by_cases e : s = t
          · simp only [if_pos e]; rfl
          · simp only [if_neg e]⟩)
      refine wp_region_held_drew (S := (fun w' => w'.cell? ⟨m.b, 0, none⟩ = some (.map (some m.k)))) (by kernel_rfl) (HS0.out _ rfl) (fun hHeld => ?_)
      refine wpAnyH_take (i := 0) (oi := ⟨some 35, _, _, _, _, _⟩) (v := ?vs11x0) rfl (by kernel_rfl) (by kernel_rfl) (by kernel_rfl) (fun _ _ _ h => h) (Or.inl ⟨by rfl, ?hys11x0⟩) (by assumption) ?rests11x0
      case hys11x0 => (intro wz hSw; (try dsimp only at hSw); go_simp <;> (try with_reducible rfl))
      try simp only [Act.put, List.setIfInBounds_toArray, List.set_cons_zero, List.set_cons_succ]
      refine wpAnyH_take (i := 1) (oi := ⟨some 36, _, _, _, _, _⟩) (v := ?vs12x1) rfl (by kernel_rfl) (by kernel_rfl) (by kernel_rfl) (fun _ _ _ h => h) (Or.inl ⟨by rfl, ?hys12x1⟩) (by assumption) ?rests12x1
      case hys12x1 => (intro wz hSw; (try dsimp only at hSw); go_simp <;> (try with_reducible rfl))
      try simp only [Act.put, List.setIfInBounds_toArray, List.set_cons_zero, List.set_cons_succ]
      refine wpAnyH_take (i := 2) (oi := ⟨some 37, _, _, _, _, _⟩) (v := ?vs13x2) rfl (by kernel_rfl) (by kernel_rfl) (by kernel_rfl) (fun _ _ _ h => h) (Or.inl ⟨by rfl, ?hys13x2⟩) (by assumption) ?rests13x2
      case hys13x2 => (intro wz hSw; (try dsimp only at hSw); go_simp <;> (try with_reducible rfl))
      try simp only [Act.put, List.setIfInBounds_toArray, List.set_cons_zero, List.set_cons_succ]
      refine wpAnyH_take (i := 3) (oi := ⟨some 38, _, _, _, _, _⟩) (v := ?vs14x3) rfl (by kernel_rfl) (by kernel_rfl) (by kernel_rfl) (fun _ _ _ h => h) (Or.inl ⟨by rfl, ?hys14x3⟩) (by assumption) ?rests14x3
      case hys14x3 => (intro wz hSw; (try dsimp only at hSw); go_simp <;> (try with_reducible rfl))
      try simp only [Act.put, List.setIfInBounds_toArray, List.set_cons_zero, List.set_cons_succ]
      refine wpAnyH_take (i := 4) (oi := ⟨some 39, _, _, _, _, _⟩) (v := ?vs15x4) rfl (by kernel_rfl) (by kernel_rfl) (by kernel_rfl) (fun _ _ _ h => h) (Or.inl ⟨by rfl, ?hys15x4⟩) (by assumption) ?rests15x4
      case hys15x4 => (intro wz hSw; (try dsimp only at hSw); go_simp <;> (try with_reducible rfl))
      try simp only [Act.put, List.setIfInBounds_toArray, List.set_cons_zero, List.set_cons_succ]
      refine wpAnyH_take (i := 6) (oi := ⟨some 41, _, _, _, _, _⟩) (v := ?vs16x6) rfl (by kernel_rfl) (by kernel_rfl) (by kernel_rfl) (fun _ _ _ h => h) (Or.inl ⟨by rfl, ?hys16x6⟩) (by assumption) ?rests16x6
      case hys16x6 => (intro wz hSw; (try dsimp only at hSw); go_simp <;> (try with_reducible rfl))
      try simp only [Act.put, List.setIfInBounds_toArray, List.set_cons_zero, List.set_cons_succ]
      refine wpAnyH_take (i := 7) (oi := ⟨some 42, _, _, _, _, _⟩) (v := ?vs17x7) rfl (by kernel_rfl) (by kernel_rfl) (by kernel_rfl) (fun _ _ _ h => h) (Or.inl ⟨by rfl, ?hys17x7⟩) (by assumption) ?rests17x7
      case hys17x7 => (intro wz hSw; (try dsimp only at hSw); go_simp <;> (try with_reducible rfl))
      try simp only [Act.put, List.setIfInBounds_toArray, List.set_cons_zero, List.set_cons_succ]
      refine wpAnyH_ready (rs := [5, 8]) (by kernel_rfl) (by simp) (AllReadyH.cons (o := ⟨some 40, _, _, _, _, _⟩) rfl (fun K hK => ?pa1) (AllReadyH.cons (o := ⟨some 43, _, _, _, _, _⟩) rfl (fun K hK => ?pb1) AllReadyH.nil))
      case pa1 =>
        go_simp
        go_at_call 41
        refine (KC.out _).mono ?_
        rintro e w2 ⟨rfl, hb2⟩
        have HB2 := keep (((Below.refl _ W).drew).trans (hb2.mono (Nat.le_refl _)))
        clear hb2
        (try go_wp2_with fail)
        refine hK.out _ _ (HS0.out _ (HB2.out.block _ HLT.out)) (fun hHeld => ?_)
        clear hK K
        try simp only [Act.put, List.setIfInBounds_toArray, List.set_cons_zero, List.set_cons_succ]
        have HBX := keep (below_lay w2 (.cells #[.int .i64 md, .bool false] 81))
        have HB3 := keep (HB2.out.trans (HBX.out.mono HB2.out.size))
        have HG := keep (show W.heap.size ≤ w2.heap.size from HB2.out.size)
        have HN := keep (heap_alloc_new w2 (.cells #[.int .i64 md, .bool false] 81))
        refine wpAnyH_ready (rs := [8]) (by kernel_rfl) (by simp) (AllReadyH.cons (o := ⟨some 43, _, _, _, _, _⟩) rfl (fun K hK => ?_) AllReadyH.nil)
        go_simp
        refine hK.out _ _ (HS0.out _ (HB3.out.block _ HLT.out)) (fun hHeld => ?_)
        clear hK K
        try simp only [Act.put, List.setIfInBounds_toArray, List.set_cons_zero, List.set_cons_succ]
        refine wpAnyH_ready (rs := [9]) (by kernel_rfl) (by simp) (AllReadyH.cons (o := ⟨none, _, _, _, _, _⟩) rfl (fun K hK => ?_) AllReadyH.nil)
        obtain ⟨w4, hrun4, hM4, hgr4, hsz4⟩ := ((HH.out.1.step HB3.out).sm).store (e := 75) Try.underlying9 Try.underlying76 (n := t) (by have := HH.out.2.2.2.1; unfold maxLen; omega) (by have := HH.out.1.cl; unfold maxLen; omega) (ptr w2.heap.size)
        rw [hcc.out] at hM4
        have HFF := keep (HFIN.out w2.heap.size _ w4 HB3.out HG.out HN.out hM4 hgr4)
        have HS4 := keep (HS0.out w4 ((hgr4.block m.b (Nat.lt_of_lt_of_le HLT.out HB3.out.size) (fun e => by injection e with e; exact tag_ne HH.out.1.ob HH.out.1.ok (by simp) e)).trans (HB3.out.block _ HLT.out)))
        clear hM4 hgr4 hsz4
        unfold ptr at hrun4
        go_simp
        refine hK.out _ _ HS4.out (fun hHeld => ?_)
        clear hK K
        try simp only [Act.put, List.setIfInBounds_toArray, List.set_cons_zero, List.set_cons_succ]
        refine wpAnyH_done (by kernel_rfl) ?_ _
        go_wp2
        go_ret
        exact ⟨rfl, HFF.out⟩
      case pb1 =>
        go_simp
        have HB0 := keep (show Below W.heap.size W ((World.drew W).alloc (.cells #[.int .i64 md, .bool false] 81)) from (Below.refl _ W).drew.trans ((below_lay (World.drew W) (.cells #[.int .i64 md, .bool false] 81)).mono (Nat.le_refl _)))
        refine hK.out _ _ (HS0.out _ (HB0.out.block _ HLT.out)) (fun hHeld => ?_)
        clear hK K
        try simp only [Act.put, List.setIfInBounds_toArray, List.set_cons_zero, List.set_cons_succ]
        refine wpAnyH_ready (rs := [5]) (by kernel_rfl) (by simp) (AllReadyH.cons (o := ⟨some 40, _, _, _, _, _⟩) rfl (fun K hK => ?_) AllReadyH.nil)
        go_simp
        go_at_call 41
        refine (KC.out _).mono ?_
        rintro e w2 ⟨rfl, hb2⟩
        have HB3 := keep (HB0.out.trans (hb2.mono (HB0.out.size)))
        have HG := keep (show W.heap.size ≤ W.heap.size from Nat.le_refl _)
        have HN := keep (show w2.heap[W.heap.size]? = some (.cells #[.int .i64 md, .bool false] 81) from (hb2.block W.heap.size (by simp)).trans (heap_alloc_new (World.drew W) (.cells #[.int .i64 md, .bool false] 81)))
        clear hb2
        (try go_wp2_with fail)
        refine hK.out _ _ (HS0.out _ (HB3.out.block _ HLT.out)) (fun hHeld => ?_)
        clear hK K
        try simp only [Act.put, List.setIfInBounds_toArray, List.set_cons_zero, List.set_cons_succ]
        refine wpAnyH_ready (rs := [9]) (by kernel_rfl) (by simp) (AllReadyH.cons (o := ⟨none, _, _, _, _, _⟩) rfl (fun K hK => ?_) AllReadyH.nil)
        obtain ⟨w4, hrun4, hM4, hgr4, hsz4⟩ := ((HH.out.1.step HB3.out).sm).store (e := 75) Try.underlying9 Try.underlying76 (n := t) (by have := HH.out.2.2.2.1; unfold maxLen; omega) (by have := HH.out.1.cl; unfold maxLen; omega) (ptr W.heap.size)
        rw [hcc.out] at hM4
        have HFF := keep (HFIN.out W.heap.size _ w4 HB3.out HG.out HN.out hM4 hgr4)
        have HS4 := keep (HS0.out w4 ((hgr4.block m.b (Nat.lt_of_lt_of_le HLT.out HB3.out.size) (fun e => by injection e with e; exact tag_ne HH.out.1.ob HH.out.1.ok (by simp) e)).trans (HB3.out.block _ HLT.out)))
        clear hM4 hgr4 hsz4
        unfold ptr at hrun4
        go_simp
        refine hK.out _ _ HS4.out (fun hHeld => ?_)
        clear hK K
        try simp only [Act.put, List.setIfInBounds_toArray, List.set_cons_zero, List.set_cons_succ]
        refine wpAnyH_done (by kernel_rfl) ?_ _
        go_wp2
        go_ret
        exact ⟨rfl, HFF.out⟩
  | none =>
    have e4 : m.pt.sub t = none := by unfold Gm.pt; dsimp only; rw [hf]; rfl
    rw [vs_none hf] at L
    dsimp only [Option.getD] at L
    by_cases h64 : 64 ≤ m.c
    · have e1 : subE m.pt t = 9 := by unfold subE; rw [e4]; dsimp only; rw [if_pos (show 64 ≤ m.pt.c from h64)]
      have e2 : subP m.pt t md = m.pt := by unfold subP; rw [e1]; rfl
      rw [e1, e2]
      have h64I : (64 : Int) ≤ (m.c : Int) := by omega
      clear h ho e1 e2 e4 hf hcl h64
      unfold ptr
      go_enter Try.func39, Try.ntmps39
      go_wp2_with fail
      go_ret
      exact ⟨rfl, HMP.out⟩
    · have e1 : subE m.pt t = 0 := by unfold subE; rw [e4]; dsimp only; rw [if_neg (show ¬ 64 ≤ m.pt.c from h64)]
      have e2 : subP m.pt t md = { m.pt with sub := putF m.pt.sub t (some (md, false)), c := m.c + 1 } := by unfold subP; rw [e1, e4]; rfl
      rw [e1, e2]
      have h64I : ¬ (64 : Int) ≤ (m.c : Int) := by omega
      have hcc : (if (m.vs t).isSome = true then m.c else m.c + 1) = m.c + 1 := by rw [vs_none hf]; rfl
      have hc64 : m.c + 1 ≤ 64 := by omega
      clear e1 e2 e4
      have HH := keep (And.intro h (And.intro ho (And.intro hlo (And.intro ht hm))))
      clear h ho hf hcl h64 hlo ht hm
      unfold ptr
      go_enter Try.func39, Try.ntmps39
      go_wp2_with fail
      have HS0 := keep (show ∀ W' : World, W'.heap[m.b]? = W.heap[m.b]? → W'.cell? ⟨m.b, 0, none⟩ = some (.map (some m.k)) from fun W' g => upd_cell (g.trans HH.out.1.hd) 0 _ rfl)
      replace hcc := keep hcc
      replace hc64 := keep hc64
      clear L LL d0 d1 d2 h64I
      have KC := keep fun w => sclone_any t (by have := HH.out.2.2.2.1; omega) w
      have HLT := keep HH.out.1.lt
      have HFIN := keep (show ∀ (g : Nat) (W1 W2 : World), Below W.heap.size W W1 → W.heap.size ≤ g → W1.heap[g]? = some (.cells #[.int .i64 md, .bool false] 81) → MapS W2 9 m.k (m.c + 1) (putS m.vs t (ptr g)) → W1.grownBy W2 (some m.k) → MP lo n ow W m { m.pt with sub := putF m.pt.sub t (some (md, false)), c := (m.c + 1) } W2 from fun g W1 W2 hb hg hbx hM hgr => by
        have hp1 : Part (fun i => i = m.k) W1 W2 := Part.of_grown hgr fun k hk => by injection hk with hk; exact hk.symm
        have hp : Part (fun i => i = m.k) W W2 := (Part.of_below _ hb).trans hp1 fun i hi => .inl hi
        have hgk : g ≠ m.k := by have := HH.out.1.sm.lt; omega
        have hg1 : g < W1.heap.size := (Array.getElem?_eq_some_iff.1 hbx).1
        obtain ⟨q1, q2, q3, q4⟩ := HH.out.1.putSub HH.out.2.1 HH.out.2.2.1 hp hM ((hp1.block g hg1 hgk).trans hbx) hg HH.out.2.2.2.2 hc64.out
        exact ⟨_, _, q1, q2, q3, q4, rfl, by
          unfold Gm.pt
          congr 1
          funext s
          unfold putF
          dsimp only
          by_cases e : s = t
          · simp only [if_pos e]; rfl
          · simp only [if_neg e]⟩)
      refine wp_region_held_drew (S := (fun w' => w'.cell? ⟨m.b, 0, none⟩ = some (.map (some m.k)))) (by kernel_rfl) (HS0.out _ rfl) (fun hHeld => ?_)
      refine wpAnyH_take (i := 0) (oi := ⟨some 35, _, _, _, _, _⟩) (v := ?vs21x0) rfl (by kernel_rfl) (by kernel_rfl) (by kernel_rfl) (fun _ _ _ h => h) (Or.inl ⟨by rfl, ?hys21x0⟩) (by assumption) ?rests21x0
      case hys21x0 => (intro wz hSw; (try dsimp only at hSw); go_simp <;> (try with_reducible rfl))
      try simp only [Act.put, List.setIfInBounds_toArray, List.set_cons_zero, List.set_cons_succ]
      refine wpAnyH_take (i := 1) (oi := ⟨some 36, _, _, _, _, _⟩) (v := ?vs22x1) rfl (by kernel_rfl) (by kernel_rfl) (by kernel_rfl) (fun _ _ _ h => h) (Or.inl ⟨by rfl, ?hys22x1⟩) (by assumption) ?rests22x1
      case hys22x1 => (intro wz hSw; (try dsimp only at hSw); go_simp <;> (try with_reducible rfl))
      try simp only [Act.put, List.setIfInBounds_toArray, List.set_cons_zero, List.set_cons_succ]
      refine wpAnyH_take (i := 2) (oi := ⟨some 37, _, _, _, _, _⟩) (v := ?vs23x2) rfl (by kernel_rfl) (by kernel_rfl) (by kernel_rfl) (fun _ _ _ h => h) (Or.inl ⟨by rfl, ?hys23x2⟩) (by assumption) ?rests23x2
      case hys23x2 => (intro wz hSw; (try dsimp only at hSw); go_simp <;> (try with_reducible rfl))
      try simp only [Act.put, List.setIfInBounds_toArray, List.set_cons_zero, List.set_cons_succ]
      refine wpAnyH_take (i := 3) (oi := ⟨some 38, _, _, _, _, _⟩) (v := ?vs24x3) rfl (by kernel_rfl) (by kernel_rfl) (by kernel_rfl) (fun _ _ _ h => h) (Or.inl ⟨by rfl, ?hys24x3⟩) (by assumption) ?rests24x3
      case hys24x3 => (intro wz hSw; (try dsimp only at hSw); go_simp <;> (try with_reducible rfl))
      try simp only [Act.put, List.setIfInBounds_toArray, List.set_cons_zero, List.set_cons_succ]
      refine wpAnyH_take (i := 4) (oi := ⟨some 39, _, _, _, _, _⟩) (v := ?vs25x4) rfl (by kernel_rfl) (by kernel_rfl) (by kernel_rfl) (fun _ _ _ h => h) (Or.inl ⟨by rfl, ?hys25x4⟩) (by assumption) ?rests25x4
      case hys25x4 => (intro wz hSw; (try dsimp only at hSw); go_simp <;> (try with_reducible rfl))
      try simp only [Act.put, List.setIfInBounds_toArray, List.set_cons_zero, List.set_cons_succ]
      refine wpAnyH_take (i := 6) (oi := ⟨some 41, _, _, _, _, _⟩) (v := ?vs26x6) rfl (by kernel_rfl) (by kernel_rfl) (by kernel_rfl) (fun _ _ _ h => h) (Or.inl ⟨by rfl, ?hys26x6⟩) (by assumption) ?rests26x6
      case hys26x6 => (intro wz hSw; (try dsimp only at hSw); go_simp <;> (try with_reducible rfl))
      try simp only [Act.put, List.setIfInBounds_toArray, List.set_cons_zero, List.set_cons_succ]
      refine wpAnyH_take (i := 7) (oi := ⟨some 42, _, _, _, _, _⟩) (v := ?vs27x7) rfl (by kernel_rfl) (by kernel_rfl) (by kernel_rfl) (fun _ _ _ h => h) (Or.inl ⟨by rfl, ?hys27x7⟩) (by assumption) ?rests27x7
      case hys27x7 => (intro wz hSw; (try dsimp only at hSw); go_simp <;> (try with_reducible rfl))
      try simp only [Act.put, List.setIfInBounds_toArray, List.set_cons_zero, List.set_cons_succ]
      refine wpAnyH_ready (rs := [5, 8]) (by kernel_rfl) (by simp) (AllReadyH.cons (o := ⟨some 40, _, _, _, _, _⟩) rfl (fun K hK => ?pa2) (AllReadyH.cons (o := ⟨some 43, _, _, _, _, _⟩) rfl (fun K hK => ?pb2) AllReadyH.nil))
      case pa2 =>
        go_simp
        go_at_call 41
        refine (KC.out _).mono ?_
        rintro e w2 ⟨rfl, hb2⟩
        have HB2 := keep (((Below.refl _ W).drew).trans (hb2.mono (Nat.le_refl _)))
        clear hb2
        (try go_wp2_with fail)
        refine hK.out _ _ (HS0.out _ (HB2.out.block _ HLT.out)) (fun hHeld => ?_)
        clear hK K
        try simp only [Act.put, List.setIfInBounds_toArray, List.set_cons_zero, List.set_cons_succ]
        have HBX := keep (below_lay w2 (.cells #[.int .i64 md, .bool false] 81))
        have HB3 := keep (HB2.out.trans (HBX.out.mono HB2.out.size))
        have HG := keep (show W.heap.size ≤ w2.heap.size from HB2.out.size)
        have HN := keep (heap_alloc_new w2 (.cells #[.int .i64 md, .bool false] 81))
        refine wpAnyH_ready (rs := [8]) (by kernel_rfl) (by simp) (AllReadyH.cons (o := ⟨some 43, _, _, _, _, _⟩) rfl (fun K hK => ?_) AllReadyH.nil)
        go_simp
        refine hK.out _ _ (HS0.out _ (HB3.out.block _ HLT.out)) (fun hHeld => ?_)
        clear hK K
        try simp only [Act.put, List.setIfInBounds_toArray, List.set_cons_zero, List.set_cons_succ]
        refine wpAnyH_ready (rs := [9]) (by kernel_rfl) (by simp) (AllReadyH.cons (o := ⟨none, _, _, _, _, _⟩) rfl (fun K hK => ?_) AllReadyH.nil)
        obtain ⟨w4, hrun4, hM4, hgr4, hsz4⟩ := ((HH.out.1.step HB3.out).sm).store (e := 75) Try.underlying9 Try.underlying76 (n := t) (by have := HH.out.2.2.2.1; unfold maxLen; omega) (by have := HH.out.1.cl; unfold maxLen; omega) (ptr w2.heap.size)
        rw [hcc.out] at hM4
        have HFF := keep (HFIN.out w2.heap.size _ w4 HB3.out HG.out HN.out hM4 hgr4)
        have HS4 := keep (HS0.out w4 ((hgr4.block m.b (Nat.lt_of_lt_of_le HLT.out HB3.out.size) (fun e => by injection e with e; exact tag_ne HH.out.1.ob HH.out.1.ok (by simp) e)).trans (HB3.out.block _ HLT.out)))
        clear hM4 hgr4 hsz4
        unfold ptr at hrun4
        go_simp
        refine hK.out _ _ HS4.out (fun hHeld => ?_)
        clear hK K
        try simp only [Act.put, List.setIfInBounds_toArray, List.set_cons_zero, List.set_cons_succ]
        refine wpAnyH_done (by kernel_rfl) ?_ _
        go_wp2
        go_ret
        exact ⟨rfl, HFF.out⟩
      case pb2 =>
        go_simp
        have HB0 := keep (show Below W.heap.size W ((World.drew W).alloc (.cells #[.int .i64 md, .bool false] 81)) from (Below.refl _ W).drew.trans ((below_lay (World.drew W) (.cells #[.int .i64 md, .bool false] 81)).mono (Nat.le_refl _)))
        refine hK.out _ _ (HS0.out _ (HB0.out.block _ HLT.out)) (fun hHeld => ?_)
        clear hK K
        try simp only [Act.put, List.setIfInBounds_toArray, List.set_cons_zero, List.set_cons_succ]
        refine wpAnyH_ready (rs := [5]) (by kernel_rfl) (by simp) (AllReadyH.cons (o := ⟨some 40, _, _, _, _, _⟩) rfl (fun K hK => ?_) AllReadyH.nil)
        go_simp
        go_at_call 41
        refine (KC.out _).mono ?_
        rintro e w2 ⟨rfl, hb2⟩
        have HB3 := keep (HB0.out.trans (hb2.mono (HB0.out.size)))
        have HG := keep (show W.heap.size ≤ W.heap.size from Nat.le_refl _)
        have HN := keep (show w2.heap[W.heap.size]? = some (.cells #[.int .i64 md, .bool false] 81) from (hb2.block W.heap.size (by simp)).trans (heap_alloc_new (World.drew W) (.cells #[.int .i64 md, .bool false] 81)))
        clear hb2
        (try go_wp2_with fail)
        refine hK.out _ _ (HS0.out _ (HB3.out.block _ HLT.out)) (fun hHeld => ?_)
        clear hK K
        try simp only [Act.put, List.setIfInBounds_toArray, List.set_cons_zero, List.set_cons_succ]
        refine wpAnyH_ready (rs := [9]) (by kernel_rfl) (by simp) (AllReadyH.cons (o := ⟨none, _, _, _, _, _⟩) rfl (fun K hK => ?_) AllReadyH.nil)
        obtain ⟨w4, hrun4, hM4, hgr4, hsz4⟩ := ((HH.out.1.step HB3.out).sm).store (e := 75) Try.underlying9 Try.underlying76 (n := t) (by have := HH.out.2.2.2.1; unfold maxLen; omega) (by have := HH.out.1.cl; unfold maxLen; omega) (ptr W.heap.size)
        rw [hcc.out] at hM4
        have HFF := keep (HFIN.out W.heap.size _ w4 HB3.out HG.out HN.out hM4 hgr4)
        have HS4 := keep (HS0.out w4 ((hgr4.block m.b (Nat.lt_of_lt_of_le HLT.out HB3.out.size) (fun e => by injection e with e; exact tag_ne HH.out.1.ob HH.out.1.ok (by simp) e)).trans (HB3.out.block _ HLT.out)))
        clear hM4 hgr4 hsz4
        unfold ptr at hrun4
        go_simp
        refine hK.out _ _ HS4.out (fun hHeld => ?_)
        clear hK K
        try simp only [Act.put, List.setIfInBounds_toArray, List.set_cons_zero, List.set_cons_succ]
        refine wpAnyH_done (by kernel_rfl) ?_ _
        go_wp2
        go_ret
        exact ⟨rfl, HFF.out⟩
end
end Go.Proofs.Ytnbicbnighpkjaa
