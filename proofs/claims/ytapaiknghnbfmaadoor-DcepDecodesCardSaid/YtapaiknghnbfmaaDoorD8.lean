/- Package dcep: State, Opening, Close, Gone, Freed. -/
import Derived.Test.YtapaiknghnbfmaaDoorD7
namespace Go.Proofs.YtapaiknghnbfmaaDoor
open Go.RowKit
set_option linter.unusedVariables false

/-- What is known of a stream. -/
def chAt (l : List Ch) (s : Nat) : Ch := (l[s]?).getD chZ
theorem chAt_of {l : List Ch} {s : Nat} {c : Ch} (h : l[s]? = some c) : chAt l s = c := by unfold chAt; rw [h]; rfl
theorem chAt_no {l : List Ch} {s : Nat} (h : l.length ≤ s) : chAt l s = chZ := by unfold chAt; rw [List.getElem?_eq_none h]; rfl
theorem chAt_set {l : List Ch} {s : Nat} (h : s < l.length) (c : Ch) : chAt (l.set s c) s = c := chAt_of (List.getElem?_set_self h)
theorem chAt_else {l : List Ch} {s k : Nat} (h : s ≠ k) (c : Ch) : chAt (l.set s c) k = chAt l k := by unfold chAt; rw [List.getElem?_set_ne h]
theorem get_chAt {l : List Ch} {s : Nat} (h : s < l.length) : l[s]? = some (chAt l s) := by unfold chAt; rw [List.getElem?_eq_getElem h]; rfl
theorem set_chAt {l : List Ch} {s : Nat} (hs : s < l.length) : l.set s (chAt l s) = l := by
  apply List.ext_getElem?
  intro i
  rw [List.getElem?_set]
  by_cases h : s = i
  · subst h
    rw [if_pos rfl, if_pos hs, get_chAt hs]
  · rw [if_neg h]
def lastsB (c : Ch) : Bool := c.st == 1 || c.st == 2
def freeC (c : Ch) : Ch := if (c.go && c.fr) = true then chZ else c
def closeE (l : List Ch) (s : Nat) : Int := if lastsB (chAt l s) = true then 0 else 11
def closeL (l : List Ch) (s : Nat) : List Ch := if lastsB (chAt l s) = true then l.set s { chAt l s with st := 3 } else l
def goneB (l : List Ch) (s : Nat) : Bool := lastsB (chAt l s)
def goneL (l : List Ch) (s : Nat) : List Ch := if (chAt l s).st = 0 then l else l.set s (freeC { chAt l s with st := 3, go := true })
def freedL (l : List Ch) (s : Nat) : List Ch := if (chAt l s).st = 3 then l.set s (freeC { chAt l s with fr := true }) else l
theorem closeL_len (l : List Ch) (s : Nat) : (closeL l s).length = l.length := by unfold closeL; split <;> simp
theorem goneL_len (l : List Ch) (s : Nat) : (goneL l s).length = l.length := by unfold goneL; split <;> simp
theorem freedL_len (l : List Ch) (s : Nat) : (freedL l s).length = l.length := by unfold freedL; split <;> simp
theorem part_set (w : World) (g c : Nat) (u : Value) : Part (fun i => i = g) w (w.setCell ⟨g, c, none⟩ u) := (Part.refl (fun i => i = g) w).setCell (p := ⟨g, c, none⟩) (.inl rfl) u
theorem part8 (w : World) (g c : Nat) (v0 v1 v2 v3 v4 v5 v6 v7 : Value) : Part (fun i => i = g) w ((((((((w.setCell ⟨g, c, none⟩ v0).setCell ⟨g, c + 1, none⟩ v1).setCell ⟨g, c + 2, none⟩ v2).setCell ⟨g, c + 3, none⟩ v3).setCell ⟨g, c + 4, none⟩ v4).setCell ⟨g, c + 5, none⟩ v5).setCell ⟨g, c + 6, none⟩ v6).setCell ⟨g, c + 7, none⟩ v7) :=
  ((((((((Part.refl (fun i => i = g) w).setCell (p := ⟨g, c, none⟩) (.inl rfl) v0).setCell (p := ⟨g, c + 1, none⟩) (.inl rfl) v1).setCell (p := ⟨g, c + 2, none⟩) (.inl rfl) v2).setCell (p := ⟨g, c + 3, none⟩) (.inl rfl) v3).setCell (p := ⟨g, c + 4, none⟩) (.inl rfl) v4).setCell (p := ⟨g, c + 5, none⟩) (.inl rfl) v5).setCell (p := ⟨g, c + 6, none⟩) (.inl rfl) v6).setCell (p := ⟨g, c + 7, none⟩) (.inl rfl) v7
section
variable {w W W' : World} {b g : Nat} {ev : Bool} {l : List Ch}
theorem lasts_any (h : TB w b g ev l W) (s : Nat) (hs : s < l.length) : Calls Tryd.prog 54 #[.pointer (some ⟨g, s * 8, none⟩)] W fun e w' => e = .returned (.bool (lastsB (chAt l s))) ∧ W = w' := by
  obtain ⟨c0, _⟩ := h.row.at_ (get_chAt hs)
  unfold lastsB
  generalize (chAt l s).st = st at c0
  by_cases h1 : st = 1
  · subst h1
    go_enter Tryd.func54, Tryd.ntmps54
    go_wp2
    go_ret
    exact ⟨rfl, rfl⟩
  · have q1 : (st == 1) = false := by simpa using h1
    rw [q1, Bool.false_or]
    go_enter Tryd.func54, Tryd.ntmps54
    go_wp2
    go_ret
    exact ⟨rfl, rfl⟩
theorem free_any (h : TB w b g ev l W) (s : Nat) (hs : s < l.length) : Calls Tryd.prog 61 #[.pointer (some ⟨g, s * 8, none⟩)] W fun e w' => e = .returned (.tuple #[]) ∧ Hid (TB w b g ev (l.set s (freeC (chAt l s))) w' ∧ Part (fun i => i = g) W w') := by
  obtain ⟨c0, c1, c2, c3, c4, c5, c6, c7⟩ := h.row.at_ (get_chAt hs)
  have f0 := h.row.fz (s * 8)
  have f1 := h.row.fz (s * 8 + 1)
  have f2 := h.row.fz (s * 8 + 2)
  have f3 := h.row.fz (s * 8 + 3)
  have f4 := h.row.fz (s * 8 + 4)
  have f5 := h.row.fz (s * 8 + 5)
  have f6 := h.row.fz (s * 8 + 6)
  have f7 := h.row.fz (s * 8 + 7)
  have H := keep h
  have HSame := keep (show l.set s (chAt l s) = l from set_chAt hs)
  unfold freeC
  generalize (chAt l s).st = st at c0
  generalize hgo : (chAt l s).go = go at c6
  generalize hfr : (chAt l s).fr = fr at c7
  cases go
  · have HG := keep hgo
    rw [Bool.false_and, if_neg (by simp)]
    clear hgo h
    go_enter Tryd.func61, Tryd.ntmps61
    go_wp2
    go_end0
    exact ⟨rfl, keep ⟨by rw [HSame.out]; exact H.out, Part.refl _ _⟩⟩
  · cases fr
    · rw [Bool.true_and, if_neg (by simp)]
      clear hgo hfr h
      go_enter Tryd.func61, Tryd.ntmps61
      go_wp2
      go_end0
      exact ⟨rfl, keep ⟨by rw [HSame.out]; exact H.out, Part.refl _ _⟩⟩
    · rw [Bool.true_and, if_pos rfl]
      clear hgo hfr h
      go_enter Tryd.func61, Tryd.ntmps61
      go_wp2
      go_end0
      exact ⟨rfl, keep ⟨H.out.turn (part8 W g (s * 8) _ _ _ _ _ _ _ _) (H.out.row.put8 hs chZ) (by rw [List.length_set]), part8 W g (s * 8) _ _ _ _ _ _ _ _⟩⟩
theorem State_nil (s : Int) : Calls Tryd.prog 26 #[.pointer none, .int .u16 s] W fun e w' => e = .returned (.int .i64 0) ∧ W = w' := by
  go_enter Tryd.func26, Tryd.ntmps26
  go_wp2_with (go_at_call 51; refine (find_nil _).mono ?_; rintro e w' ⟨rfl, rfl⟩)
  go_ret
  exact ⟨rfl, rfl⟩
theorem State_any (h : TB w b g ev l W) (s : Nat) (hs2 : s < 65536) : Calls Tryd.prog 26 #[.pointer (some ⟨b, 0, none⟩), .int .u16 (s : Int)] W fun e w' => e = .returned (.int .i64 (chAt l s).st) ∧ W = w' := by
  have H := keep h
  by_cases hs : s < l.length
  · obtain ⟨c0, _⟩ := h.row.at_ (get_chAt hs)
    generalize (chAt l s).st = st at c0
    clear h
    go_enter Tryd.func26, Tryd.ntmps26
    go_wp2_with (go_at_call 51; refine (find_yes H.out s hs).mono ?_; rintro e w' ⟨rfl, rfl⟩)
    go_ret
    exact ⟨rfl, rfl⟩
  · have hs : l.length ≤ s := by omega
    rw [chAt_no hs]
    clear h
    go_enter Tryd.func26, Tryd.ntmps26
    go_wp2_with (go_at_call 51; refine (find_no H.out s hs hs2).mono ?_; rintro e w' ⟨rfl, rfl⟩)
    go_ret
    exact ⟨rfl, rfl⟩
theorem Close_nil (s : Int) : Calls Tryd.prog 34 #[.pointer none, .int .u16 s] W fun e w' => e = .returned (.int .i64 11) ∧ W = w' := by
  go_enter Tryd.func34, Tryd.ntmps34
  go_wp2_with (go_at_call 51; refine (find_nil _).mono ?_; rintro e w' ⟨rfl, rfl⟩)
  go_ret
  exact ⟨rfl, rfl⟩
theorem Close_any (h : TB w b g ev l W) (s : Nat) (hs2 : s < 65536) : Calls Tryd.prog 34 #[.pointer (some ⟨b, 0, none⟩), .int .u16 (s : Int)] W fun e w' => e = .returned (.int .i64 (closeE l s)) ∧ Hid (TB w b g ev (closeL l s) w' ∧ Part (fun i => i = g) W w') := by
  have H := keep h
  by_cases hs : s < l.length
  · have c0 := (h.row.at_ (get_chAt hs)).1
    have f0 := h.row.fz (s * 8)
    have KL := lasts_any h s hs
    have HP := keep (h.row.put1 (get_chAt hs) (i := 0) (by decide) (.int .i64 3) { chAt l s with st := 3 } rfl)
    unfold closeE closeL
    clear h
    cases hb : lastsB (chAt l s)
    all_goals
      rw [hb] at KL
      have KL := keep KL
      simp only [if_true, if_false, Bool.false_eq_true]
      clear hb
      go_enter Tryd.func34, Tryd.ntmps34
      go_wp2_with (first
        | (go_at_call 51; refine (find_yes H.out s hs).mono ?_; rintro e w' ⟨rfl, rfl⟩)
        | (go_at_call 54; refine KL.out.mono ?_; rintro e w' ⟨rfl, rfl⟩))
      go_ret
    · exact ⟨rfl, keep ⟨H.out, Part.refl _ _⟩⟩
    · exact ⟨rfl, keep ⟨H.out.turn (part_set W g (s * 8) _) HP.out (by rw [List.length_set]), part_set W g (s * 8) _⟩⟩
  · have hs : l.length ≤ s := by omega
    have hc := chAt_no hs
    have e1 : closeE l s = 11 := by unfold closeE; rw [hc]; rfl
    have e2 : closeL l s = l := by unfold closeL; rw [hc]; rfl
    rw [e1, e2]
    clear h hc e1 e2
    go_enter Tryd.func34, Tryd.ntmps34
    go_wp2_with (go_at_call 51; refine (find_no H.out s hs hs2).mono ?_; rintro e w' ⟨rfl, rfl⟩)
    go_ret
    exact ⟨rfl, keep ⟨H.out, Part.refl _ _⟩⟩
theorem Opening_nil : ∀ s : Int, Calls Tryd.prog 27 #[.pointer none, .int .u16 s] W fun e w' => e = .returned (.agg oZ.cells.toArray) ∧ Below W.heap.size W w' := by
  intro s
  have R1 := keep (SB.laid W oZ)
  have l1 := keep (below_lay W (.cells oZ.cells.toArray 25))
  go_enter Tryd.func27, Tryd.ntmps27
  go_wp2_with (go_at_call 51; refine (find_nil _).mono ?_; rintro e w' ⟨rfl, rfl⟩)
  exact bodyPost_ret (results_cell_row rfl _ _ W.heap.size _ oZ.cells.toArray (0, 0) _ rfl R1.out Tryd.underlying25 rfl Op_size) rfl ⟨rfl, l1.out⟩
theorem Opening_any (h : TB w b g ev l W) (s : Nat) (hs2 : s < 65536) : Calls Tryd.prog 27 #[.pointer (some ⟨b, 0, none⟩), .int .u16 (s : Int)] W fun e w' => e = .returned (.agg (chAt l s).o.cells.toArray) ∧ Below W.heap.size W w' := by
  have R1 := keep (SB.laid W oZ)
  have l1 := keep (below_lay W (.cells oZ.cells.toArray 25))
  have H := h.step l1.out
  dsimp only [oZ, OV.cells] at H
  replace H := keep H
  by_cases hs : s < l.length
  · obtain ⟨_, c1, c2, c3, c4, c5, _⟩ := H.out.row.at_ (get_chAt hs)
    have c2' := show (W.alloc (.cells #[.int .u8 0, .int .u16 0, .int .u32 0, .string ⟨#[]⟩, .string ⟨#[]⟩] 25)).cell? ⟨g, s * 8 + 1 + 1, none⟩ = _ from c2
    have c3' := show (W.alloc (.cells #[.int .u8 0, .int .u16 0, .int .u32 0, .string ⟨#[]⟩, .string ⟨#[]⟩] 25)).cell? ⟨g, s * 8 + 1 + 2, none⟩ = _ from c3
    have c4' := show (W.alloc (.cells #[.int .u8 0, .int .u16 0, .int .u32 0, .string ⟨#[]⟩, .string ⟨#[]⟩] 25)).cell? ⟨g, s * 8 + 1 + 3, none⟩ = _ from c4
    have c5' := show (W.alloc (.cells #[.int .u8 0, .int .u16 0, .int .u32 0, .string ⟨#[]⟩, .string ⟨#[]⟩] 25)).cell? ⟨g, s * 8 + 1 + 4, none⟩ = _ from c5
    clear c2 c3 c4 c5
    have R2 := keep (SB.laid W (chAt l s).o)
    have l2 := keep (below_lay W (.cells (chAt l s).o.cells.toArray 25))
    clear h
    dsimp only [OV.cells] at R2 l2 ⊢
    generalize (chAt l s).o = o at *
    obtain ⟨k, p, lm, la, pr⟩ := o
    go_enter Tryd.func27, Tryd.ntmps27
    go_wp2_with (go_at_call 51; refine (find_yes H.out s hs).mono ?_; rintro e w' ⟨rfl, rfl⟩)
    exact bodyPost_ret (results_cell_row rfl _ _ W.heap.size _ (OV.cells ⟨k, p, lm, la, pr⟩).toArray (0, 0) _ rfl R2.out Tryd.underlying25 rfl Op_size) rfl ⟨rfl, l2.out⟩
  · have hs : l.length ≤ s := by omega
    rw [chAt_no hs]
    clear h
    go_enter Tryd.func27, Tryd.ntmps27
    go_wp2_with (go_at_call 51; refine (find_no H.out s hs hs2).mono ?_; rintro e w' ⟨rfl, rfl⟩)
    exact bodyPost_ret (results_cell_row rfl _ _ W.heap.size _ oZ.cells.toArray (0, 0) _ rfl R1.out Tryd.underlying25 rfl Op_size) rfl ⟨rfl, l1.out⟩
theorem Gone_nil (s : Int) : Calls Tryd.prog 35 #[.pointer none, .int .u16 s] W fun e w' => e = .returned (.bool false) ∧ W = w' := by
  go_enter Tryd.func35, Tryd.ntmps35
  go_wp2_with (go_at_call 51; refine (find_nil _).mono ?_; rintro e w' ⟨rfl, rfl⟩)
  go_ret
  exact ⟨rfl, rfl⟩
theorem Gone_any (h : TB w b g ev l W) (s : Nat) (hs2 : s < 65536) : Calls Tryd.prog 35 #[.pointer (some ⟨b, 0, none⟩), .int .u16 (s : Int)] W fun e w' => e = .returned (.bool (goneB l s)) ∧ Hid (TB w b g ev (goneL l s) w' ∧ Part (fun i => i = g) W w') := by
  have H := keep h
  by_cases hs : s < l.length
  · have c0 := (h.row.at_ (get_chAt hs)).1
    have f0 := h.row.fz (s * 8)
    have f6 := h.row.fz (s * 8 + 6)
    have c6 := (h.row.at_ (get_chAt hs)).2.2.2.2.2.2.1
    have KL := keep (lasts_any h s hs)
    unfold goneB goneL
    by_cases h0 : (chAt l s).st = 0
    · have e1 : lastsB (chAt l s) = false := by unfold lastsB; rw [h0]; rfl
      rw [e1, if_pos h0]
      rw [h0] at c0
      clear h e1 h0 KL
      go_enter Tryd.func35, Tryd.ntmps35
      go_wp2_with (go_at_call 51; refine (find_yes H.out s hs).mono ?_; rintro e w' ⟨rfl, rfl⟩)
      go_ret
      exact ⟨rfl, keep ⟨H.out, Part.refl _ _⟩⟩
    · rw [if_neg h0]
      have q0 : ((chAt l s).st == 0) = false := by simpa using h0
      have hr1 := h.row.put1 (get_chAt hs) (i := 0) (by decide) (.int .i64 3) { chAt l s with st := 3 } rfl
      have hr2 := hr1.put1 (List.getElem?_set_self hs) (i := 6) (by decide) (.bool true) { chAt l s with st := 3, go := true } rfl
      rw [List.set_set] at hr2
      have HP := keep ((part_set W g (s * 8) (.int .i64 3)).trans (part_set _ g (s * 8 + 6) (.bool true)) fun i hi => .inl hi)
      have H2 := keep (H.out.turn HP.out hr2 (by rw [List.length_set]))
      have KF := free_any H2.out s (by rw [List.length_set]; exact hs)
      rw [chAt_set hs, List.set_set] at KF
      replace KF := keep KF
      generalize lastsB (chAt l s) = lb at KL ⊢
      generalize (chAt l s).st = st at c0 q0
      clear h hr1 hr2 h0
      go_enter Tryd.func35, Tryd.ntmps35
      go_wp2_with (first
        | (go_at_call 51; refine (find_yes H.out s hs).mono ?_; rintro e w' ⟨rfl, rfl⟩)
        | (go_at_call 54; refine KL.out.mono ?_; rintro e w' ⟨rfl, rfl⟩)
        | (go_at_call 61; refine KF.out.mono ?_; rintro e w' ⟨rfl, HF⟩))
      go_ret
      exact ⟨rfl, keep ⟨HF.out.1, HP.out.trans HF.out.2 fun i hi => .inl hi⟩⟩
  · have hs : l.length ≤ s := by omega
    have hc := chAt_no hs
    have e1 : goneB l s = false := by unfold goneB; rw [hc]; rfl
    have e2 : goneL l s = l := by unfold goneL; rw [hc]; rfl
    rw [e1, e2]
    clear h hc e1 e2
    go_enter Tryd.func35, Tryd.ntmps35
    go_wp2_with (go_at_call 51; refine (find_no H.out s hs hs2).mono ?_; rintro e w' ⟨rfl, rfl⟩)
    go_ret
    exact ⟨rfl, keep ⟨H.out, Part.refl _ _⟩⟩
theorem Freed_nil (s : Int) : Calls Tryd.prog 33 #[.pointer none, .int .u16 s] W fun e w' => e = .returned (.tuple #[]) ∧ W = w' := by
  go_enter Tryd.func33, Tryd.ntmps33
  go_wp2_with (go_at_call 51; refine (find_nil _).mono ?_; rintro e w' ⟨rfl, rfl⟩)
  exact bodyPost_ret (results_none rfl _ _ _) rfl ⟨rfl, rfl⟩
theorem Freed_any (h : TB w b g ev l W) (s : Nat) (hs2 : s < 65536) : Calls Tryd.prog 33 #[.pointer (some ⟨b, 0, none⟩), .int .u16 (s : Int)] W fun e w' => e = .returned (.tuple #[]) ∧ Hid (TB w b g ev (freedL l s) w' ∧ Part (fun i => i = g) W w') := by
  have H := keep h
  by_cases hs : s < l.length
  · have c0 := (h.row.at_ (get_chAt hs)).1
    have f7 := h.row.fz (s * 8 + 7)
    have c7 := (h.row.at_ (get_chAt hs)).2.2.2.2.2.2.2
    unfold freedL
    by_cases h3 : (chAt l s).st = 3
    · rw [if_pos h3]
      rw [h3] at c0
      have hr2 := h.row.put1 (get_chAt hs) (i := 7) (by decide) (.bool true) { chAt l s with fr := true } rfl
      have HP := keep (part_set W g (s * 8 + 7) (.bool true))
      have H2 := keep (H.out.turn HP.out hr2 (by rw [List.length_set]))
      have KF := free_any H2.out s (by rw [List.length_set]; exact hs)
      rw [chAt_set hs, List.set_set] at KF
      replace KF := keep KF
      clear h hr2 h3
      go_enter Tryd.func33, Tryd.ntmps33
      go_wp2_with (first
        | (go_at_call 51; refine (find_yes H.out s hs).mono ?_; rintro e w' ⟨rfl, rfl⟩)
        | (go_at_call 61; refine KF.out.mono ?_; rintro e w' ⟨rfl, HF⟩))
      go_end0
      exact ⟨rfl, keep ⟨HF.out.1, HP.out.trans HF.out.2 fun i hi => .inl hi⟩⟩
    · rw [if_neg h3]
      have q0 : ((chAt l s).st == 3) = false := by simpa using h3
      have q1 : ((chAt l s).st != 3) = true := by simpa using h3
      generalize (chAt l s).st = st at c0 q0 q1
      clear h h3
      go_enter Tryd.func33, Tryd.ntmps33
      go_wp2_with (go_at_call 51; refine (find_yes H.out s hs).mono ?_; rintro e w' ⟨rfl, rfl⟩)
      exact bodyPost_ret (results_none rfl _ _ _) rfl ⟨rfl, keep ⟨H.out, Part.refl _ _⟩⟩
  · have hs : l.length ≤ s := by omega
    have e2 : freedL l s = l := by unfold freedL; rw [chAt_no hs]; rfl
    rw [e2]
    clear h e2
    go_enter Tryd.func33, Tryd.ntmps33
    go_wp2_with (go_at_call 51; refine (find_no H.out s hs hs2).mono ?_; rintro e w' ⟨rfl, rfl⟩)
    exact bodyPost_ret (results_none rfl _ _ _) rfl ⟨rfl, keep ⟨H.out, Part.refl _ _⟩⟩
end
end Go.Proofs.YtapaiknghnbfmaaDoor
