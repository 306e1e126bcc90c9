/- KAM of the stage: texts Q39, Q41, joined. -/
import Derived.Test.YtffjdknmfmlfnaaKAL
import Derived.BigRegionIn
set_option linter.unusedSimpArgs false
set_option linter.unusedVariables false
namespace Go.Proofs.Ytffjdknmfmlfnaa
section
open Go.RowKit Go.Maps
attribute [local go_sem] Oper.semAt_some

/-- A range over a function that hands nothing on. -/
theorem rangeFunc_zero {F : Fence} {n : Nat} {P : Program} {g : Operand} {ps : Array Tmp} {assign body : Code} {Q : Exit → Act → World → Prop} {a : Act} {w : World}
    (hro : F.round = none) (h1 : 1 ≤ n) {gf : Nat} {lb : Array Value} (hg : a.eval g = .func (.func gf) #[] lb) (hFg : F.fn gf) (eg : ∀ args w, (callFunc gf args).run P w = .ok (.enter gf args) w)
    {enc : Nat → Array Value} (hps : ∀ x, (enc x).size = ps.size) (X Own : Nat → World → Prop) (Kp : World → World → Prop) (J : World → Prop)
    (hit : SeqIx F (n - 1) P gf lb 0 enc X Own Kp w)
    (hJ : ∀ A B, StN w.heap.size A B → J A → J B) (hX : ∀ i A B, StN w.heap.size A B → X i A → X i B)
    (hKp : ∀ W l o o' W' p p', w.heap.size ≤ l → l < w.heap.size + 2 → W.heap[l]? = some o → o.isCells = false → W'.heap[l]? = some p → p.isCells = false → Kp (W.putObj l o') W' → Kp W (W'.putObj l p'))
    (hown : ∀ i A, J A → Own i A) (h0 : J w)
    (hdone : ∀ (D : Nat) (W : World), w.heap.size ≤ D → J W → W.heap[D]? = some (.deferred (some [])) → Q .normal { a with defers := { target := .collected D, args := #[] } :: a.defers } W) :
    (Code.rangeFunc g ps assign body).wpIn F n P Q a w :=
  rangeFunc_ix hro h1 hg hFg eg (N := 0) hps X Own Kp (fun _ => J) (fun _ _ => False) hit (fun _ => hJ) (fun _ _ _ _ h => h) hX hKp hown (fun i _ hi => absurd hi (Nat.not_lt_zero i)) h0
    (fun l i W _ hi => absurd hi (Nat.not_lt_zero i)) hdone (fun _ _ _ _ h _ => h.elim)
structure NJ (w : World) (S : Nat) (sts : List Int) (A : World) : Prop where
  bl : Below w.heap.size w A
  ib : InB S (none, 0, 0) sts A
theorem NJ.st {w : World} {S : Nat} {sts : List Int} {A B : World} {N : Nat} (h : NJ w S sts A) (k : StN N A B) (hN : w.heap.size ≤ N) : NJ w S sts B := ⟨k.below h.bl hN, h.ib.st k⟩
theorem NJ.own {w : World} {S : Nat} {sts : List Int} {A : World} (h : NJ w S sts A) : InOwn (S + 1) (S + 2) (none, 0, 0) (some ⟨S, 0, none⟩, sts.length, sts.length) [] sts A := h.ib.own rfl (SR.nil _ _) (fun p hp => by cases hp)
theorem NJ.start {w A : World} {S : Nat} {sts : List Int} (hb : Below w.heap.size w A) (hS : A.heap.size = S) : NJ w S sts (((A.alloc (.cells (sts.map (Value.int .i64)).toArray 3)).alloc (.cells #[.slice none 0 0] 54)).alloc (.cells #[.slice (some ⟨S, 0, none⟩) sts.length sts.length] 115)) :=
  ⟨up hb (below_in A _ _ _), InB.start A S hS (none, 0, 0) sts⟩
theorem es_nil (w : World) : ES w (none, 0, 0) [] := ⟨rfl, SR.nil _ _, fun e he => by cases he⟩
theorem in_x {ps : List Nat} {sts : List Int} {i : Nat} {A B : World} {N : Nat} (st : StN N A B) (h : InX ps sts i A) : InX ps sts i B := by
  obtain ⟨p, y, h1, h2, h3⟩ := h
  exact ⟨p, y, h1, st.cell h2, h3⟩
set_option maxRecDepth 100000 in
set_option maxHeartbeats 2000000 in
theorem Timeout_nil (w : World) : Calls Try.prog 21 #[.pointer none] w fun e w' => e = .returned (.int .i64 0) ∧ Below w.heap.size w w' := by
  have F1 : Fence.wide.fn 39 := trivial
  have F2 : Fence.wide.fn 44 := trivial
  refine (callsIn_wide (n := 5)).1 ?_
  refine callsIn_of_wp_marks Try.func21 rfl trivial ?_ rfl
  simp only [Try.ntmps21, List.size_toArray, List.length_cons, List.length_nil, Nat.reduceAdd, Nat.reduceSub, Array.replicate_succ, Array.replicate_zero, List.push_toArray, List.append_toArray, List.nil_append, List.cons_append]
  gi_wp2_with (first
    | (gi_at_call 39; refine (callsIn_wide.2 (list_nil _)).mono ?_; rintro e w' ⟨rfl, rfl⟩)
    | (gi_at_call 44; refine (callsIn_wide.2 (in_any _ _ _ _ _ _ _)).mono ?_; rintro e w' ⟨rfl, rfl⟩))
  generalize hW1 : World.alloc _ _ = W1
  have J0 : NJ w (w.heap.size + 1) [1] W1 ∧ W1.heap[w.heap.size]? = some (.cells #[.int .i64 0] 3 (0, 0)) := by
    rw [← hW1]
    exact ⟨NJ.start (below_lay w _) (by simp), below_new (below_new (below_new (heap_new_at rfl)))⟩
  have hs1 : w.heap.size ≤ W1.heap.size := J0.1.bl.size
  clear hW1
  refine rangeFunc_zero (n := 5) rfl (by omega) (gf := 68) (lb := #[.pointer (some ⟨w.heap.size + 1 + 1, 0, none⟩), .pointer (some ⟨w.heap.size + 1 + 1 + 1, 0, none⟩)]) rfl trivial (enters_of Try.func68 (by kernel_rfl) rfl) (enc := encP []) (fun _ => rfl)
    (InX [] [1]) (fun _ => InOwn (w.heap.size + 1 + 1) (w.heap.size + 1 + 2) (none, 0, 0) (some ⟨w.heap.size + 1, 0, none⟩, 1, 1) [] [1]) (fun _ _ => True)
    (fun A => NJ w (w.heap.size + 1) [1] A ∧ A.heap[w.heap.size]? = some (.cells #[.int .i64 0] 3 (0, 0)))
    (in1_seq (5 - 1) (by omega) _ _ _ _ [] [1] (by decide) (by decide) _ _)
    (fun A B st h => ⟨h.1.st st hs1, st.cells h.2⟩) (fun i A B st h => in_x st h) (fun _ _ _ _ _ _ _ _ _ _ _ _ _ _ => trivial) (fun i A h => h.1.own) J0 ?done
  case done =>
    intro D A hD hJ hDd
    have cn := upd_cell hJ.2 0 _ rfl
    have HJ := keep hJ
    have k1 := StN.putObj (N := W1.heap.size) (.deferred none) hDd rfl hD
    clear hJ
    gi_wp2
    refine ⟨by simp, .inl ⟨_, _, rfl, run_takeDeferred hDd, ?_⟩⟩
    exact ⟨_, results_tmp rfl _ _ _, rfl, (HJ.out.1.st k1 hs1).bl⟩
theorem Flying_nil (w : World) : Calls Try.prog 32 #[.pointer none] w fun e w' => e = .returned (.int .i64 0) ∧ Below w.heap.size w w' := by
  go_enter Try.func32, Try.ntmps32
  go_wp2_with (first
    | (go_at_call 39; refine (list_nil _).mono ?_; rintro e w' ⟨rfl, rfl⟩)
    | (go_at_call 44; refine (in_any _ _ _ _ _ _ _).mono ?_; rintro e w' ⟨rfl, rfl⟩
       have KI := InB.start w w.heap.size rfl (none, 0, 0) [1]
       have KB := below_in w (.cells ([1].map (Value.int .i64)).toArray 3) (.cells #[.slice none 0 0] 54) (.cells #[.slice (some ⟨w.heap.size, 0, none⟩) 1 1] 115)
       have KS := keep (And.intro (sum_in (es_nil _) KI (by decide) (by decide)) KB)
       clear KI KB
       try simp only [World.size_alloc])
    | (go_at_call 46; refine KS.out.1.mono ?_; rintro e w' ⟨rfl, hb2⟩; replace hb2 := keep hb2))
  go_ret
  exact ⟨rfl, up KS.out.2 hb2.out⟩
theorem Left_nil (w : World) : Calls Try.prog 34 #[.pointer none] w fun e w' => e = .returned (.int .i64 0) ∧ Below w.heap.size w w' := by
  go_enter Try.func34, Try.ntmps34
  go_wp2_with (first
    | (go_at_call 39; refine (list_nil _).mono ?_; rintro e w' ⟨rfl, rfl⟩)
    | (go_at_call 44; refine (in_any _ _ _ _ _ _ _).mono ?_; rintro e w' ⟨rfl, rfl⟩
       have KI := InB.start w w.heap.size rfl (none, 0, 0) [2, 0]
       have KB := below_in w (.cells ([2, 0].map (Value.int .i64)).toArray 3) (.cells #[.slice none 0 0] 54) (.cells #[.slice (some ⟨w.heap.size, 0, none⟩) 2 2] 115)
       have KS := keep (And.intro (sum_in (es_nil _) KI (by decide) (by decide)) KB)
       clear KI KB
       try simp only [World.size_alloc])
    | (go_at_call 46; refine KS.out.1.mono ?_; rintro e w' ⟨rfl, hb2⟩; replace hb2 := keep hb2))
  go_ret
  exact ⟨rfl, up KS.out.2 hb2.out⟩
theorem State_nil (n : Int) (w : World) : Calls Try.prog 27 #[.pointer none, .int .u32 n] w fun e w' => e = .returned (.tuple #[.int .i64 0, .bool false]) ∧ w = w' := by
  go_enter Try.func27, Try.ntmps27
  go_wp2_with (go_at_call 56; refine (upTo_nil _ _).mono ?_; rintro e w' ⟨⟨A, c, rfl⟩, rfl⟩)
  go_ret2
  exact ⟨rfl, rfl⟩
theorem done_nil (w : World) : Calls Try.prog 54 #[.pointer none] w fun e w' => e = .returned (.slice none 0 0) ∧ w = w' := by
  have K := keep (openIndex_any (none, 0, 0) [] w (es_nil w) (by decide))
  go_enter Try.func54, Try.ntmps54
  go_wp2_with (first
    | (go_at_call 39; refine (list_nil _).mono ?_; rintro e w' ⟨rfl, rfl⟩)
    | (go_at_call 76; refine K.out.mono ?_; rintro e w1 ⟨⟨z, rfl, hz⟩, rfl⟩
       have hz1 : z = -1 := by
         rcases hz.out with ⟨h, _⟩ | ⟨j, _, h, _⟩
         · exact h
         · exact absurd h (Nat.not_lt_zero _)
       subst hz1))
  go_ret
  exact ⟨rfl, rfl⟩
set_option maxRecDepth 100000 in
set_option maxHeartbeats 2000000 in
theorem Take_nil (now room : Int) (w : World) : Calls Try.prog 12 #[.pointer none, .int .i64 now, .int .i64 room] w fun e w' => e = .returned (.slice none 0 0) ∧ Below w.heap.size w w' := by
  have F1 : Fence.wide.fn 39 := trivial
  have F2 : Fence.wide.fn 38 := trivial
  refine (callsIn_wide (n := 6)).1 ?_
  refine callsIn_of_wp_marks Try.func12 rfl trivial ?_ rfl
  simp only [Try.ntmps12, List.size_toArray, List.length_cons, List.length_nil, Nat.reduceAdd, Nat.reduceSub, Array.replicate_succ, Array.replicate_zero, List.push_toArray, List.append_toArray, List.nil_append, List.cons_append]
  gi_wp2_with (first
    | (gi_at_call 39; refine (callsIn_wide.2 (list_nil _)).mono ?_; rintro e w' ⟨rfl, rfl⟩)
    | (gi_at_call 38; refine (callsIn_wide.2 (due_any _ _ _ _)).mono ?_; rintro e w' ⟨rfl, rfl⟩))
  generalize hW1 : World.alloc _ _ = W1
  have J0 : Below w.heap.size w W1 ∧ W1.heap[w.heap.size + 2]? = some (.cells #[.slice none 0 0] 31 (0, 0)) ∧ W1.heap[w.heap.size + 3]? = some (.cells #[.slice none 0 0] 54 (0, 0)) := by
    rw [← hW1]
    exact ⟨up (up (up (below_lay w _) (below_lay _ _)) (below_lay _ _)) (below_lay _ _), below_new (heap_new_at (by simp)), heap_new_at (by simp)⟩
  have hs1 : w.heap.size ≤ W1.heap.size := J0.1.size
  clear hW1
  refine rangeFunc_zero (n := 6) rfl (by omega) (gf := 63) (lb := #[.pointer (some ⟨w.heap.size + 1 + 1 + 1, 0, none⟩)]) rfl trivial (enters_of Try.func63 (by kernel_rfl) rfl) (enc := encD []) (fun _ => rfl)
    (DuX []) (fun _ => DuOwn (w.heap.size + 3) (none, 0, 0) []) (KpT itT (W1.heap.size + 2))
    (fun A => Below w.heap.size w A ∧ A.heap[w.heap.size + 2]? = some (.cells #[.slice none 0 0] 31 (0, 0)) ∧ A.heap[w.heap.size + 3]? = some (.cells #[.slice none 0 0] 54 (0, 0)))
    (due1_seq (6 - 1) (by omega) _ _ [] (by decide) _)
    (fun A B st h => ⟨st.below h.1 hs1, st.cells h.2.1, st.cells h.2.2⟩)
    (fun i A B st h => by
      obtain ⟨p, h1, h2⟩ := h
      exact ⟨p, h1, st.cell h2⟩)
    (fun W l o o' W' p p' h1 h2 _ _ _ _ hk => KpT.put h2 hk)
    (fun i A h => ⟨upd_cell h.2.2 0 _ rfl, rfl, SR.nil _ _, fun p hp => by cases hp⟩) J0 ?done
  case done =>
    intro D A hD hJ hDd
    have cn := upd_cell hJ.2.1 0 _ rfl
    have HJ := keep hJ
    have k1 := StN.putObj (N := W1.heap.size) (.deferred none) hDd rfl hD
    clear hJ
    gi_wp2
    refine ⟨by simp, .inl ⟨_, _, rfl, run_takeDeferred hDd, ?_⟩⟩
    exact ⟨_, results_tmp rfl _ _ _, rfl, k1.below HJ.out.1 hs1⟩
set_option maxRecDepth 100000 in
set_option maxHeartbeats 2000000 in
theorem Expire_nil (now : Int) (w : World) : Calls Try.prog 23 #[.pointer none, .int .i64 now] w fun e w' => e = .returned (.int .i64 0) ∧ Below w.heap.size w w' := by
  have F1 : Fence.wide.fn 39 := trivial
  have F2 : Fence.wide.fn 44 := trivial
  refine (callsIn_wide (n := 5)).1 ?_
  refine callsIn_of_wp_marks Try.func23 rfl trivial ?_ rfl
  simp only [Try.ntmps23, List.size_toArray, List.length_cons, List.length_nil, Nat.reduceAdd, Nat.reduceSub, Array.replicate_succ, Array.replicate_zero, List.push_toArray, List.append_toArray, List.nil_append, List.cons_append]
  gi_wp2_with (first
    | (gi_at_call 39; refine (callsIn_wide.2 (list_nil _)).mono ?_; rintro e w' ⟨rfl, rfl⟩)
    | (gi_at_call 44; refine (callsIn_wide.2 (in_any _ _ _ _ _ _ _)).mono ?_; rintro e w' ⟨rfl, rfl⟩))
  generalize hW1 : World.alloc _ _ = W1
  have J0 : NJ w (w.heap.size + 2) [0, 1, 2] W1 ∧ W1.heap[w.heap.size + 1]? = some (.cells #[.int .i64 0] 3 (0, 0)) := by
    rw [← hW1]
    exact ⟨NJ.start (up (below_lay w _) (below_lay _ _)) (by simp), below_new (below_new (below_new (heap_new_at (by simp))))⟩
  have hs1 : w.heap.size ≤ W1.heap.size := J0.1.bl.size
  clear hW1
  refine rangeFunc_zero (n := 5) rfl (by omega) (gf := 68) (lb := #[.pointer (some ⟨w.heap.size + 1 + 1 + 1, 0, none⟩), .pointer (some ⟨w.heap.size + 1 + 1 + 1 + 1, 0, none⟩)]) rfl trivial (enters_of Try.func68 (by kernel_rfl) rfl) (enc := encP []) (fun _ => rfl)
    (InX [] [0, 1, 2]) (fun _ => InOwn (w.heap.size + 2 + 1) (w.heap.size + 2 + 2) (none, 0, 0) (some ⟨w.heap.size + 2, 0, none⟩, 3, 3) [] [0, 1, 2]) (fun _ _ => True)
    (fun A => NJ w (w.heap.size + 2) [0, 1, 2] A ∧ A.heap[w.heap.size + 1]? = some (.cells #[.int .i64 0] 3 (0, 0)))
    (in1_seq (5 - 1) (by omega) _ _ _ _ [] [0, 1, 2] (by decide) (by decide) _ _)
    (fun A B st h => ⟨h.1.st st hs1, st.cells h.2⟩) (fun i A B st h => in_x st h) (fun _ _ _ _ _ _ _ _ _ _ _ _ _ _ => trivial) (fun i A h => h.1.own) J0 ?done
  case done =>
    intro D A hD hJ hDd
    have HJ := keep hJ
    clear hJ J0
    gi_wp2_with (first
      | (gi_at_call 39; refine (callsIn_wide.2 (list_nil _)).mono ?_; rintro e w' ⟨rfl, rfl⟩)
      | (gi_at_call 44; refine (callsIn_wide.2 (in_any _ _ _ _ _ _ _)).mono ?_; rintro e w' ⟨rfl, rfl⟩))
    generalize hW2 : World.alloc _ _ = W2
    have J2 : NJ w A.heap.size [0, 1, 2, 3] W2 ∧ W2.heap[w.heap.size + 1]? = some (.cells #[.int .i64 0] 3 (0, 0)) ∧ W2.heap[D]? = some (.deferred (some [])) := by
      rw [← hW2]
      exact ⟨NJ.start HJ.out.1.bl rfl, below_new (below_new (below_new HJ.out.2)), below_new (below_new (below_new hDd))⟩
    have hs2 : w.heap.size ≤ W2.heap.size := J2.1.bl.size
    have hD2 : D < W2.heap.size := (Array.getElem?_eq_some_iff.1 J2.2.2).1
    obtain ⟨S2, hS2⟩ : ∃ S2, A.heap.size = S2 := ⟨_, rfl⟩
    rw [hS2] at J2 ⊢
    clear hW2 hS2 HJ hDd
    refine rangeFunc_zero (n := 5) rfl (by omega) (gf := 68) (lb := #[.pointer (some ⟨S2 + 1, 0, none⟩), .pointer (some ⟨S2 + 1 + 1, 0, none⟩)]) rfl trivial (enters_of Try.func68 (by kernel_rfl) rfl) (enc := encP []) (fun _ => rfl)
      (InX [] [0, 1, 2, 3]) (fun _ => InOwn (S2 + 1) (S2 + 2) (none, 0, 0) (some ⟨S2, 0, none⟩, 4, 4) [] [0, 1, 2, 3]) (fun _ _ => True)
      (fun A => NJ w S2 [0, 1, 2, 3] A ∧ A.heap[w.heap.size + 1]? = some (.cells #[.int .i64 0] 3 (0, 0)) ∧ A.heap[D]? = some (.deferred (some [])))
      (in1_seq (5 - 1) (by omega) _ _ _ _ [] [0, 1, 2, 3] (by decide) (by decide) _ _)
      (fun A B st h => ⟨h.1.st st hs2, st.cells h.2.1, st.blk _ _ h.2.2 (.inr hD2)⟩) (fun i A B st h => in_x st h) (fun _ _ _ _ _ _ _ _ _ _ _ _ _ _ => trivial) (fun i A h => h.1.own) J2 ?done2
    case done2 =>
      intro D2 A2 hDD hJ hDd2
      have cn := upd_cell hJ.2.1 0 _ rfl
      have HJ := keep hJ
      have k1 := StN.putObj (N := W2.heap.size) (.deferred none) hDd2 rfl hDD
      have hDd3 := k1.blk _ _ hJ.2.2 (.inr hD2)
      have k2 := StN.putObj (N := W1.heap.size) (.deferred none) hDd3 rfl hD
      clear hJ
      gi_wp2
      refine ⟨by simp, .inl ⟨_, _, rfl, run_takeDeferred hDd2, by simp, .inl ⟨_, _, rfl, run_takeDeferred hDd3, ?_⟩⟩⟩
      exact ⟨_, results_tmp rfl _ _ _, rfl, k2.below ((HJ.out.1.st k1 hs2).bl) hs1⟩
set_option maxRecDepth 100000 in
set_option maxHeartbeats 2000000 in
theorem Forward_nil (w : World) : Calls Try.prog 25 #[.pointer none] w fun e w' => e = .returned (.tuple #[.int .u32 0, .slice none 0 0, .bool false]) ∧ Below w.heap.size w w' := by
  have F1 : Fence.wide.fn 54 := trivial
  have F2 : Fence.wide.fn 44 := trivial
  have F3 : Fence.wide.fn 14 := trivial
  refine (callsIn_wide (n := 5)).1 ?_
  refine callsIn_of_wp_marks Try.func25 rfl trivial ?_ rfl
  simp only [Try.ntmps25, List.size_toArray, List.length_cons, List.length_nil, Nat.reduceAdd, Nat.reduceSub, Array.replicate_succ, Array.replicate_zero, List.push_toArray, List.append_toArray, List.nil_append, List.cons_append]
  gi_wp2_with (first
    | (gi_at_call 14; refine (callsIn_wide.2 (Floor_nil _)).mono ?_; rintro e w' ⟨rfl, rfl⟩)
    | (gi_at_call 54; refine (callsIn_wide.2 (done_nil _)).mono ?_; rintro e w' ⟨rfl, rfl⟩)
    | (gi_at_call 44; refine (callsIn_wide.2 (in_any _ _ _ _ _ _ _)).mono ?_; rintro e w' ⟨rfl, rfl⟩))
  generalize hW1 : World.alloc _ _ = W1
  have J0 : NJ w (w.heap.size + 3) [4] W1 ∧ W1.heap[w.heap.size]? = some (.cells #[.int .u32 0] 22 (0, 0)) ∧ W1.heap[w.heap.size + 1]? = some (.cells #[.bool false] 4 (0, 0)) ∧ W1.heap[w.heap.size + 2]? = some (.cells #[.slice none 0 0] 41 (0, 0)) := by
    rw [← hW1]
    have hb := up (up (below_lay w (.cells #[.int .u32 0] 22)) (below_lay _ (.cells #[.bool false] 4))) (below_lay _ (.cells #[.slice none 0 0] 41))
    exact ⟨NJ.start hb (by simp), below_new (below_new (below_new (below_new (below_new (heap_new_at rfl))))), below_new (below_new (below_new (below_new (heap_new_at (by simp))))), below_new (below_new (below_new (heap_new_at (by simp))))⟩
  have hs1 : w.heap.size ≤ W1.heap.size := J0.1.bl.size
  clear hW1
  refine rangeFunc_zero (n := 5) rfl (by omega) (gf := 68) (lb := #[.pointer (some ⟨w.heap.size + 1 + 1 + 1 + 1, 0, none⟩), .pointer (some ⟨w.heap.size + 1 + 1 + 1 + 1 + 1, 0, none⟩)]) rfl trivial (enters_of Try.func68 (by kernel_rfl) rfl) (enc := encP []) (fun _ => rfl)
    (InX [] [4]) (fun _ => InOwn (w.heap.size + 3 + 1) (w.heap.size + 3 + 2) (none, 0, 0) (some ⟨w.heap.size + 3, 0, none⟩, 1, 1) [] [4]) (fun _ _ => True)
    (fun W1 => NJ w (w.heap.size + 3) [4] W1 ∧ W1.heap[w.heap.size]? = some (.cells #[.int .u32 0] 22 (0, 0)) ∧ W1.heap[w.heap.size + 1]? = some (.cells #[.bool false] 4 (0, 0)) ∧ W1.heap[w.heap.size + 2]? = some (.cells #[.slice none 0 0] 41 (0, 0)))
    (in1_seq (5 - 1) (by omega) _ _ _ _ [] [4] (by decide) (by decide) _ _)
    (fun A B st h => ⟨h.1.st st hs1, st.cells h.2.1, st.cells h.2.2.1, st.cells h.2.2.2⟩) (fun i A B st h => in_x st h) (fun _ _ _ _ _ _ _ _ _ _ _ _ _ _ => trivial) (fun i A h => h.1.own) J0 ?done
  case done =>
    intro D A hD hJ hDd
    have c0 := upd_cell hJ.2.1 0 _ rfl
    have c1 := upd_cell hJ.2.2.1 0 _ rfl
    have c2 := upd_cell hJ.2.2.2 0 _ rfl
    have HJ := keep hJ
    have HD := keep hDd
    clear hJ hDd J0
    have hmix : Try.prog.follows .mixedOrders = true := by kernel_rfl
    gi_wp2
    gi_region
    gi_wp2
    have hDd : A.drew.heap[D]? = some (.deferred (some [])) := HD.out
    have k1 := StN.putObj (N := W1.heap.size) (.deferred none) hDd rfl hD
    refine ⟨by simp, .inl ⟨_, _, rfl, run_takeDeferred hDd, ?_⟩⟩
    exact ⟨_, results_tmp3 rfl _ _ _, rfl, k1.below HJ.out.1.bl.drew hs1⟩
end
section
open Go.RowKit Go.Maps
attribute [local go_sem] Oper.semAt_some

/-! ### State -/
def stI (q : Qm) (n : Int) : Option En := if stp q n = 0 then none else q.es[stp q n - 1]?
def stOut (x : Option En) : Value := match x with | some e => .tuple #[.int .i64 e.st, .bool true] | none => .tuple #[.int .i64 0, .bool false]
theorem State_any {w : World} {G : Gq} {q : Qm} (h : QA w G q) (n : Int) :
    Calls Try.prog 27 #[.pointer (some ⟨G.b, 0, none⟩), .int .u32 n] w fun e w' => e = .returned (stOut (stI q n)) ∧ ∃ k, w' = w.drewN k := by
  have K := keep (upTo_any h n)
  have hle := stp_le q n
  have hl := h.le
  by_cases h0 : stp q n = 0
  · have hO : stI q n = none := by unfold stI; rw [if_pos h0]
    rw [hO]
    rw [h0] at K
    clear h hle hO hl h0
    go_enter Try.func27, Try.ntmps27
    go_wp2_with (go_at_call 56; refine K.out.mono ?_; rintro e w' ⟨⟨A, c, rfl, _, _⟩, k, rfl⟩)
    go_ret2
    exact ⟨rfl, _, rfl⟩
  · obtain ⟨p, hp⟩ : ∃ p, stp q n = p + 1 := ⟨stp q n - 1, by omega⟩
    have hpl : p < q.es.length := by omega
    have he : q.es[p]? = some q.es[p] := List.getElem?_eq_getElem hpl
    have hO : stI q n = some q.es[p] := by unfold stI; rw [if_neg h0, hp, Nat.add_sub_cancel, he]
    rw [hO]
    obtain ⟨b, o, eA, hb, hc⟩ := h.ptr he
    have c13 := (h.en _ (List.mem_of_getElem? he)).1.c12.2.1
    rw [hp] at K
    generalize q.es[p] = x at *
    have HC := keep (And.intro hc c13)
    have hps : ((p + 1 : Nat) : Int) - 1 = (p : Int) := by omega
    have hp1 : ((p + 1 : Nat) : Int) ≤ 1024 := by omega
    have hp2 : (1 : Int) ≤ ((p + 1 : Nat) : Int) := by omega
    have hp0 : (0 : Int) ≤ (p : Int) := by omega
    obtain ⟨m, hm⟩ : ∃ m, p + 1 = m := ⟨_, rfl⟩
    rw [hm] at K hps hp1 hp2
    have hpm : (p : Int) < (m : Int) := by omega
    have HM := keep hm
    clear h hle hO hl h0 hp hpl he hc c13 hm
    go_enter Try.func27, Try.ntmps27
    go_wp2_with (go_at_call 56; refine K.out.mono ?_; rintro e w' ⟨⟨A, c, rfl, _, hA⟩, k, rfl⟩
                 obtain rfl := (hA (by have := HM.out; omega)).trans eA
                 have hc1 : (w.drewN k).cell? ⟨b, o + p, none⟩ = some (.pointer (some ⟨x.p, 0, none⟩)) := HC.out.1
                 have hc2 : (w.drewN k).cell? ⟨x.p, 13, none⟩ = some (.int .i64 x.st) := HC.out.2
                 clear hA)
    go_ret2
    exact ⟨rfl, _, rfl⟩
/-! ### Expire -/
/-- Is an entry that is open a reason to give up its message? -/
def expB (now : Int) (e : En) (g : Mg) : Bool := (decide (0 ≤ g.un) && decide (g.un < now)) || (decide (0 ≤ g.tr) && (e.st == 2) && decide (g.tr < e.sn))
set_option maxHeartbeats 8000000 in
theorem expired_at (p m : Nat) (now : Int) (st sn un tr : Int) (w : World) (u1 u2 t1 t2 t3 : Bool) (hu1 : decide (0 ≤ un) = u1) (hu2 : decide (un < now) = u2) (ht1 : decide (0 ≤ tr) = t1) (ht2 : (st == 2) = t2) (ht3 : decide (tr < sn) = t3) (c12 : w.cell? ⟨p, 12, none⟩ = some (.pointer (some ⟨m, 0, none⟩))) (c13 : w.cell? ⟨p, 13, none⟩ = some (.int .i64 st)) (c14 : w.cell? ⟨p, 14, none⟩ = some (.int .i64 sn)) (m0 : w.cell? ⟨m, 0, none⟩ = some (.int .i64 un)) (m1 : w.cell? ⟨m, 1, none⟩ = some (.int .i64 tr)) :
    Calls Try.prog 52 #[.pointer (some ⟨p, 0, none⟩), .int .i64 now] w fun e w' => e = .returned (.bool ((u1 && u2) || (t1 && t2 && t3))) ∧ ∃ k, w' = w.drewN k := by
  cases u1 <;> cases u2 <;> cases t1 <;> cases t2 <;> cases t3
  all_goals
    go_enter Try.func52, Try.ntmps52
    go_wp2
    go_quiet (fail)
    go_wp2
    go_ret
    exact ⟨rfl, _, rfl⟩
end
end Go.Proofs.Ytffjdknmfmlfnaa
