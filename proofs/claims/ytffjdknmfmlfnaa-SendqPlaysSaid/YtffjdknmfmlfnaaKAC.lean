/- KAC of the stage: texts Q1, joined. -/
import Derived.Test.YtffjdknmfmlfnaaKAA
import Derived.RangeFuncNested
import Derived.RangeFuncBound
import Derived.RangeFuncCalls
import Derived.RangeFuncLeaves
set_option linter.unusedSimpArgs false
set_option linter.unusedVariables false
namespace Go.Proofs.Ytffjdknmfmlfnaa
section
open Go.RowKit

/-- Cells lie as they lay, and so does whatever lies below N. -/
structure StN (N : Nat) (A B : World) : Prop where
  os : B.os = A.os
  tape : B.tape = A.tape
  output : B.output = A.output
  size : A.heap.size ≤ B.heap.size
  blk : ∀ k o, A.heap[k]? = some o → (o.isCells = true ∨ k < N) → B.heap[k]? = some o
theorem StN.refl (N : Nat) (A : World) : StN N A A := ⟨rfl, rfl, rfl, Nat.le_refl _, fun _ _ h _ => h⟩
theorem StN.trans {N : Nat} {A B C : World} (h : StN N A B) (k : StN N B C) : StN N A C :=
  ⟨k.os.trans h.os, k.tape.trans h.tape, k.output.trans h.output, Nat.le_trans h.size k.size, fun i o hi ho => k.blk i o (h.blk i o hi ho) ho⟩
theorem StN.mono {N M : Nat} {A B : World} (h : StN N A B) (hM : M ≤ N) : StN M A B :=
  ⟨h.os, h.tape, h.output, h.size, fun i o hi ho => h.blk i o hi (ho.imp_right fun hk => by omega)⟩
theorem StN.of_below {N : Nat} {A B : World} (h : Below A.heap.size A B) : StN N A B :=
  ⟨h.os, h.tape, h.output, h.size, fun i o hi _ => (h.block i (Array.getElem?_eq_some_iff.1 hi).1).trans hi⟩
theorem StN.putObj {N : Nat} {A : World} {l : Nat} {o : Obj} (o' : Obj) (h : A.heap[l]? = some o) (ho : o.isCells = false) (hl : N ≤ l) : StN N A (A.putObj l o') :=
  ⟨rfl, rfl, rfl, by simp, fun k p hk hp => by
    refine (World.putObj_heap_other fun e => ?_).trans hk
    subst e
    rw [h] at hk
    cases hk
    rcases hp with hp | hp
    · rw [ho] at hp; cases hp
    · omega⟩
theorem StN.drew (N : Nat) (A : World) : StN N A A.drew := ⟨rfl, rfl, rfl, Nat.le_refl _, fun _ _ h _ => h⟩
theorem StN.drewN (N : Nat) (A : World) (q : Nat) : StN N A (A.drewN q) := ⟨rfl, rfl, rfl, Nat.le_refl _, fun _ _ h _ => h⟩
theorem StN.below {N : Nat} {w A B : World} (h : StN N A B) (hb : Below w.heap.size w A) (hN : w.heap.size ≤ N) : Below w.heap.size w B :=
  ⟨h.os.trans hb.os, h.tape.trans hb.tape, h.output.trans hb.output, Nat.le_trans hb.size h.size, fun k hk => by
    have h1 := hb.block k hk
    have h2 : k < A.heap.size := Nat.lt_of_lt_of_le hk hb.size
    exact (h.blk k _ (Array.getElem?_eq_getElem h2) (.inr (by omega))).trans ((Array.getElem?_eq_getElem h2).symm.trans h1)⟩
theorem StN.cell {N : Nat} {A B : World} (h : StN N A B) {a : Addr} {v : Value} (hc : A.cell? a = some v) : B.cell? a = some v := by
  have hlt := World.block_lt_of_cell? A _ hc
  obtain ⟨o, ho⟩ : ∃ o, A.heap[a.block]? = some o := ⟨_, Array.getElem?_eq_getElem hlt⟩
  have hcs : o.isCells = true := by
    unfold World.cell? at hc
    rw [ho] at hc
    cases o <;> simp_all [Obj.isCells]
  rw [← hc]
  exact World.cell?_of_block ((h.blk _ _ ho (.inl hcs)).trans ho.symm)
theorem StN.cells {N : Nat} {A B : World} (h : StN N A B) {g : Nat} {cs : Array Value} {t : TypeId} {fr : Nat × Nat} (hc : A.heap[g]? = some (.cells cs t fr)) : B.heap[g]? = some (.cells cs t fr) := h.blk _ _ hc (.inl rfl)
theorem StN.sr {N : Nat} {A B : World} (h : StN N A B) {p : Option Addr} {xs : List Value} (hs : SR A p xs) : SR B p xs := fun hx => by
  obtain ⟨b, o, e, hlt, hc⟩ := hs hx
  exact ⟨b, o, e, Nat.lt_of_lt_of_le hlt h.size, fun j u hu => h.cell (hc j u hu)⟩
theorem StN.own {N : Nat} {A B : World} (h : StN N A B) {base : Nat} {e : TypeId} {size n : Nat} {v : Value} {xs : List Value} (ho : A.ownsRow base e size v n xs) : B.ownsRow base e size v n xs := by
  refine ⟨ho.1, ?_⟩
  rcases ho.2 with hn | ⟨g, cap, cur, rfl, hb, hgg, rest⟩
  · exact .inl hn
  · exact .inr ⟨g, cap, cur, rfl, hb, h.cells hgg, rest⟩

variable {F : Fence} {n : Nat} {P : Program}
/-- How a round's body may be left. -/
def RoundIx (J : World → Prop) (Jx : Code → World → Prop) (Kp : World → World → Prop) (B : Nat) (W₂ : World) : Exit → Act → World → Prop
  | .normal, _, W' => KeepsFrom B W₂ W' ∧ Kp W₂ W' ∧ J W'
  | .ret, _, W' => KeepsFrom B W₂ W' ∧ Kp W₂ W' ∧ Jx .ret W'
  | .exit id, _, W' => KeepsFrom B W₂ W' ∧ Kp W₂ W' ∧ Jx (.exit id) W'
  | .goto t, _, W' => KeepsFrom B W₂ W' ∧ Kp W₂ W' ∧ Jx (.goto t) W'
  | .panic _, _, _ => False
  | .outgrown, _, _ => False
/-- What an iterator that goes through places 0 to N does: at each place where X holds it hands on, the others it passes over. -/
def SeqIx (F : Fence) (n : Nat) (P : Program) (g : Nat) (lb : Array Value) (N : Nat) (enc : Nat → Array Value) (X Own : Nat → World → Prop) (Kp : World → World → Prop) (w : World) : Prop :=
  ∀ (l : Nat) (K : Nat → World → Prop) (Kx : World → Prop) (W : World), W.heap.size = w.heap.size + 2 →
    (∀ i A B, StN W.heap.size A B → K i A → K i B) → (∀ A B, StN W.heap.size A B → Kx A → Kx B) →
    (∀ i A, K i A → Own i A) →
    (∀ i A, i < N → K i A → ¬ X i A → K (i + 1) A) →
    (∀ i A, i < N → K i A → X i A → YieldAt F (n - 1) P l (enc i) A fun e W' => (e = .returned (.bool true) ∧ K (i + 1) W' ∧ Kp A W') ∨ (e = .returned (.bool false) ∧ Kx W' ∧ Kp A W')) →
    K 0 W →
    CallsIn F n P g (#[.func (.yield l) #[] #[]] ++ lb) W fun e W' => (∃ v, e = .returned v) ∧ (K N W' ∨ Kx W')
theorem rangeFunc_ix {g : Operand} {ps : Array Tmp} {assign body : Code} {Q : Exit → Act → World → Prop} {a : Act} {w : World}
    (hro : F.round = none) (h1 : 1 ≤ n) {gf : Nat} {lb : Array Value} (hg : a.eval g = .func (.func gf) #[] lb) (hFg : F.fn gf) (eg : ∀ args w, (callFunc gf args).run P w = .ok (.enter gf args) w)
    {N : Nat} {enc : Nat → Array Value} (hps : ∀ x, (enc x).size = ps.size)
    (X Own : Nat → World → Prop) (Kp : World → World → Prop) (J : Nat → World → Prop) (Jx : Code → World → Prop)
    (hit : SeqIx F (n - 1) P gf lb N enc X Own Kp w)
    (hJ : ∀ i A B, StN w.heap.size A B → J i A → J i B) (hJx : ∀ c A B, StN w.heap.size A B → Jx c A → Jx c B) (hX : ∀ i A B, StN w.heap.size A B → X i A → X i B)
    (hKp : ∀ W l o o' W' p p', w.heap.size ≤ l → l < w.heap.size + 2 → W.heap[l]? = some o → o.isCells = false → W'.heap[l]? = some p → p.isCells = false → Kp (W.putObj l o') W' → Kp W (W'.putObj l p'))
    (hown : ∀ i A, J i A → Own i A) (hskip : ∀ i A, i < N → J i A → ¬ X i A → J (i + 1) A)
    (h0 : J 0 w)
    (hround : ∀ (l i : Nat) (W : World), w.heap.size < l → i < N → J i W → X i W →
      assign.wpIn (F.inRound l) (n - 1 - 1) P (Exit.then (fun a₁ W₁ => W₁ = W ∧ ∀ W₂, J i W₂ → X i W₂ →
          body.wpIn (F.inRound l) (n - 1 - 1) P (RoundIx (J (i + 1)) Jx Kp w.heap.size W₂) a₁ W₂) (fun _ _ _ => False))
        { tmps := (ps.zip (enc i)).foldl (fun t (p, v) => t.setIfInBounds p v) a.tmps, defers := [] } W)
    (hdone : ∀ (D : Nat) (W : World), w.heap.size ≤ D → J N W → W.heap[D]? = some (.deferred (some [])) → Q .normal { a with defers := { target := .collected D, args := #[] } :: a.defers } W)
    (hstop : ∀ (D : Nat) (c : Code) (W : World), w.heap.size ≤ D → Jx c W → W.heap[D]? = some (.deferred (some [])) → c.wpIn F n P Q { a with defers := { target := .collected D, args := #[] } :: a.defers } W) :
    (Code.rangeFunc g ps assign body).wpIn F n P Q a w := by
  refine wpIn_rangeFunc fun fn hfn => ?_
  rw [hro]
  let D := w.heap.size
  let rec0 : LoopState → Option Code → Loop := fun st pe => { state := st, pending := pe, fn := fn, tmps := a.tmps, params := ps, assign := assign, body := body, defers := D }
  obtain ⟨rec, hrec⟩ : ∃ rec, rec = rec0 := ⟨_, rfl⟩
  let Bk : Obj → World → Prop := fun o W => W.heap[D + 1]? = some o ∧ W.heap[D]? = some (.deferred (some []))
  have bkPut : ∀ o o' A, Bk o A → Bk o' (A.putObj (D + 1) o') := fun o o' A hb => ⟨World.putObj_heap_same (Array.getElem?_eq_some_iff.1 hb.1).1, (World.putObj_heap_other (by omega)).trans hb.2⟩
  have bkFrom : ∀ o A B, o.isCells = false → Bk o A → KeepsFrom D A B → Bk o B := fun o A B ho hb hk => ⟨hk.same _ _ (Nat.le_succ _) hb.1 ho, hk.same _ _ (Nat.le_refl _) hb.2 rfl⟩
  obtain ⟨W1, hW1⟩ : ∃ W1, (w.alloc (.deferred (some []))).alloc (.loop (rec .ready none)) = W1 := ⟨_, rfl⟩
  have hB1 : Bk (.loop (rec .ready none)) W1 := by
    rw [← hW1]
    refine ⟨?_, (Below.heap_alloc _ _ _ (by simp [D])).trans (World.alloc_heap_new w _)⟩
    have := World.alloc_heap_new (w.alloc (.deferred (some []))) (.loop (rec .ready none))
    rwa [World.size_alloc] at this
  have hW : Below w.heap.size w W1 := by
    rw [← hW1]
    exact ((Below.refl _ w).alloc (Nat.le_refl _) _).alloc (by simp) _
  have hWs : W1.heap.size = w.heap.size + 2 := by rw [← hW1]; simp
  have bkSt : ∀ o A B, Bk o A → StN W1.heap.size A B → Bk o B := fun o A B hb hs => ⟨hs.blk _ _ hb.1 (.inr (by simp only [D]; omega)), hs.blk _ _ hb.2 (.inr (by simp only [D]; omega))⟩
  refine ⟨D + 1, [{ target := .collected D, args := #[] }], W1, { target := .fn (.func gf) lb, args := #[.func (.yield (D + 1)) #[] #[]] }, W1, gf, #[.func (.yield (D + 1)) #[] #[]] ++ lb, W1, ?_, ?_, ?_, ?_, fun _ => h1, ?_⟩
  · rw [← hW1, hrec]
    exact run_enterLoop_outer _ _ _ _ _
  · simp only [resolve, hg]
    simp [go_sem]
  · intro f' hf'
    simp [Target.leads] at hf'
    subst hf'
    exact hFg
  · simp [invoke, go_sem, eg]
  · refine (hit (D + 1) (fun i W => J i W ∧ Bk (.loop (rec .ready none)) W) (fun W => ∃ c, Jx c W ∧ Bk (.loop (rec .done (some c))) W) W1 hWs
      (fun i A B hs hst => ⟨hJ i A B (hs.mono (by omega)) hst.1, bkSt _ A B hst.2 hs⟩) (fun A B hs hst => by
        obtain ⟨c, hc, hb⟩ := hst
        exact ⟨c, hJx c A B (hs.mono (by omega)) hc, bkSt _ A B hb hs⟩)
      (fun i A hk => hown i A hk.1) (fun i A hi hk hx => ⟨hskip i A hi hk.1 hx, hk.2⟩) ?_ ⟨hJ 0 w W1 (StN.of_below hW) h0, hB1⟩).mono ?_
    · rintro i W hi ⟨hj, hb⟩ hx
      have hy := run_yield (P := P) (args := enc i) hb.1 (by rw [hrec]; exact hps i)
      rw [hrec] at hy
      refine ⟨fn, _, assign, body, hy, roundIn_of_wpIn hfn (wpIn_mono (hround (D + 1) i W (Nat.lt_succ_self _) hi hj hx) ?_)⟩
      intro e a₁ W₁ he
      cases e with
      | normal =>
        obtain ⟨rfl, hbody⟩ := he
        refine ⟨_, run_beginRound hb.1 (by rw [hrec]), ?_⟩
        have s1 : StN w.heap.size W₁ (W₁.putObj (D + 1) (.loop { rec .ready none with state := .busy })) := StN.putObj _ hb.1 rfl (Nat.le_succ _)
        refine wpIn_mono (hbody _ (hJ _ _ _ s1 hj) (hX _ _ _ s1 hx)) ?_
        have hb2 := bkPut _ (.loop { rec .ready none with state := .busy }) _ hb
        have fin : ∀ (jump : Option Code) (W3 : World), KeepsFrom D (W₁.putObj (D + 1) (.loop { rec .ready none with state := .busy })) W3 →
            W3.heap[D + 1]? = some (.loop { rec .ready none with state := .busy }) ∧
            (Instr.endRound (D + 1) jump).run P W3 = .ok (.bool jump.isNone) (W3.putObj (D + 1) (.loop (rec (if jump.isNone then .ready else .done) jump))) ∧
            Bk (.loop (rec (if jump.isNone then .ready else .done) jump)) (W3.putObj (D + 1) (.loop (rec (if jump.isNone then .ready else .done) jump))) := fun jump W3 hk3 => by
          have hb3 := bkFrom _ _ _ rfl hb2 hk3
          have hrun := run_endRound (P := P) jump hb3.1
          rw [hrec] at hrun hb3 ⊢
          exact ⟨hb3.1, hrun, bkPut _ _ _ hb3⟩
        intro e a₂ W3 hp
        cases e with
        | normal =>
          obtain ⟨hl3, hrun, hb4⟩ := fin none W3 hp.1
          exact ⟨_, _, hrun, .inl ⟨rfl, ⟨hJ _ _ _ (StN.putObj _ hl3 rfl (Nat.le_succ _)) hp.2.2, hb4⟩, hKp _ _ _ _ _ _ _ (Nat.le_succ _) (by simp only [D]; omega) hb.1 rfl hl3 rfl hp.2.1⟩⟩
        | ret =>
          obtain ⟨hl3, hrun, hb4⟩ := fin (some .ret) W3 hp.1
          exact ⟨_, _, hrun, .inr ⟨rfl, ⟨_, hJx _ _ _ (StN.putObj _ hl3 rfl (Nat.le_succ _)) hp.2.2, hb4⟩, hKp _ _ _ _ _ _ _ (Nat.le_succ _) (by simp only [D]; omega) hb.1 rfl hl3 rfl hp.2.1⟩⟩
        | exit id =>
          obtain ⟨hl3, hrun, hb4⟩ := fin (some (.exit id)) W3 hp.1
          exact ⟨_, _, hrun, .inr ⟨rfl, ⟨_, hJx _ _ _ (StN.putObj _ hl3 rfl (Nat.le_succ _)) hp.2.2, hb4⟩, hKp _ _ _ _ _ _ _ (Nat.le_succ _) (by simp only [D]; omega) hb.1 rfl hl3 rfl hp.2.1⟩⟩
        | goto t =>
          obtain ⟨hl3, hrun, hb4⟩ := fin (some (.goto t)) W3 hp.1
          exact ⟨_, _, hrun, .inr ⟨rfl, ⟨_, hJx _ _ _ (StN.putObj _ hl3 rfl (Nat.le_succ _)) hp.2.2, hb4⟩, hKp _ _ _ _ _ _ _ (Nat.le_succ _) (by simp only [D]; omega) hb.1 rfl hl3 rfl hp.2.1⟩⟩
        | panic ch => exact hp.elim
        | outgrown => exact hp.elim
      | ret => exact he.elim
      | exit id => exact he.elim
      | goto t => exact he.elim
      | panic ch => exact he.elim
      | outgrown => exact he.elim
    · rintro e W2 ⟨⟨v, rfl⟩, (⟨hj, hb⟩ | ⟨c, hj, hb⟩)⟩
      · have hrun := run_endLoop (P := P) hb.1 (by rw [hrec]; simp [rec0])
        have hb' := bkPut _ (.loop { rec .ready none with state := .exhausted }) _ hb
        have s1 : StN w.heap.size W2 (W2.putObj (D + 1) (.loop { rec .ready none with state := .exhausted })) := StN.putObj _ hb.1 rfl (Nat.le_succ _)
        have hj' := hJ _ _ _ s1 hj
        rw [hrec] at hrun hb' hj'
        exact ⟨none, _, hrun, hdone _ _ (Nat.le_refl _) hj' hb'.2⟩
      · have hrun := run_endLoop (P := P) hb.1 (by rw [hrec]; simp [rec0])
        have hb' := bkPut _ (.loop { rec .done (some c) with state := .exhausted }) _ hb
        have s1 : StN w.heap.size W2 (W2.putObj (D + 1) (.loop { rec .done (some c) with state := .exhausted })) := StN.putObj _ hb.1 rfl (Nat.le_succ _)
        have hj' := hJx _ _ _ s1 hj
        rw [hrec] at hrun hb' hj'
        exact ⟨some c, _, hrun, hstop _ c _ (Nat.le_refl _) hj' hb'.2⟩
/-- What a body keeps for an iterator that has blocks of its own: blocks from N on that are no cells, or cells of a type that T names. -/
structure KpT (T : TypeId → Prop) (N : Nat) (A B : World) : Prop where
  size : A.heap.size ≤ B.heap.size
  oth : ∀ k o, N ≤ k → A.heap[k]? = some o → o.isCells = false → B.heap[k]? = some o
  typ : ∀ k cs t fr, N ≤ k → T t → A.heap[k]? = some (.cells cs t fr) → B.heap[k]? = some (.cells cs t fr)
theorem KpT.put {T : TypeId → Prop} {N : Nat} {W W' : World} {l : Nat} {o' p' : Obj} (hl : l < N) (h : KpT T N (W.putObj l o') W') : KpT T N W (W'.putObj l p') :=
  ⟨by simpa using h.size, fun k o hk ho hc => (World.putObj_heap_other (by omega)).trans (h.oth k o hk ((World.putObj_heap_other (by omega)).trans ho) hc),
    fun k cs t fr hk ht ho => (World.putObj_heap_other (by omega)).trans (h.typ k cs t fr hk ht ((World.putObj_heap_other (by omega)).trans ho))⟩
theorem KpT.trans {T : TypeId → Prop} {N : Nat} {A B C : World} (h : KpT T N A B) (g : KpT T N B C) : KpT T N A C :=
  ⟨Nat.le_trans h.size g.size, fun k o hk ho hc => g.oth k o hk (h.oth k o hk ho hc) hc, fun k cs t fr hk ht ho => g.typ k cs t fr hk ht (h.typ k cs t fr hk ht ho)⟩
theorem KpT.of_below {T : TypeId → Prop} {N : Nat} {A B : World} (h : Below A.heap.size A B) : KpT T N A B :=
  ⟨h.size, fun k o hk ho hc => (h.block k (Array.getElem?_eq_some_iff.1 ho).1).trans ho, fun k cs t fr hk ht ho => (h.block k (Array.getElem?_eq_some_iff.1 ho).1).trans ho⟩
theorem KpT.drew {T : TypeId → Prop} {N : Nat} (A : World) : KpT T N A A.drew := ⟨Nat.le_refl _, fun _ _ _ h _ => h, fun _ _ _ _ _ _ h => h⟩
/-- One block of cells is written: it lies below N, or its type is none of those. -/
theorem KpT.of_grown {T : TypeId → Prop} {N : Nat} {A B : World} {row : Option Nat} (h : A.grownBy B row) (hr : ∀ r, row = some r → ∃ cs t fr, A.heap[r]? = some (.cells cs t fr) ∧ (r < N ∨ ¬ T t)) : KpT T N A B :=
  ⟨h.size, fun k o hk ho hc => (h.block k (Array.getElem?_eq_some_iff.1 ho).1 fun e => by
    obtain ⟨cs, t, fr, h1, _⟩ := hr k e.symm
    rw [ho] at h1
    cases h1
    cases hc).trans ho, fun k cs t fr hk ht ho => (h.block k (Array.getElem?_eq_some_iff.1 ho).1 fun e => by
    obtain ⟨cs', t', fr', h1, h2⟩ := hr k e.symm
    rw [ho] at h1
    cases h1
    rcases h2 with h2 | h2
    · omega
    · exact h2 ht).trans ho⟩
theorem RoundIn.wide {m l : Nat} {f : FuncId} {tmps : Array Value} {assign body : Code} {w : World} {R : Ending → World → Prop} (h : RoundIn Fence.wide n P l f tmps assign body w R) : RoundIn Fence.wide m P l f tmps assign body w R :=
  ⟨h.1, fun c cs _ => h.2 c cs (room_wide _)⟩
theorem RoundIn.wideIn {m l l' : Nat} {f : FuncId} {tmps : Array Value} {assign body : Code} {w : World} {R : Ending → World → Prop} (h : RoundIn Fence.wide n P l f tmps assign body w R) : RoundIn (Fence.wide.inRound l') m P l f tmps assign body w R :=
  ⟨h.1, fun c cs _ => h.2 c cs (room_wide _)⟩
end
end Go.Proofs.Ytffjdknmfmlfnaa
