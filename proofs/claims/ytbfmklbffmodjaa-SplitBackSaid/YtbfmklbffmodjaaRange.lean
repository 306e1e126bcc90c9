/- A range over a function whose iterator keeps a state of its own in cells: what the body must keep (Kp) and what the iterator's own steps do (St) are named by whoever uses it. Holds over every program. -/
import Derived.RangeFuncNested
import Derived.RangeFuncBound
import Derived.RangeFuncCalls
import Derived.RangeFuncLeaves
namespace Go.Proofs.Ytbfmklbffmodjaa
open Go.RowKit
set_option linter.unusedVariables false

/-- How a round's body may be left. -/
def RoundEnd {α : Type} (J : List α → World → Prop) (Jx : Code → List α → World → Prop) (Kp : World → World → Prop) (xs : List α) (W : World) (B : Nat) (W₂ : World) : Exit → Act → World → Prop
  | .normal, _, W' => KeepsFrom B W₂ W' ∧ Kp W W' ∧ J xs W'
  | .ret, _, W' => KeepsFrom B W₂ W' ∧ Jx .ret xs W'
  | .exit id, _, W' => KeepsFrom B W₂ W' ∧ Jx (.exit id) xs W'
  | .goto t, _, W' => KeepsFrom B W₂ W' ∧ Jx (.goto t) xs W'
  | .panic _, _, _ => False
  | .outgrown, _, _ => False

/-- That a statement on the world abides the turn of a block that is no cells, from B on. -/
def Turns (B : Nat) (p : World → Prop) : Prop := ∀ (A : World) (l : Nat) (o o' : Obj), B ≤ l → A.heap[l]? = some o → o.isCells = false → p A → p (A.putObj l o')

variable {F : Fence} {n : Nat} {P : Program}

theorem rangeFunc_gen {α : Type} {g : Operand} {ps : Array Tmp} {assign body : Code} {Q : Exit → Act → World → Prop} {a : Act} {w : World}
    (hro : F.round = none) (h1 : 1 ≤ n) {gf : Nat} {lb : Array Value} (hg : a.eval g = .func (.func gf) #[] lb) (hFg : F.fn gf) (eg : ∀ args w, (callFunc gf args).run P w = .ok (.enter gf args) w)
    {encs : α → Array Value} (hps : ∀ x, (encs x).size = ps.size)
    (St Kp : World → World → Prop) (X : List α → α → World → Prop) (S Sp : List α → Prop) (J : List α → World → Prop) (Jx : Code → List α → World → Prop)
    (hJ : ∀ xs, Turns w.heap.size (J xs)) (hJx : ∀ c xs, Turns w.heap.size (Jx c xs))
    (hKpP : ∀ W, Turns w.heap.size (Kp W))
    (hSt : ∀ A B, St A B → ∀ (k : Nat) (o : Obj), w.heap.size ≤ k → A.heap[k]? = some o → o.isCells = false → B.heap[k]? = some o)
    (hJS : ∀ xs A B, J xs A → St A B → J xs B) (hJxS : ∀ c xs A B, Jx c xs A → St A B → Jx c xs B)
    (hit : ∀ (l : Nat) (K Kx : List α → World → Prop) (W : World), Below w.heap.size w W → (∀ xs W0, Kx xs W0 → ∃ c W1, Jx c xs W1) → (∀ xs A B, K xs A → St A B → K xs B) → (∀ xs A B, Kx xs A → St A B → Kx xs B) →
      (∀ xs x W1, K xs W1 → X xs x W1 → YieldAt F (n - 1 - 1) P l (encs x) W1 fun e W' => (e = .returned (.bool true) ∧ K (xs ++ [x]) W' ∧ Kp W1 W') ∨ (e = .returned (.bool false) ∧ Kx (xs ++ [x]) W')) → K [] W →
      CallsIn F (n - 1) P gf (#[.func (.yield l) #[] #[]] ++ lb) W fun e W' => (∃ v, e = .returned v) ∧ ((∃ xs, S xs ∧ K xs W') ∨ (∃ xs, Sp xs ∧ Kx xs W')))
    (h0 : ∀ o₁ o₂ : Obj, J [] ((w.alloc o₁).alloc o₂))
    (hround : ∀ (l : Nat) (xs : List α) (x : α) (W : World), w.heap.size < l → J xs W → X xs x W →
      assign.wpIn (F.inRound l) (n - 1 - 1) P (Exit.then (fun a₁ W₁ => KeepsFrom w.heap.size W W₁ ∧ ∀ o o', W₁.heap[l]? = some o → o.isCells = false →
          body.wpIn (F.inRound l) (n - 1 - 1) P (RoundEnd J Jx Kp (xs ++ [x]) W w.heap.size (W₁.putObj l o')) a₁ (W₁.putObj l o')) (fun _ _ _ => False))
        { tmps := (ps.zip (encs x)).foldl (fun t (p, v) => t.setIfInBounds p v) a.tmps, defers := [] } W)
    (hdone : ∀ (D : Nat) (xs : List α) (W : World), w.heap.size ≤ D → S xs → J xs W → W.heap[D]? = some (.deferred (some [])) → Q .normal { a with defers := { target := .collected D, args := #[] } :: a.defers } W)
    (hstop : ∀ (D : Nat) (c : Code) (xs : List α) (W : World), w.heap.size ≤ D → Sp xs → Jx c xs W → W.heap[D]? = some (.deferred (some [])) → c.wpIn F n P Q { a with defers := { target := .collected D, args := #[] } :: a.defers } W) :
    (Code.rangeFunc g ps assign body).wpIn F n P Q a w := by
  refine wpIn_rangeFunc fun fn hfn => ?_
  rw [hro]
  let D := w.heap.size
  let rec0 : LoopState → Option Code → Loop := fun st pe => { state := st, pending := pe, fn := fn, tmps := a.tmps, params := ps, assign := assign, body := body, defers := D }
  obtain ⟨rec, hrec⟩ : ∃ rec, rec = rec0 := ⟨_, rfl⟩
  -- the two blocks of the loop's own, in whatever world
  let Bk : Obj → World → Prop := fun o W => W.heap[D + 1]? = some o ∧ W.heap[D]? = some (.deferred (some []))
  have bkSt : ∀ o A B, o.isCells = false → Bk o A → St A B → Bk o B := fun o A B ho hb hs => ⟨hSt A B hs _ _ (Nat.le_succ _) hb.1 ho, hSt A B hs _ _ (Nat.le_refl _) hb.2 rfl⟩
  have bkPut : ∀ o o' A, Bk o A → Bk o' (A.putObj (D + 1) o') := fun o o' A hb => ⟨World.putObj_heap_same (Array.getElem?_eq_some_iff.1 hb.1).1, (World.putObj_heap_other (by omega)).trans hb.2⟩
  have bkFrom : ∀ o A B, o.isCells = false → Bk o A → KeepsFrom D A B → Bk o B := fun o A B ho hb hk => ⟨hk.same _ _ (Nat.le_succ _) hb.1 ho, hk.same _ _ (Nat.le_refl _) hb.2 rfl⟩
  obtain ⟨W1, hW1⟩ : ∃ W1, (w.alloc (.deferred (some []))).alloc (.loop (rec .ready none)) = W1 := ⟨_, rfl⟩
  have hB1 : Bk (.loop (rec .ready none)) W1 := by
    rw [← hW1]
    refine ⟨?_, (Below.heap_alloc _ _ _ (by simp [D])).trans (World.alloc_heap_new w _)⟩
    have := World.alloc_heap_new (w.alloc (.deferred (some []))) (.loop (rec .ready none))
    rwa [World.size_alloc] at this
  have hW : Below w.heap.size w W1 := by
    rw [← hW1]
    exact ((Below.refl _ w).alloc (Nat.le_refl _) _).alloc (by simp) _
  refine ⟨D + 1, [{ target := .collected D, args := #[] }], W1, { target := .fn (.func gf) lb, args := #[.func (.yield (D + 1)) #[] #[]] }, W1, gf, #[.func (.yield (D + 1)) #[] #[]] ++ lb, W1, ?_, ?_, ?_, ?_, fun _ => h1, ?_⟩
  · rw [← hW1, hrec]
    exact run_enterLoop_outer _ _ _ _ _
  · simp only [resolve, hg]
    simp [go_sem]
  · intro f' hf'
    simp [Target.leads] at hf'
    subst hf'
    exact hFg
  · simp [invoke, go_sem, eg]
  · refine (hit (D + 1) (fun xs W => J xs W ∧ Bk (.loop (rec .ready none)) W) (fun xs W => ∃ c, Jx c xs W ∧ Bk (.loop (rec .done (some c))) W) W1 hW (fun xs W0 ⟨c, hc, _⟩ => ⟨c, W0, hc⟩)
      (fun xs A B hs hst => ⟨hJS xs A B hs.1 hst, bkSt _ A B rfl hs.2 hst⟩) (fun xs A B hs hst => by
        obtain ⟨c, hc, hb⟩ := hs
        exact ⟨c, hJxS c xs A B hc hst, bkSt _ A B rfl hb hst⟩) ?_ ⟨by rw [← hW1]; exact h0 _ _, hB1⟩).mono ?_
    · rintro xs x W ⟨hj, hb⟩ hx
      have hy := run_yield (P := P) (args := encs x) hb.1 (by rw [hrec]; exact hps x)
      rw [hrec] at hy
      refine ⟨fn, _, assign, body, hy, roundIn_of_wpIn hfn (wpIn_mono (hround (D + 1) xs x W (Nat.lt_succ_self _) hj hx) ?_)⟩
      intro e a₁ W₁ he
      cases e with
      | normal =>
        obtain ⟨hk, hbody⟩ := he
        have hb' := bkFrom _ _ _ rfl hb hk
        refine ⟨_, run_beginRound hb'.1 (by rw [hrec]), ?_⟩
        refine wpIn_mono (hbody _ _ hb'.1 rfl) ?_
        have hb2 := bkPut _ (.loop { rec .ready none with state := .busy }) _ hb'
        have fin : ∀ (jump : Option Code) (W3 : World), KeepsFrom D (W₁.putObj (D + 1) (.loop { rec .ready none with state := .busy })) W3 →
            W3.heap[D + 1]? = some (.loop { rec .ready none with state := .busy }) ∧
            (Instr.endRound (D + 1) jump).run P W3 = .ok (.bool jump.isNone) (W3.putObj (D + 1) (.loop (rec (if jump.isNone then .ready else .done) jump))) ∧
            Bk (.loop (rec (if jump.isNone then .ready else .done) jump)) (W3.putObj (D + 1) (.loop (rec (if jump.isNone then .ready else .done) jump))) := fun jump W3 hk3 => by
          have hb3 := bkFrom _ _ _ rfl hb2 hk3
          have hrun := run_endRound (P := P) jump hb3.1
          rw [hrec] at hrun hb3 ⊢
          exact ⟨hb3.1, hrun, bkPut _ _ _ hb3⟩
        intro e a₂ W3 hp
        cases e with
        | normal =>
          obtain ⟨hl3, hrun, hb4⟩ := fin none W3 hp.1
          exact ⟨_, _, hrun, .inl ⟨rfl, ⟨hJ _ _ _ _ _ (Nat.le_succ _) hl3 rfl hp.2.2, hb4⟩, hKpP _ _ _ _ _ (Nat.le_succ _) hl3 rfl hp.2.1⟩⟩
        | ret =>
          obtain ⟨hl3, hrun, hb4⟩ := fin (some .ret) W3 hp.1
          exact ⟨_, _, hrun, .inr ⟨rfl, _, hJx _ _ _ _ _ _ (Nat.le_succ _) hl3 rfl hp.2, hb4⟩⟩
        | exit id =>
          obtain ⟨hl3, hrun, hb4⟩ := fin (some (.exit id)) W3 hp.1
          exact ⟨_, _, hrun, .inr ⟨rfl, _, hJx _ _ _ _ _ _ (Nat.le_succ _) hl3 rfl hp.2, hb4⟩⟩
        | goto t =>
          obtain ⟨hl3, hrun, hb4⟩ := fin (some (.goto t)) W3 hp.1
          exact ⟨_, _, hrun, .inr ⟨rfl, _, hJx _ _ _ _ _ _ (Nat.le_succ _) hl3 rfl hp.2, hb4⟩⟩
        | panic ch => exact hp.elim
        | outgrown => exact hp.elim
      | ret => exact he.elim
      | exit id => exact he.elim
      | goto t => exact he.elim
      | panic ch => exact he.elim
      | outgrown => exact he.elim
    · rintro e W2 ⟨⟨v, rfl⟩, (⟨xs, hS, hj, hb⟩ | ⟨xs, hSp, c, hj, hb⟩)⟩
      · have hrun := run_endLoop (P := P) hb.1 (by rw [hrec]; simp [rec0])
        have hb' := bkPut _ (.loop { rec .ready none with state := .exhausted }) _ hb
        rw [hrec] at hrun hb'
        exact ⟨none, _, hrun, hdone _ xs _ (Nat.le_refl _) hS (hJ _ _ _ _ _ (Nat.le_succ _) hb.1 rfl hj) hb'.2⟩
      · have hrun := run_endLoop (P := P) hb.1 (by rw [hrec]; simp [rec0])
        have hb' := bkPut _ (.loop { rec .done (some c) with state := .exhausted }) _ hb
        rw [hrec] at hrun hb'
        exact ⟨some c, _, hrun, hstop _ c xs _ (Nat.le_refl _) hSp (hJx _ _ _ _ _ _ (Nat.le_succ _) hb.1 rfl hj) hb'.2⟩
theorem rangeFunc_two {α : Type} {g : Operand} {ps : Array Tmp} {assign body : Code} {Q : Exit → Act → World → Prop} {a : Act} {w : World}
    (hro : F.round = none) (h1 : 1 ≤ n) {gf : Nat} {lb : Array Value} (hg : a.eval g = .func (.func gf) #[] lb) (hFg : F.fn gf) (eg : ∀ args w, (callFunc gf args).run P w = .ok (.enter gf args) w)
    {encs : α → Array Value} (hps : ∀ x, (encs x).size = ps.size)
    (St Kp : World → World → Prop) (X : List α → α → World → Prop) (S Sp : List α → Prop) (J : List α → World → Prop) (Jx : Code → List α → World → Prop)
    (hJ : ∀ xs, Turns w.heap.size (J xs)) (hJx : ∀ c xs, Turns w.heap.size (Jx c xs))
    (hKpP : ∀ W, Turns w.heap.size (Kp W))
    (hSt : ∀ A B, St A B → ∀ (k : Nat) (o : Obj), w.heap.size ≤ k → A.heap[k]? = some o → o.isCells = false → B.heap[k]? = some o)
    (hJS : ∀ xs A B, J xs A → St A B → J xs B) (hJxS : ∀ c xs A B, Jx c xs A → St A B → Jx c xs B)
    (hit : ∀ (l : Nat) (K Kx : List α → World → Prop) (W : World), Below w.heap.size w W → (∀ xs A B, K xs A → St A B → K xs B) → (∀ xs A B, Kx xs A → St A B → Kx xs B) →
      (∀ xs x W1, K xs W1 → X xs x W1 → YieldAt F (n - 1 - 1) P l (encs x) W1 fun e W' => (e = .returned (.bool true) ∧ K (xs ++ [x]) W' ∧ Kp W1 W') ∨ (e = .returned (.bool false) ∧ Kx (xs ++ [x]) W')) → K [] W →
      CallsIn F (n - 1) P gf (#[.func (.yield l) #[] #[]] ++ lb) W fun e W' => (∃ v, e = .returned v) ∧ ((∃ xs, S xs ∧ K xs W') ∨ (∃ xs, Sp xs ∧ Kx xs W')))
    (h0 : ∀ o₁ o₂ : Obj, J [] ((w.alloc o₁).alloc o₂))
    (hround : ∀ (l : Nat) (xs : List α) (x : α) (W : World), w.heap.size < l → J xs W → X xs x W →
      assign.wpIn (F.inRound l) (n - 1 - 1) P (Exit.then (fun a₁ W₁ => KeepsFrom w.heap.size W W₁ ∧ ∀ o o', W₁.heap[l]? = some o → o.isCells = false →
          body.wpIn (F.inRound l) (n - 1 - 1) P (RoundEnd J Jx Kp (xs ++ [x]) W w.heap.size (W₁.putObj l o')) a₁ (W₁.putObj l o')) (fun _ _ _ => False))
        { tmps := (ps.zip (encs x)).foldl (fun t (p, v) => t.setIfInBounds p v) a.tmps, defers := [] } W)
    (hdone : ∀ (D : Nat) (xs : List α) (W : World), w.heap.size ≤ D → S xs → J xs W → W.heap[D]? = some (.deferred (some [])) → Q .normal { a with defers := { target := .collected D, args := #[] } :: a.defers } W)
    (hstop : ∀ (D : Nat) (c : Code) (xs : List α) (W : World), w.heap.size ≤ D → Sp xs → Jx c xs W → W.heap[D]? = some (.deferred (some [])) → c.wpIn F n P Q { a with defers := { target := .collected D, args := #[] } :: a.defers } W) :
    (Code.rangeFunc g ps assign body).wpIn F n P Q a w :=
  rangeFunc_gen hro h1 hg hFg eg hps St Kp X S Sp J Jx hJ hJx hKpP hSt hJS hJxS (fun l K Kx W hW _ hK hKx hY h0 => hit l K Kx W hW hK hKx hY h0) h0 hround hdone hstop

/-- A body that never leaves. -/
theorem rangeFunc_all {α : Type} {g : Operand} {ps : Array Tmp} {assign body : Code} {Q : Exit → Act → World → Prop} {a : Act} {w : World}
    (hro : F.round = none) (h1 : 1 ≤ n) {gf : Nat} {lb : Array Value} (hg : a.eval g = .func (.func gf) #[] lb) (hFg : F.fn gf) (eg : ∀ args w, (callFunc gf args).run P w = .ok (.enter gf args) w)
    {encs : α → Array Value} (hps : ∀ x, (encs x).size = ps.size)
    (St Kp : World → World → Prop) (X : List α → α → World → Prop) (S : List α → Prop) (J : List α → World → Prop)
    (hJ : ∀ xs, Turns w.heap.size (J xs)) (hKpP : ∀ W, Turns w.heap.size (Kp W))
    (hSt : ∀ A B, St A B → ∀ (k : Nat) (o : Obj), w.heap.size ≤ k → A.heap[k]? = some o → o.isCells = false → B.heap[k]? = some o)
    (hJS : ∀ xs A B, J xs A → St A B → J xs B)
    (hit : ∀ (l : Nat) (K : List α → World → Prop) (W : World), Below w.heap.size w W → (∀ xs A B, K xs A → St A B → K xs B) →
      (∀ xs x W1, K xs W1 → X xs x W1 → YieldAt F (n - 1 - 1) P l (encs x) W1 fun e W' => e = .returned (.bool true) ∧ K (xs ++ [x]) W' ∧ Kp W1 W') → K [] W →
      CallsIn F (n - 1) P gf (#[.func (.yield l) #[] #[]] ++ lb) W fun e W' => (∃ v, e = .returned v) ∧ ∃ xs, S xs ∧ K xs W')
    (h0 : ∀ o₁ o₂ : Obj, J [] ((w.alloc o₁).alloc o₂))
    (hround : ∀ (l : Nat) (xs : List α) (x : α) (W : World), w.heap.size < l → J xs W → X xs x W →
      assign.wpIn (F.inRound l) (n - 1 - 1) P (Exit.then (fun a₁ W₁ => KeepsFrom w.heap.size W W₁ ∧ ∀ o o', W₁.heap[l]? = some o → o.isCells = false →
          body.wpIn (F.inRound l) (n - 1 - 1) P (RoundEnd J (fun _ _ _ => False) Kp (xs ++ [x]) W w.heap.size (W₁.putObj l o')) a₁ (W₁.putObj l o')) (fun _ _ _ => False))
        { tmps := (ps.zip (encs x)).foldl (fun t (p, v) => t.setIfInBounds p v) a.tmps, defers := [] } W)
    (hdone : ∀ (D : Nat) (xs : List α) (W : World), w.heap.size ≤ D → S xs → J xs W → W.heap[D]? = some (.deferred (some [])) → Q .normal { a with defers := { target := .collected D, args := #[] } :: a.defers } W) :
    (Code.rangeFunc g ps assign body).wpIn F n P Q a w :=
  rangeFunc_gen hro h1 hg hFg eg hps St Kp X S (fun _ => True) J (fun _ _ _ => False) hJ (fun _ _ _ _ _ _ _ _ _ h => h) hKpP hSt hJS (fun _ _ _ _ h _ => h)
    (fun l K Kx W hW hx hK _ hY h0 => (hit l K W hW hK (fun xs x W1 hk hX => (hY xs x W1 hk hX).mono fun e W' h => h.resolve_right fun hh => by
      obtain ⟨_, _, h3⟩ := hx _ _ hh.2
      exact h3) h0).mono fun e W' ⟨hv, xs, hS, hk⟩ => ⟨hv, .inl ⟨xs, hS, hk⟩⟩)
    h0 hround hdone (fun _ _ _ _ _ _ h _ => h.elim)
end Go.Proofs.Ytbfmklbffmodjaa
