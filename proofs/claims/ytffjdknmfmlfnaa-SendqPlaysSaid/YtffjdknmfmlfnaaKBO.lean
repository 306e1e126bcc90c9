/- KBO of the stage: texts S5, joined. -/
import Derived.Test.YtffjdknmfmlfnaaKBJ
set_option linter.unusedSimpArgs false
set_option linter.unusedVariables false
namespace Go.Proofs.Ytffjdknmfmlfnaa
section
open Go.RowKit Go.Maps

def rDn (rs : List RE) : Nat := (rs.takeWhile fun r => decide (3 ≤ r.st)).length
def rLst (rs : List RE) : Nat → Int
  | 0 => -1
  | i + 1 => match rs[i]? with | some r => if r.st = 4 then (i : Int) else rLst rs i | none => rLst rs i
/-- Is it to be skipped? -/
def rSkB (r : RE) : Bool := r.st == 4 && !(r.c.fl / 4 % 2 == 1)
def rSkp (rs : List RE) : Nat → List (Int × Int)
  | 0 => []
  | i + 1 => match rs[i]? with | some r => if rSkB r = true then skL (rSkp rs i) r.c.ou r.c.si else rSkp rs i | none => rSkp rs i
def rFwd (p : Rm) : Int × Bool × List (Int × Int) :=
  if rLst p.rs (rDn p.rs) < 0 then (rFlr p, false, []) else (((p.rs[(rLst p.rs (rDn p.rs)).toNat]?).map fun r => r.c.a).getD 0, true, rSkp p.rs ((rLst p.rs (rDn p.rs)).toNat + 1))
theorem and4 : ∀ n : Fin 256, (bits .and .u8 ((n.val : Nat) : Int) 4 == 0) = !(((n.val : Nat) : Int) / 4 % 2 == 1) := by decide +kernel
theorem ord_sk {x : CZ} (h : 0 ≤ x.fl ∧ x.fl < 256) : ordB x = !(x.fl / 4 % 2 == 1) := by
  obtain ⟨n, hn⟩ : ∃ n : Nat, x.fl = (n : Int) := ⟨x.fl.toNat, by omega⟩
  unfold ordB
  rw [hn]
  exact and4 ⟨n, by omega⟩
theorem rLst_lo (rs : List RE) : ∀ i, -1 ≤ rLst rs i ∧ rLst rs i < (i : Int)
  | 0 => ⟨Int.le_refl _, by show (-1 : Int) < 0; omega⟩
  | i + 1 => by
    have := rLst_lo rs i
    rw [rLst]
    split
    · split <;> omega
    · omega
theorem rSkp_last (rs : List RE) : ∀ i, (rLst rs i < 0 → rSkp rs i = []) ∧ (0 ≤ rLst rs i → rSkp rs i = rSkp rs ((rLst rs i).toNat + 1))
  | 0 => ⟨fun _ => rfl, fun h => by exact absurd h (by show ¬ (0 : Int) ≤ -1; omega)⟩
  | i + 1 => by
    have ih := rSkp_last rs i
    cases hr : rs[i]? with
    | none =>
      have e1 : rLst rs (i + 1) = rLst rs i := by rw [rLst, hr]
      have e2 : rSkp rs (i + 1) = rSkp rs i := by rw [rSkp, hr]
      rw [e1, e2]
      exact ih
    | some r =>
      by_cases h4 : r.st = 4
      · have e1 : rLst rs (i + 1) = (i : Int) := by rw [rLst, hr]; dsimp only; rw [if_pos h4]
        rw [e1]
        exact ⟨fun h => by omega, fun _ => by rw [Int.toNat_natCast]⟩
      · have e1 : rLst rs (i + 1) = rLst rs i := by rw [rLst, hr]; dsimp only; rw [if_neg h4]
        have e2 : rSkp rs (i + 1) = rSkp rs i := by
          rw [rSkp, hr]
          dsimp only
          rw [if_neg]
          unfold rSkB
          simp [h4]
        rw [e1, e2]
        exact ih
theorem Sim.forward {l : PL} {q : Qm} {p : Rm} (h : Sim l q p) (hfl : ∀ x ∈ l, 0 ≤ x.2.c.fl ∧ x.2.c.fl < 256) : fwE (Go.Proofs.Ytffjdknmfmlfnaa.flr q) (q.es.take (dnN q.es)) (dnN q.es) = rFwd p := by
  have hdn : dnN q.es = rDn p.rs := by
    unfold dnN rDn
    rw [h.es, h.rs, List.takeWhile_map, List.takeWhile_map, List.length_map, List.length_map]
    congr 1
    have : ∀ (k : PL), (∀ x ∈ k, Pr q.mg p.ct x) → k.takeWhile ((fun e => !openB e) ∘ Prod.fst) = k.takeWhile ((fun r : RE => decide (3 ≤ r.st)) ∘ Prod.snd) := by
      intro k
      induction k with
      | nil => intro _; rfl
      | cons x r ih =>
        intro hk
        have hp := hk x (List.mem_cons_self ..)
        have e : (!openB x.1) = decide (3 ≤ x.2.st) := by
          have := hp.st
          unfold openB
          rw [hp.sm.st, Bool.eq_iff_iff, decide_eq_true_eq]
          simp
          omega
        by_cases h3 : 3 ≤ x.2.st
        · rw [List.takeWhile_cons_of_pos (by show (!openB x.1) = true; rw [e]; exact decide_eq_true h3), List.takeWhile_cons_of_pos (by show decide (3 ≤ x.2.st) = true; exact decide_eq_true h3), ih fun y hy => hk y (List.mem_cons_of_mem _ hy)]
        · rw [List.takeWhile_cons_of_neg (by show ¬ (!openB x.1) = true; rw [e]; simpa using h3), List.takeWhile_cons_of_neg (by show ¬ decide (3 ≤ x.2.st) = true; simpa using h3)]
    exact this l h.al
  obtain ⟨d, hd⟩ : ∃ d, dnN q.es = d := ⟨_, rfl⟩
  have hdl : d ≤ l.length := by have := dnN_le q.es; rw [h.es, List.length_map] at this; rw [← hd, h.es]; exact this
  have key : ∀ i, i ≤ d → fwE (Go.Proofs.Ytffjdknmfmlfnaa.flr q) (q.es.take d) i = if rLst p.rs i < 0 then (Go.Proofs.Ytffjdknmfmlfnaa.flr q, false, rSkp p.rs i) else (((p.rs[(rLst p.rs i).toNat]?).map fun r => r.c.a).getD 0, true, rSkp p.rs i) := by
    intro i
    induction i with
    | zero => intro _; rfl
    | succ i ih =>
      intro hi
      have hli : i < l.length := by omega
      have hx := h.al _ (List.getElem_mem hli)
      have hf := hfl _ (List.getElem_mem hli)
      have e1 : (q.es.take d)[i]? = some (l[i]).1 := by rw [List.getElem?_take, if_pos (by omega), h.es, List.getElem?_map, List.getElem?_eq_getElem hli]; rfl
      have e2 : p.rs[i]? = some (l[i]).2 := by rw [h.rs, List.getElem?_map, List.getElem?_eq_getElem hli]; rfl
      have hct := hx.sm.ct
      have eo : (l[i]).1.c.ou = (l[i]).2.c.ou := congrArg Ct.ou hct
      have es' : (l[i]).1.c.si = (l[i]).2.c.si := congrArg Ct.si hct
      have ea : (l[i]).1.c.a = (l[i]).2.c.a := congrArg Ct.a hct
      have ef : (l[i]).1.c.fl = (l[i]).2.c.fl := congrArg Ct.fl hct
      have ih := ih (by omega)
      have hsk : (fwE (Go.Proofs.Ytffjdknmfmlfnaa.flr q) (q.es.take d) i).2.2 = rSkp p.rs i := by rw [ih]; split <;> rfl
      by_cases h4 : (l[i]).2.st = 4
      · have h41 : (l[i]).1.st = 4 := by rw [hx.sm.st]; exact h4
        have e3 : rLst p.rs (i + 1) = (i : Int) := by rw [rLst, e2]; dsimp only; rw [if_pos h4]
        have e4 : rSkp p.rs (i + 1) = if ordB (l[i]).1.c = true then skL (rSkp p.rs i) (l[i]).1.c.ou (l[i]).1.c.si else rSkp p.rs i := by
          rw [rSkp, e2]
          dsimp only
          have e5 : rSkB (l[i]).2 = ordB (l[i]).1.c := by
            rw [ord_sk (by rw [ef]; exact hf), ef]
            unfold rSkB
            simp [h4]
          rw [e5, eo, es']
        rw [e3, if_neg (by omega), Int.toNat_natCast, e2, fwE, e1]
        dsimp only
        rw [if_pos h41, hsk, e4, ea]
        rfl
      · have h41 : ¬ (l[i]).1.st = 4 := by rw [hx.sm.st]; exact h4
        have e3 : rLst p.rs (i + 1) = rLst p.rs i := by rw [rLst, e2]; dsimp only; rw [if_neg h4]
        have e4 : rSkp p.rs (i + 1) = rSkp p.rs i := by
          rw [rSkp, e2]
          dsimp only
          rw [if_neg]
          unfold rSkB
          simp [h4]
        rw [e3, e4, fwE_no e1 h41]
        exact ih
  have h1 := key d (Nat.le_refl _)
  rw [hd, h1]
  have h2 := rSkp_last p.rs d
  unfold rFwd
  rw [← hdn, hd]
  by_cases h3 : rLst p.rs d < 0
  · rw [if_pos h3, if_pos h3, h2.1 h3, h.flr]
  · rw [if_neg h3, if_neg h3, ← h2.2 (by omega)]
end
end Go.Proofs.Ytffjdknmfmlfnaa
