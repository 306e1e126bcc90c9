/- Parameters in memory: a slice of structs of a number and a slice of octets. -/
import Derived.Test.YtaifigmbjcebeaaVMath
import Derived.Test.YtaifigmbjcebeaaFrame
import Derived.Deep.SlicePairs
import Derived.Deep.Fields
import Derived.KernelRfl
namespace Go.Proofs.Ytaifigmbjcebeaa
open Go.ChangeShapes Go.WideShapes Go.ChangeAt Go.RowKit Go.Deep
set_option linter.unusedVariables false

/-- A parameter as it lies: kind; address, length, capacity of its value; the value. -/
abbrev PX := Int × Option Addr × Nat × Nat × List UInt8
/-- The parameter itself. -/
def pm (x : PX) : Pm := (x.1, x.2.2.2.2)
/-- Its value's slice. -/
def vs (x : PX) : Value := .slice x.2.1 x.2.2.1 x.2.2.2.1
def pv (x : PX) : Value := .agg #[.int .u16 x.1, vs x]
def flatP : List PX → List Value
  | [] => []
  | x :: r => .int .u16 x.1 :: vs x :: flatP r
theorem flatP_len : ∀ l : List PX, (flatP l).length = l.length * 2
  | [] => rfl
  | p :: r => by
    have := flatP_len r
    simp only [flatP, List.length_cons]
    omega
theorem flatP_append : ∀ l m : List PX, flatP (l ++ m) = flatP l ++ flatP m
  | [], _ => rfl
  | p :: r, m => by simp [flatP, flatP_append r m]
theorem flatP_get : ∀ (l : List PX) (j : Nat) (x : PX), l[j]? = some x → (flatP l)[j * 2]? = some (.int .u16 x.1) ∧ (flatP l)[j * 2 + 1]? = some (vs x)
  | [], j, p, h => by simp at h
  | q :: r, 0, p, h => by
    simp at h
    subst h
    simp [flatP]
  | q :: r, j + 1, p, h => by
    have := flatP_get r j p (by simpa using h)
    rw [show (j + 1) * 2 = j * 2 + 1 + 1 by omega]
    simpa [flatP] using this
theorem flatP_one : ∀ (l : List PX), ∀ u ∈ flatP l, u.oneCell' = true
  | [], u, h => by simp [flatP] at h
  | p :: r, u, h => by
    simp only [flatP, List.mem_cons] at h
    rcases h with rfl | rfl | h
    · rfl
    · rfl
    · exact flatP_one r u h

/-- What is said of one that lies in w. -/
def VP (w : World) (x : PX) : Prop := 0 ≤ x.1 ∧ x.1 < 65536 ∧ BS w x.2.1 x.2.2.1 x.2.2.2.1 x.2.2.2.2
theorem VP.step {w w' : World} {x : PX} (h : VP w x) (hb : Below w.heap.size w w') : VP w' x := ⟨h.1, h.2.1, h.2.2.step hb⟩
theorem VP.len {w : World} {x : PX} (h : VP w x) : x.2.2.1 = (pm x).2.length := h.2.2.len
/-- The slice at A, of n parameters, with room for c, reads as l. -/
def PS (w : World) (A : Option Addr) (n c : Nat) (l : List PX) : Prop := n = l.length ∧ n ≤ c ∧ SR w A (flatP l) ∧ ∀ x ∈ l, VP w x
theorem PS.step {w w' : World} {A : Option Addr} {n c : Nat} {l : List PX} (h : PS w A n c l) (hb : Below w.heap.size w w') : PS w' A n c l := ⟨h.1, h.2.1, h.2.2.1.step hb, fun x hx => (h.2.2.2 x hx).step hb⟩
theorem PS.nil (w : World) : PS w none 0 0 [] := ⟨rfl, Nat.le_refl _, SR.nil _ _, by simp⟩
theorem PS.len {w : World} {A : Option Addr} {n c : Nat} {l : List PX} (h : PS w A n c l) : n = l.length := h.1
theorem PS.at_ {w : World} {A : Option Addr} {n c : Nat} {l : List PX} (h : PS w A n c l) {j : Nat} (hj : j < n) :
    ∃ b o x, A = some ⟨b, o, none⟩ ∧ b < w.heap.size ∧ w.cell? ⟨b, o + j * 2, none⟩ = some (.int .u16 x.1) ∧ w.cell? ⟨b, o + j * 2 + 1, none⟩ = some (vs x) ∧ l[j]? = some x ∧ VP w x := by
  obtain ⟨h1, _, h3, h4⟩ := h
  have hl : j < l.length := by omega
  have hg := flatP_get l j l[j] (List.getElem?_eq_getElem hl)
  obtain ⟨b, o, e, hlt, hc⟩ := h3 (by intro h0; rw [h0] at hg; simp at hg)
  exact ⟨b, o, l[j], e, hlt, hc _ _ hg.1, by rw [Nat.add_assoc]; exact hc _ _ hg.2, List.getElem?_eq_getElem hl, h4 _ (List.getElem_mem _)⟩

theorem SR.of_own2 {w : World} {base : Nat} {e : TypeId} {size n c : Nat} {A : Option Addr} {xs : List Value} (h : w.ownsRow base e size (.slice A n c) n xs) : SR w A xs := fun hx => by
  rcases h.2 with ⟨_, h0⟩ | ⟨g, cap, cur, hv, _, hg, _, _, _, ht⟩
  · have := h.1
    rw [h0] at this
    exact absurd (List.eq_nil_of_length_eq_zero (by simpa using this)) hx
  · injection hv with hA
    subst hA
    have := (SR.row hg).take (n * size)
    rw [ht] at this
    exact this hx
theorem own_shape2 {w : World} {base : Nat} {e : TypeId} {size n : Nat} {v : Value} {xs : List Value} (h : w.ownsRow base e size v n xs) : ∃ A c, v = .slice A n c ∧ n ≤ c ∧ SR w A xs := by
  rcases h.2 with ⟨rfl, h0⟩ | ⟨g, cap, cur, rfl, _, _, hnc, _⟩
  · subst h0
    have : xs = [] := List.eq_nil_of_length_eq_zero (by simpa using h.1)
    subst this
    exact ⟨none, 0, rfl, Nat.le_refl _, SR.nil _ _⟩
  · exact ⟨_, cap, rfl, hnc, SR.of_own2 h⟩
theorem PS.of_own {w : World} {base n c : Nat} {A : Option Addr} {l : List PX} {e : TypeId} (h : w.ownsRow base e 2 (.slice A n c) n (flatP l)) (hv : ∀ x ∈ l, VP w x) : PS w A n c l := by
  obtain ⟨A', c', he, hc, hs⟩ := own_shape2 h
  injection he with h1 _ h3
  subst h1 h3
  have := h.1
  rw [flatP_len] at this
  exact ⟨by omega, hc, hs, hv⟩

theorem open_bytes1 {H : Type} {enc : TypeId × Value → H} {P : Program} {W : World} {base : Nat} {held : Bool} {t e : TypeId} (ht : P.underlying t = some (.slice e)) (he : P.underlying e = some (.int .u8)) (hc : P.cellsOf e = 1)
    {v : Value} {x : DataW H × List MemPlace} {fuel : Nat} (h : DataW.trod enc P W base (fun _ => true) held fuel t [v] = some x) : ∃ a n c bs, v = .slice a n c ∧ BS W a n c bs := by
  have key : ∀ a n c, v = .slice a n c → ∃ a n c bs, v = .slice a n c ∧ BS W a n c bs := by
    rintro a n c rfl
    obtain ⟨bs, hbs, _⟩ := open_bytes ht he hc (d := x.1) (p := x.2) (⟨fuel, h⟩ : DataW.Trod enc P W base (fun _ => true) held t (.slice a n c) x.1 x.2)
    exact ⟨a, n, c, bs, rfl, hbs⟩
  rcases open_ints ht he hc h with ⟨hcs, _⟩ | ⟨a, l, c, zs, hcs, _⟩
  · injection hcs with hcs
    exact key _ _ _ hcs
  · injection hcs with hcs
    exact key _ _ _ hcs

theorem open_params {H : Type} {enc : TypeId × Value → H} {P : Program} {W : World} {base : Nat} {held : Bool} {t e u : TypeId} {f0 f1 : Field} (ht : P.underlying t = some (.slice e)) (he : P.underlying e = some (.struct #[f0, f1])) (h0 : P.underlying f0.type = some (.int .u16)) (h1 : P.underlying f1.type = some (.slice u)) (hu : P.underlying u = some (.int .u8))
    (ce : P.cellsOf e = 2) (o0 : f0.offset = 0) (o1 : f1.offset = 1) (c0 : P.cellsOf f0.type = 1) (c1 : P.cellsOf f1.type = 1) (cu : P.cellsOf u = 1)
    {a : Option Addr} {n c : Nat} {d : DataW H} {p : List MemPlace} (h : DataW.Trod enc P W base (fun _ => true) held t (.slice a n c) d p) : ∃ l, PS W a n c l := by
  obtain ⟨fuel, hf⟩ := h
  rcases open_slice_pairs ht he ce o0 o1 c0 c1 hf with ⟨hcs, _⟩ | ⟨ad, len, cap, m, k, V0, V1, D0, D1, P0, P1, hcs, _, hl, _, hm, _, hi⟩
  · simp [Value.cells] at hcs
    obtain ⟨rfl, rfl, rfl⟩ := hcs
    exact ⟨[], PS.nil W⟩
  · simp [Value.cells] at hcs
    obtain ⟨rfl, rfl, rfl⟩ := hcs
    obtain rfl : m = c := by simpa using hm
    have key : ∀ i, ∃ x : PX, i < n → W.cell? (ad.add (i * 2)) = some (.int .u16 x.1) ∧ W.cell? (ad.add (i * 2 + 1)) = some (vs x) ∧ VP W x := by
      intro i
      by_cases hin : i < n
      · obtain ⟨e0, e1, t0, t1⟩ := hi i (by omega)
        obtain ⟨x, hx, _, hwf⟩ := DataW.trod_int h0 t0
        obtain ⟨b, bn, bc', bs, hv, hbs⟩ := open_bytes1 h1 hu cu t1
        simp only [List.cons.injEq, and_true] at hx
        have hb := bounds_u16 hwf
        exact ⟨(x, b, bn, bc', bs), fun _ => ⟨by rw [e0, hx], by rw [e1, hv]; rfl, by simp only; omega, by simp only; omega, hbs⟩⟩
      · exact ⟨(0, none, 0, 0, []), fun h' => absurd h' hin⟩
    obtain ⟨g, hg⟩ := Classical.axiomOfChoice key
    have hget : ∀ i, i < n → ((List.range n).map g)[i]? = some (g i) := fun i hin => by simp [hin]
    refine ⟨(List.range n).map g, by simp, hl, fun hne => ?_, fun x hx => ?_⟩
    · have hn : 0 < n := by
        rcases Nat.eq_zero_or_pos n with h0 | h0
        · subst h0; simp [flatP] at hne
        · exact h0
      obtain ⟨b, o, spot⟩ := ad
      have hc0 := (hg 0 hn).1
      have hspot : spot = none := by simpa [Addr.add] using World.cell?_spot hc0
      subst hspot
      rw [Addr.add_lit] at hc0
      refine ⟨b, o, rfl, World.block_lt_of_cell? W _ hc0, fun j v hv => ?_⟩
      have hjl : j < n * 2 := by
        rcases Nat.lt_or_ge j (n * 2) with h0 | h0
        · exact h0
        · rw [List.getElem?_eq_none (by rw [flatP_len]; simp; omega)] at hv; cases hv
      have hfg := flatP_get _ (j / 2) _ (hget (j / 2) (by omega))
      have hgg := hg (j / 2) (by omega)
      rw [Addr.add_lit, Addr.add_lit] at hgg
      rcases Nat.mod_two_eq_zero_or_one j with hm2 | hm2
      · rw [show j / 2 * 2 = j by omega] at hfg hgg
        rw [hfg.1] at hv
        rw [hgg.1, ← hv]
      · rw [show j / 2 * 2 + 1 = j by omega] at hfg hgg
        rw [hfg.2] at hv
        rw [hgg.2.1, ← hv]
    · obtain ⟨i, hir, rfl⟩ := List.mem_map.1 hx
      exact (hg i (by simpa using hir)).2.2

/-- The first place at which p holds, or -1. -/
def idxP {α : Type} (p : α → Bool) : List α → Int
  | [] => -1
  | x :: r => if p x then 0 else if idxP p r < 0 then -1 else idxP p r + 1
theorem idxP_miss {α : Type} (p : α → Bool) : ∀ l : List α, (∀ x ∈ l, p x = false) → idxP p l = -1
  | [], _ => rfl
  | x :: r, h => by
    have := idxP_miss p r fun y hy => h y (by simp [hy])
    rw [idxP, h x (by simp), this]
    simp
theorem idxP_hit {α : Type} (p : α → Bool) : ∀ (l : List α) (j : Nat) (x : α), l[j]? = some x → p x = true → (∀ y ∈ l.take j, p y = false) → idxP p l = j
  | [], j, x, h, _, _ => by simp at h
  | y :: r, 0, x, h, hx, _ => by
    simp at h
    subst h
    simp [idxP, hx]
  | y :: r, j + 1, x, h, hx, hn => by
    have := idxP_hit p r j x (by simpa using h) hx fun z hz => hn z (by simp [hz])
    rw [idxP, hn y (by simp), this]
    simp
    omega
theorem idxP_nonneg {α : Type} (p : α → Bool) (l : List α) : decide (0 ≤ idxP p l) = l.any p := by
  induction l with
  | nil => rfl
  | cons x r ih =>
    rw [List.any_cons, ← ih, idxP]
    cases p x
    · by_cases h : idxP p r < 0
      · simp [h] <;> omega
      · simp [h] <;> omega
    · simp
end Go.Proofs.Ytaifigmbjcebeaa
