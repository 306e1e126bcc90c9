/- Chunks in memory: a slice of structs of twelve cells. Over every program. -/
import Derived.Test.YtacmfoljbjdcjaaMem
namespace Go.Proofs.Ytacmfoljbjdcjaa
open Go.RowKit
set_option linter.unusedVariables false

/-! ### A list of things of K cells each, laid one behind the other -/
def flatF {α : Type} (f : α → List Value) (l : List α) : List Value := l.flatMap f
section
variable {α : Type} {f : α → List Value} {K : Nat} (hf : ∀ x, (f x).length = K)
include hf
theorem flatF_len (l : List α) : (flatF f l).length = l.length * K := by
  induction l with
  | nil => simp [flatF]
  | cons x r ih =>
    simp only [flatF, List.flatMap_cons, List.length_append, List.length_cons] at ih ⊢
    rw [ih, hf, Nat.add_mul, Nat.one_mul, Nat.add_comm]
theorem flatF_get : ∀ (l : List α) (j : Nat) (x : α), l[j]? = some x → ∀ i, i < K → (flatF f l)[j * K + i]? = (f x)[i]?
  | [], j, x, h, _, _ => by simp at h
  | y :: r, 0, x, h, i, hi => by
    simp at h
    subst h
    simp only [flatF, List.flatMap_cons]
    rw [Nat.zero_mul, Nat.zero_add, List.getElem?_append_left (by rw [hf]; exact hi)]
  | y :: r, j + 1, x, h, i, hi => by
    have := flatF_get r j x (by simpa using h) i hi
    simp only [flatF, List.flatMap_cons]
    rw [List.getElem?_append_right (by rw [hf, Nat.add_mul]; omega), hf, show (j + 1) * K + i - K = j * K + i by rw [Nat.add_mul]; omega]
    exact this
theorem flatF_take (l : List α) (k : Nat) : (flatF f l).take (k * K) = flatF f (l.take k) := by
  induction l generalizing k with
  | nil => simp [flatF]
  | cons x r ih =>
    cases k with
    | zero => simp [flatF]
    | succ k =>
      simp only [flatF, List.flatMap_cons, List.take_succ_cons] at ih ⊢
      rw [List.take_append, hf, List.take_of_length_le (by rw [hf, Nat.add_mul]; omega), show (k + 1) * K - K = k * K by rw [Nat.add_mul]; omega, ih]
theorem flatF_drop (l : List α) (k : Nat) : (flatF f l).drop (k * K) = flatF f (l.drop k) := by
  induction l generalizing k with
  | nil => simp [flatF]
  | cons x r ih =>
    cases k with
    | zero => simp [flatF]
    | succ k =>
      simp only [flatF, List.flatMap_cons, List.drop_succ_cons] at ih ⊢
      rw [List.drop_append, hf, List.drop_eq_nil_of_le (by rw [hf, Nat.add_mul]; omega), show (k + 1) * K - K = k * K by rw [Nat.add_mul]; omega, ih, List.nil_append]
end
theorem flatF_append {α : Type} {f : α → List Value} (l m : List α) : flatF f (l ++ m) = flatF f l ++ flatF f m := by simp [flatF]
theorem flatF_one {α : Type} {f : α → List Value} (h : ∀ x, ∀ u ∈ f x, u.oneCell' = true) (l : List α) : ∀ u ∈ flatF f l, u.oneCell' = true := fun u hu => by
  obtain ⟨x, _, hx⟩ := List.mem_flatMap.1 hu
  exact h x u hx

/-! ### Parameters, as they lie (what their values hold is not said) -/
abbrev PV := Int × Option Addr × Nat × Nat
def PV.cells (x : PV) : List Value := [.int .u16 x.1, .slice x.2.1 x.2.2.1 x.2.2.2]
theorem PV.len (x : PV) : x.cells.length = 2 := rfl
def PR (w : World) (A : Option Addr) (n c : Nat) (l : List PV) : Prop := n = l.length ∧ n ≤ c ∧ SR w A (flatF PV.cells l)
theorem PR.step {w w' : World} {A : Option Addr} {n c : Nat} {l : List PV} (h : PR w A n c l) (hb : Below w.heap.size w w') : PR w' A n c l := ⟨h.1, h.2.1, h.2.2.step hb⟩
theorem PR.nil (w : World) : PR w none 0 0 [] := ⟨rfl, Nat.le_refl _, SR.nil _ _⟩
theorem PR.at_ {w : World} {A : Option Addr} {n c : Nat} {l : List PV} (h : PR w A n c l) {j : Nat} (hj : j < n) :
    ∃ b o k a m d, A = some ⟨b, o, none⟩ ∧ b < w.heap.size ∧ w.cell? ⟨b, o + j * 2, none⟩ = some (.int .u16 k) ∧ w.cell? ⟨b, o + j * 2 + 1, none⟩ = some (.slice a m d) ∧ l[j]? = some (k, a, m, d) := by
  obtain ⟨h1, _, h3⟩ := h
  have hl : j < l.length := by omega
  have hg := flatF_get (f := PV.cells) PV.len l j l[j] (List.getElem?_eq_getElem hl)
  obtain ⟨b, o, e, hlt, hc⟩ := h3 (by intro h0; have := flatF_len (f := PV.cells) PV.len l; rw [h0] at this; simp at this; omega)
  have c0 := hc (j * 2 + 0) _ ((hg 0 (by decide)).trans rfl)
  have c1 := hc (j * 2 + 1) _ ((hg 1 (by decide)).trans rfl)
  exact ⟨b, o, _, _, _, _, e, hlt, c0, by rw [Nat.add_assoc]; exact c1, List.getElem?_eq_getElem hl⟩

/-! ### Chunks -/
structure CX where
  kd : Int
  fl : Int
  a : Int
  b : Int
  ou : Int
  si : Int
  pp : Int
  bl : Option Addr × Nat × Nat
  du : Option Addr × Nat × Nat
  sk : Option Addr × Nat × Nat
  pr : Option Addr × Nat × Nat
  da : Option Addr × Nat × Nat
  ps : List PV
  bs : List UInt8
def CX.cells (x : CX) : List Value := [.int .u8 x.kd, .int .u8 x.fl, .int .u32 x.a, .int .u32 x.b, .int .u16 x.ou, .int .u16 x.si, .int .u32 x.pp, .slice x.bl.1 x.bl.2.1 x.bl.2.2, .slice x.du.1 x.du.2.1 x.du.2.2, .slice x.sk.1 x.sk.2.1 x.sk.2.2, .slice x.pr.1 x.pr.2.1 x.pr.2.2, .slice x.da.1 x.da.2.1 x.da.2.2]
theorem CX.len (x : CX) : x.cells.length = 12 := rfl
theorem CX.one (x : CX) : ∀ u ∈ x.cells, u.oneCell' = true := by
  intro u hu
  simp only [CX.cells, List.mem_cons, List.not_mem_nil, or_false] at hu
  rcases hu with rfl | rfl | rfl | rfl | rfl | rfl | rfl | rfl | rfl | rfl | rfl | rfl <;> rfl
/-- What is said of one that lies in w. -/
structure CV (w : World) (x : CX) : Prop where
  kd : 0 ≤ x.kd ∧ x.kd < 256
  fl : 0 ≤ x.fl ∧ x.fl < 256
  a : 0 ≤ x.a ∧ x.a < 4294967296
  b : 0 ≤ x.b ∧ x.b < 4294967296
  ou : 0 ≤ x.ou ∧ x.ou < 65536
  si : 0 ≤ x.si ∧ x.si < 65536
  pp : 0 ≤ x.pp ∧ x.pp < 4294967296
  ps : PR w x.pr.1 x.pr.2.1 x.pr.2.2 x.ps
  bs : BS w x.da.1 x.da.2.1 x.da.2.2 x.bs
theorem CV.step {w w' : World} {x : CX} (h : CV w x) (hb : Below w.heap.size w w') : CV w' x := ⟨h.kd, h.fl, h.a, h.b, h.ou, h.si, h.pp, h.ps.step hb, h.bs.step hb⟩
/-- The slice at A, of n chunks, with room for c, reads as l. -/
def CS (w : World) (A : Option Addr) (n c : Nat) (l : List CX) : Prop := n = l.length ∧ n ≤ c ∧ SR w A (flatF CX.cells l) ∧ ∀ x ∈ l, CV w x
theorem CS.step {w w' : World} {A : Option Addr} {n c : Nat} {l : List CX} (h : CS w A n c l) (hb : Below w.heap.size w w') : CS w' A n c l := ⟨h.1, h.2.1, h.2.2.1.step hb, fun x hx => (h.2.2.2 x hx).step hb⟩
theorem CS.nil (w : World) : CS w none 0 0 [] := ⟨rfl, Nat.le_refl _, SR.nil _ _, by simp⟩
theorem CS.len {w : World} {A : Option Addr} {n c : Nat} {l : List CX} (h : CS w A n c l) : n = l.length := h.1
/-- The twelve cells of number j. -/
def At12 (w : World) (b o : Nat) (x : CX) : Prop :=
  w.cell? ⟨b, o, none⟩ = some (.int .u8 x.kd) ∧ w.cell? ⟨b, o + 1, none⟩ = some (.int .u8 x.fl) ∧ w.cell? ⟨b, o + 2, none⟩ = some (.int .u32 x.a) ∧ w.cell? ⟨b, o + 3, none⟩ = some (.int .u32 x.b) ∧ w.cell? ⟨b, o + 4, none⟩ = some (.int .u16 x.ou) ∧ w.cell? ⟨b, o + 5, none⟩ = some (.int .u16 x.si) ∧ w.cell? ⟨b, o + 6, none⟩ = some (.int .u32 x.pp) ∧
  w.cell? ⟨b, o + 7, none⟩ = some (.slice x.bl.1 x.bl.2.1 x.bl.2.2) ∧ w.cell? ⟨b, o + 8, none⟩ = some (.slice x.du.1 x.du.2.1 x.du.2.2) ∧ w.cell? ⟨b, o + 9, none⟩ = some (.slice x.sk.1 x.sk.2.1 x.sk.2.2) ∧ w.cell? ⟨b, o + 10, none⟩ = some (.slice x.pr.1 x.pr.2.1 x.pr.2.2) ∧ w.cell? ⟨b, o + 11, none⟩ = some (.slice x.da.1 x.da.2.1 x.da.2.2)
theorem CS.at_ {w : World} {A : Option Addr} {n c : Nat} {l : List CX} (h : CS w A n c l) {j : Nat} (hj : j < n) :
    ∃ b o x, A = some ⟨b, o, none⟩ ∧ b < w.heap.size ∧ At12 w b (o + j * 12) x ∧ l[j]? = some x ∧ CV w x := by
  obtain ⟨h1, _, h3, h4⟩ := h
  have hl : j < l.length := by omega
  have hg := flatF_get (f := CX.cells) CX.len l j l[j] (List.getElem?_eq_getElem hl)
  obtain ⟨b, o, e, hlt, hc⟩ := h3 (by intro h0; have := flatF_len (f := CX.cells) CX.len l; rw [h0] at this; simp at this; omega)
  have key : ∀ i v, i < 12 → (l[j]).cells[i]? = some v → w.cell? ⟨b, o + j * 12 + i, none⟩ = some v := fun i v hi hv => by
    rw [Nat.add_assoc]
    exact hc _ _ ((hg i hi).trans hv)
  exact ⟨b, o, l[j], e, hlt, ⟨key 0 _ (by decide) rfl, key 1 _ (by decide) rfl, key 2 _ (by decide) rfl, key 3 _ (by decide) rfl, key 4 _ (by decide) rfl, key 5 _ (by decide) rfl, key 6 _ (by decide) rfl, key 7 _ (by decide) rfl, key 8 _ (by decide) rfl, key 9 _ (by decide) rfl, key 10 _ (by decide) rfl, key 11 _ (by decide) rfl⟩, List.getElem?_eq_getElem hl, h4 _ (List.getElem_mem _)⟩
theorem CS.take {w : World} {A : Option Addr} {n c : Nat} {l : List CX} (h : CS w A n c l) {k : Nat} (hk : k ≤ n) : CS w A k c (l.take k) := by
  obtain ⟨h1, h2, h3, h4⟩ := h
  refine ⟨by rw [List.length_take]; omega, by omega, ?_, fun x hx => h4 x (List.mem_of_mem_take hx)⟩
  rw [← flatF_take CX.len]
  exact h3.take _
theorem CS.drop {w : World} {A : Option Addr} {n c : Nat} {l : List CX} (h : CS w A n c l) {k : Nat} (hk : k ≤ n) : CS w (if c = k then A else A.map (·.add (k * 12))) (n - k) (c - k) (l.drop k) := by
  obtain ⟨h1, h2, h3, h4⟩ := h
  refine ⟨by rw [List.length_drop]; omega, by omega, fun hx => ?_, fun x hx => h4 x (List.mem_of_mem_drop hx)⟩
  have hkl : k < l.length := by
    rcases Nat.lt_or_ge k l.length with h0 | h0
    · exact h0
    · rw [List.drop_eq_nil_of_le h0] at hx
      exact absurd rfl hx
  obtain ⟨b, o, rfl, hlt, hcell⟩ := h3 (by intro h0; have := flatF_len (f := CX.cells) CX.len l; rw [h0] at this; simp at this; omega)
  refine ⟨b, o + k * 12, ?_, hlt, fun j u hu => ?_⟩
  · rw [if_neg (by omega)]
    simp [Addr.add_lit]
  · rw [Nat.add_assoc]
    exact hcell _ u (by rw [← hu, ← flatF_drop CX.len, List.getElem?_drop])
theorem CS.of_own {w : World} {base n c : Nat} {A : Option Addr} {l : List CX} {e : TypeId} (h : w.ownsRow base e 12 (.slice A n c) n (flatF CX.cells l)) (hv : ∀ x ∈ l, CV w x) : CS w A n c l := by
  have hlen := h.1
  rw [flatF_len CX.len] at hlen
  rcases h.2 with ⟨h0, h1⟩ | ⟨g, cap, cur, hv', _, hg, hnc, _, _, ht⟩
  · injection h0 with a1 a2 a3
    subst a1 a2 a3
    exact ⟨by omega, Nat.le_refl _, fun hx => absurd (List.eq_nil_of_length_eq_zero (by rw [flatF_len CX.len]; omega)) hx, hv⟩
  · injection hv' with a1 a2 a3
    subst a1 a3
    refine ⟨by omega, hnc, ?_, hv⟩
    have := (SR.row hg).take (n * 12)
    rw [ht] at this
    exact this
/-! ### Messages -/
/-- A message as it lies. -/
structure MX where
  st : Int
  un : Bool
  pp : Int
  da : Option Addr × Nat × Nat
  bs : List UInt8
def MX.cells (x : MX) : List Value := [.int .u16 x.st, .bool x.un, .int .u32 x.pp, .slice x.da.1 x.da.2.1 x.da.2.2]
structure MV (w : World) (x : MX) : Prop where
  st : 0 ≤ x.st ∧ x.st < 65536
  pp : 0 ≤ x.pp ∧ x.pp < 4294967296
  bs : BS w x.da.1 x.da.2.1 x.da.2.2 x.bs
theorem MV.step {w w' : World} {x : MX} (h : MV w x) (hb : Below w.heap.size w w') : MV w' x := ⟨h.st, h.pp, h.bs.step hb⟩
theorem MX.len (x : MX) : x.cells.length = 4 := rfl
end Go.Proofs.Ytacmfoljbjdcjaa
