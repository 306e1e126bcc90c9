/- KAD of the stage: texts Q2, joined. -/
import Derived.Test.YtffjdknmfmlfnaaKAB
import Derived.Test.YtffjdknmfmlfnaaKAC
set_option linter.unusedSimpArgs false
set_option linter.unusedVariables false
namespace Go.Proofs.Ytffjdknmfmlfnaa
section
open Go.RowKit Go.Maps

theorem below_drewN {B : Nat} {a w : World} (h : Below B a w) (k : Nat) : Below B a (w.drewN k) := ⟨h.os, h.tape, h.output, h.size, h.block⟩
/-- The cells of the blocks that ok names lie as they lay. -/
structure Kpt (ok : Nat → Prop) (A B : World) : Prop where
  size : A.heap.size ≤ B.heap.size
  cells : ∀ k cs t fr, ok k → A.heap[k]? = some (.cells cs t fr) → B.heap[k]? = some (.cells cs t fr)
theorem Kpt.of_part {S ok : Nat → Prop} {A B : World} (h : Part S A B) (ho : ∀ k, ok k → ¬ S k) : Kpt ok A B := ⟨h.size, fun k cs t fr hk hc => (h.block k (Array.getElem?_eq_some_iff.1 hc).1 (ho k hk)).trans hc⟩
theorem Kpt.of_st {ok : Nat → Prop} {N : Nat} {A B : World} (h : StN N A B) : Kpt ok A B := ⟨h.size, fun k cs t fr _ hc => h.cells hc⟩
theorem Kpt.of_below {ok : Nat → Prop} {A B : World} (h : Below A.heap.size A B) : Kpt ok A B := ⟨h.size, fun k cs t fr _ hc => (h.block k (Array.getElem?_eq_some_iff.1 hc).1).trans hc⟩
theorem Kpt.trans {ok : Nat → Prop} {A B C : World} (h : Kpt ok A B) (g : Kpt ok B C) : Kpt ok A C := ⟨Nat.le_trans h.size g.size, fun k cs t fr ho hc => g.cells k cs t fr ho (h.cells k cs t fr ho hc)⟩
def InF (F : Nat → Prop) (A : Option Addr) : Prop := ∀ a, A = some a → F a.block
theorem cell_row {w : World} {b o : Nat} {v : Value} (h : w.cell? ⟨b, o, none⟩ = some v) : ∃ cs t fr, w.heap[b]? = some (.cells cs t fr) := by
  unfold World.cell? at h
  cases ho : w.heap[b]? with
  | none => simp [ho] at h
  | some x => cases x <;> simp_all
theorem Kpt.cell {ok : Nat → Prop} {A B : World} (h : Kpt ok A B) {b o : Nat} {v : Value} (hb : ok b) (hc : A.cell? ⟨b, o, none⟩ = some v) : B.cell? ⟨b, o, none⟩ = some v := by
  obtain ⟨cs, t, fr, hr⟩ := cell_row hc
  exact (World.cell?_of_block (w := A) (a := ⟨b, o, none⟩) ((h.cells _ _ _ _ hb hr).trans hr.symm)).trans hc
theorem Kpt.sr {ok : Nat → Prop} {A B : World} (h : Kpt ok A B) {p : Option Addr} {xs : List Value} (hp : InF ok p) (hs : SR A p xs) : SR B p xs := fun hx => by
  obtain ⟨b, o, e, hlt, hc⟩ := hs hx
  exact ⟨b, o, e, Nat.lt_of_lt_of_le hlt h.size, fun j u hu => h.cell (hp _ e) (hc j u hu)⟩
theorem Kpt.bs {ok : Nat → Prop} {A B : World} (h : Kpt ok A B) {p : Option Addr} {n c : Nat} {bs : List UInt8} (hp : InF ok p) (hs : BS A p n c bs) : BS B p n c bs := ⟨hs.1, hs.2.1, h.sr hp hs.2.2⟩
theorem Kpt.own {ok : Nat → Prop} {A B : World} (h : Kpt ok A B) {base : Nat} {e : TypeId} {size n : Nat} {v : Value} {xs : List Value} (ho : A.ownsRow base e size v n xs) (hv : ∀ g, v.ownBlock = some g → ok g) : B.ownsRow base e size v n xs := by
  refine ⟨ho.1, ?_⟩
  rcases ho.2 with hn | ⟨g, cap, cur, rfl, hb, hgg, rest⟩
  · exact .inl hn
  · exact .inr ⟨g, cap, cur, rfl, hb, h.cells _ _ _ _ (hv g (by simp [Value.ownBlock])) hgg, rest⟩

/-- A slice as it lies. -/
abbrev SL := Option Addr × Nat × Nat
def SL.v (s : SL) : Value := .slice s.1 s.2.1 s.2.2
def LR {α : Type} (f : α → List Value) (w : World) (s : SL) (l : List α) : Prop := s.2.1 = l.length ∧ s.2.1 ≤ s.2.2 ∧ SR w s.1 (flatF f l)
theorem LR.kept {α : Type} {f : α → List Value} {ok : Nat → Prop} {A B : World} {s : SL} {l : List α} (h : LR f A s l) (k : Kpt ok A B) (hp : InF ok s.1) : LR f B s l := ⟨h.1, h.2.1, k.sr hp h.2.2⟩
def blC (x : Int × Int) : List Value := [.int .u16 x.1, .int .u16 x.2]
def duC (x : Int) : List Value := [.int .u32 x]
theorem blC_len (x : Int × Int) : (blC x).length = 2 := rfl
theorem duC_len (x : Int) : (duC x).length = 1 := rfl
theorem blC_one (x : Int × Int) : ∀ u ∈ blC x, u.oneCell' = true := by
  intro u hu
  simp only [blC, List.mem_cons, List.not_mem_nil, or_false] at hu
  rcases hu with rfl | rfl <;> rfl
theorem duC_one (x : Int) : ∀ u ∈ duC x, u.oneCell' = true := by
  intro u hu
  simp only [duC, List.mem_cons, List.not_mem_nil, or_false] at hu
  subst hu
  rfl
/-- A parameter as it lies: kind; address, length, capacity of its value; the value. -/
abbrev PZ := Int × Option Addr × Nat × Nat × List UInt8
def PZ.cells (x : PZ) : List Value := [.int .u16 x.1, .slice x.2.1 x.2.2.1 x.2.2.2.1]
theorem PZ.len (x : PZ) : (PZ.cells x).length = 2 := rfl
theorem PZ.one (x : PZ) : ∀ u ∈ PZ.cells x, u.oneCell' = true := by
  intro u hu
  simp only [PZ.cells, List.mem_cons, List.not_mem_nil, or_false] at hu
  rcases hu with rfl | rfl <;> rfl
def PZ.ct (x : PZ) : Int × List UInt8 := (x.1, x.2.2.2.2)
def PV5 (w : World) (x : PZ) : Prop := BS w x.2.1 x.2.2.1 x.2.2.2.1 x.2.2.2.2 ∧ x.2.2.1 ≤ 140737488355328
/-- A chunk as it lies, and what its lists hold. -/
structure CZ where
  kd : Int
  fl : Int
  a : Int
  b : Int
  ou : Int
  si : Int
  pp : Int
  bl : SL
  du : SL
  sk : SL
  pr : SL
  da : SL
  bls : List (Int × Int)
  dus : List Int
  sks : List (Int × Int)
  prs : List PZ
  bs : List UInt8
def CZ.cells (x : CZ) : List Value := [.int .u8 x.kd, .int .u8 x.fl, .int .u32 x.a, .int .u32 x.b, .int .u16 x.ou, .int .u16 x.si, .int .u32 x.pp, .slice x.bl.1 x.bl.2.1 x.bl.2.2, .slice x.du.1 x.du.2.1 x.du.2.2, .slice x.sk.1 x.sk.2.1 x.sk.2.2, .slice x.pr.1 x.pr.2.1 x.pr.2.2, .slice x.da.1 x.da.2.1 x.da.2.2]
theorem CZ.len (x : CZ) : x.cells.length = 12 := rfl
theorem CZ.one (x : CZ) : ∀ u ∈ x.cells, u.oneCell' = true := by
  intro u hu
  simp only [CZ.cells, List.mem_cons, List.not_mem_nil, or_false] at hu
  rcases hu with rfl | rfl | rfl | rfl | rfl | rfl | rfl | rfl | rfl | rfl | rfl | rfl <;> rfl
/-- What it is, wherever it lies. -/
structure Ct where
  kd : Int
  fl : Int
  a : Int
  b : Int
  ou : Int
  si : Int
  pp : Int
  bls : List (Int × Int)
  dus : List Int
  sks : List (Int × Int)
  prs : List (Int × List UInt8)
  bs : List UInt8
def CZ.ct (x : CZ) : Ct := ⟨x.kd, x.fl, x.a, x.b, x.ou, x.si, x.pp, x.bls, x.dus, x.sks, x.prs.map PZ.ct, x.bs⟩
/-- Where its lists lie. -/
def CZ.ads (x : CZ) : List (Option Addr) := [x.bl.1, x.du.1, x.sk.1, x.pr.1, x.da.1] ++ x.prs.map fun p => p.2.1
structure ZV (w : World) (x : CZ) : Prop where
  kd : 0 ≤ x.kd ∧ x.kd < 256
  fl : 0 ≤ x.fl ∧ x.fl < 256
  a : 0 ≤ x.a ∧ x.a < 4294967296
  b : 0 ≤ x.b ∧ x.b < 4294967296
  ou : 0 ≤ x.ou ∧ x.ou < 65536
  si : 0 ≤ x.si ∧ x.si < 65536
  pp : 0 ≤ x.pp ∧ x.pp < 4294967296
  bl : LR blC w x.bl x.bls
  du : LR duC w x.du x.dus
  sk : LR blC w x.sk x.sks
  pr : LR PZ.cells w x.pr x.prs
  ps : ∀ p ∈ x.prs, PV5 w p
  da : BS w x.da.1 x.da.2.1 x.da.2.2 x.bs
/-- None of its lists is too long to be copied. -/
structure Sm (x : CZ) : Prop where
  bl : x.bl.2.1 ≤ 1000000
  du : x.du.2.1 ≤ 1000000
  sk : x.sk.2.1 ≤ 1000000
  pr : x.pr.2.1 ≤ 1000000
  da : x.da.2.1 ≤ 1000000
theorem ZV.kept {ok : Nat → Prop} {A B : World} {x : CZ} (h : ZV A x) (k : Kpt ok A B) (hp : ∀ p ∈ x.ads, InF ok p) : ZV B x := by
  have h1 : ∀ p, p ∈ x.prs → InF ok p.2.1 := fun p hp' => hp _ (by simp only [CZ.ads, List.mem_append, List.mem_map]; exact .inr ⟨p, hp', rfl⟩)
  exact ⟨h.kd, h.fl, h.a, h.b, h.ou, h.si, h.pp, h.bl.kept k (hp _ (by simp [CZ.ads])), h.du.kept k (hp _ (by simp [CZ.ads])), h.sk.kept k (hp _ (by simp [CZ.ads])), h.pr.kept k (hp _ (by simp [CZ.ads])),
    fun p hp' => ⟨k.bs (h1 p hp') (h.ps p hp').1, (h.ps p hp').2⟩, k.bs (hp _ (by simp [CZ.ads])) h.da⟩
theorem InF.all (A : Option Addr) : InF (fun _ => True) A := fun _ _ => trivial
theorem ZV.step {A B : World} {x : CZ} (h : ZV A x) (hb : Below A.heap.size A B) : ZV B x := h.kept (ok := fun _ => True) (Kpt.of_below hb) fun _ _ => InF.all _
theorem ZV.st {A B : World} {N : Nat} {x : CZ} (h : ZV A x) (hb : StN N A B) : ZV B x := h.kept (ok := fun _ => True) (Kpt.of_st hb) fun _ _ => InF.all _
/-- The slice at s reads as l. -/
def ZS (w : World) (s : SL) (l : List CZ) : Prop := LR CZ.cells w s l ∧ ∀ x ∈ l, ZV w x
theorem ZS.step {A B : World} {s : SL} {l : List CZ} (h : ZS A s l) (hb : Below A.heap.size A B) : ZS B s l := ⟨h.1.kept (ok := fun _ => True) (Kpt.of_below hb) (InF.all _), fun x hx => (h.2 x hx).step hb⟩
/-- The twelve cells. -/
def Z12 (w : World) (b o : Nat) (x : CZ) : Prop :=
  w.cell? ⟨b, o, none⟩ = some (.int .u8 x.kd) ∧ w.cell? ⟨b, o + 1, none⟩ = some (.int .u8 x.fl) ∧ w.cell? ⟨b, o + 2, none⟩ = some (.int .u32 x.a) ∧ w.cell? ⟨b, o + 3, none⟩ = some (.int .u32 x.b) ∧ w.cell? ⟨b, o + 4, none⟩ = some (.int .u16 x.ou) ∧ w.cell? ⟨b, o + 5, none⟩ = some (.int .u16 x.si) ∧ w.cell? ⟨b, o + 6, none⟩ = some (.int .u32 x.pp) ∧
  w.cell? ⟨b, o + 7, none⟩ = some (.slice x.bl.1 x.bl.2.1 x.bl.2.2) ∧ w.cell? ⟨b, o + 8, none⟩ = some (.slice x.du.1 x.du.2.1 x.du.2.2) ∧ w.cell? ⟨b, o + 9, none⟩ = some (.slice x.sk.1 x.sk.2.1 x.sk.2.2) ∧ w.cell? ⟨b, o + 10, none⟩ = some (.slice x.pr.1 x.pr.2.1 x.pr.2.2) ∧ w.cell? ⟨b, o + 11, none⟩ = some (.slice x.da.1 x.da.2.1 x.da.2.2)
theorem Z12.of {w : World} {b o : Nat} {x : CZ} (h : ∀ i v, x.cells[i]? = some v → w.cell? ⟨b, o + i, none⟩ = some v) : Z12 w b o x :=
  ⟨h 0 _ rfl, h 1 _ rfl, h 2 _ rfl, h 3 _ rfl, h 4 _ rfl, h 5 _ rfl, h 6 _ rfl, h 7 _ rfl, h 8 _ rfl, h 9 _ rfl, h 10 _ rfl, h 11 _ rfl⟩
theorem Z12.kept {ok : Nat → Prop} {A B : World} {b o : Nat} {x : CZ} (h : Z12 A b o x) (k : Kpt ok A B) (hb : ok b) : Z12 B b o x := by
  obtain ⟨h0, h1, h2, h3, h4, h5, h6, h7, h8, h9, h10, h11⟩ := h
  exact ⟨k.cell hb h0, k.cell hb h1, k.cell hb h2, k.cell hb h3, k.cell hb h4, k.cell hb h5, k.cell hb h6, k.cell hb h7, k.cell hb h8, k.cell hb h9, k.cell hb h10, k.cell hb h11⟩
theorem ZS.at_ {w : World} {s : SL} {l : List CZ} (h : ZS w s l) {j : Nat} (hj : j < s.2.1) : ∃ b o x, s.1 = some ⟨b, o, none⟩ ∧ b < w.heap.size ∧ Z12 w b (o + j * 12) x ∧ l[j]? = some x ∧ ZV w x := by
  obtain ⟨⟨h1, _, h3⟩, h4⟩ := h
  have hl : j < l.length := by omega
  have hg := flatF_get (f := CZ.cells) CZ.len l j l[j] (List.getElem?_eq_getElem hl)
  obtain ⟨b, o, e, hlt, hc⟩ := h3 (by intro h0; have := flatF_len (f := CZ.cells) CZ.len l; rw [h0] at this; simp at this; omega)
  refine ⟨b, o, l[j], e, hlt, Z12.of fun i v hv => ?_, List.getElem?_eq_getElem hl, h4 _ (List.getElem_mem _)⟩
  have hi : i < 12 := by
    rcases Nat.lt_or_ge i 12 with h0 | h0
    · exact h0
    · rw [List.getElem?_eq_none (by rw [CZ.len]; exact h0)] at hv; cases hv
  rw [Nat.add_assoc]
  exact hc _ _ ((hg i hi).trans hv)
theorem LR.at_ {α : Type} {f : α → List Value} {K : Nat} (hf : ∀ x, (f x).length = K) (hK : 0 < K) {w : World} {s : SL} {l : List α} (h : LR f w s l) {j : Nat} (hj : j < s.2.1) :
    ∃ b o x, s.1 = some ⟨b, o, none⟩ ∧ b < w.heap.size ∧ l[j]? = some x ∧ ∀ i v, (f x)[i]? = some v → w.cell? ⟨b, o + j * K + i, none⟩ = some v := by
  obtain ⟨h1, _, h3⟩ := h
  have hl : j < l.length := by omega
  have hg := flatF_get (f := f) hf l j l[j] (List.getElem?_eq_getElem hl)
  obtain ⟨b, o, e, hlt, hc⟩ := h3 (by intro h0; have := flatF_len (f := f) hf l; rw [h0, List.length_nil] at this; have hp : 0 < l.length * K := Nat.mul_pos (by omega) hK; omega)
  refine ⟨b, o, l[j], e, hlt, List.getElem?_eq_getElem hl, fun i v hv => ?_⟩
  have hi : i < K := by
    rcases Nat.lt_or_ge i K with h0 | h0
    · exact h0
    · rw [List.getElem?_eq_none (by rw [hf]; exact h0)] at hv; cases hv
  rw [Nat.add_assoc]
  exact hc _ _ ((hg i hi).trans hv)
theorem LR.of_own {α : Type} {f : α → List Value} {K : Nat} (hf : ∀ x, (f x).length = K) (hK : 0 < K) {w : World} {base n c : Nat} {A : Option Addr} {l : List α} {e : TypeId} (h : w.ownsRow base e K (.slice A n c) n (flatF f l)) : LR f w (A, n, c) l := by
  have hlen := h.1
  rw [flatF_len hf] at hlen
  have hn : n = l.length := (Nat.mul_right_cancel hK hlen).symm
  rcases h.2 with ⟨h0, h1⟩ | ⟨g, cap, cur, hv', _, hg, hnc, _, _, ht⟩
  · injection h0 with a1 a2 a3
    subst a1 a2 a3
    refine ⟨hn, Nat.le_refl _, fun hx => absurd (List.eq_nil_of_length_eq_zero ?_) hx⟩
    rw [flatF_len hf, ← hn, Nat.zero_mul]
  · injection hv' with a1 a2 a3
    subst a1 a3
    refine ⟨hn, hnc, ?_⟩
    have := (SR.row hg).take (n * K)
    rw [ht] at this
    exact this
end
end Go.Proofs.Ytffjdknmfmlfnaa
