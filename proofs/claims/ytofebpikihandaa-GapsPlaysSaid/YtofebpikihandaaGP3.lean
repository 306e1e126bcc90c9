/- The document's set: Forward. -/
import Derived.Test.YtofebpikihandaaGP2
namespace Go.Proofs.Ytofebpikihandaa
open Go.RowKit Go.Maps
set_option linter.unusedVariables false

/-- The marks copied so far, up to the i-th. -/
def cop (L : List Nat) (h i j : Nat) : Bool := if j + h < i then mark L (j + h) else false
theorem cop_start (L : List Nat) (h j : Nat) : cop L h h j = false := by
  unfold cop
  rw [if_neg (by omega)]
theorem cop_next {L : List Nat} {h i j : Nat} (hi : h ≤ i) : (if j = i - h then mark L i else cop L h i j) = cop L h (i + 1) j := by
  unfold cop
  by_cases e : j = i - h
  · rw [if_pos e, if_pos (by omega), show j + h = i by omega]
  · rw [if_neg e]
    by_cases k : j + h < i
    · rw [if_pos k, if_pos (by omega)]
    · rw [if_neg k, if_neg (by omega)]
theorem cop_all {L : List Nat} (hL : Fit L) {h j : Nat} (h1 : 1 ≤ h) (i : Nat) (hi : 1024 ≤ i) : cop L h i j = mark (shiftL h L) j := by
  unfold cop mark
  by_cases k : j + h < i
  · rw [if_pos k]
    apply decide_eq_decide.2
    rw [mem_shiftL, show j + 1 + h = j + h + 1 by omega]
    exact ⟨fun x => ⟨by omega, x⟩, fun x => x.2⟩
  · rw [if_neg k]
    symm
    apply decide_eq_false
    intro x
    have := hL.top _ (mem_shiftL.1 x).2
    omega
/-- While the marks are copied. -/
structure Cp (w : World) (b g off c : Nat) (v : Value) (f : Int) (L : List Nat) (T : List Int) (S h i : Nat) (W : World) : Prop where
  ra : RA W b g off c v f (mark L) T
  new : Mk W S 0 1024 (cop L h i)
  below : Below w.heap.size w W
theorem Cp.next {w W : World} {b g off c : Nat} {v : Value} {f : Int} {L : List Nat} {T : List Int} {S h i : Nat} (hc : Cp w b g off c v f L T S h i W) (hS : w.heap.size ≤ S) (hb : ∀ k, Rb b g v k → k < w.heap.size) (hi : h ≤ i) (hi2 : i < 1024) :
    Cp w b g off c v f L T S h (i + 1) (W.setCell ⟨S, i - h, none⟩ (.bool (mark L i))) := by
  have hp : Part (fun k => k = S) W (W.setCell ⟨S, i - h, none⟩ (.bool (mark L i))) := (Part.refl (fun k => k = S) W).setCell (p := ⟨S, i - h, none⟩) (.inl rfl) _
  have hm := hc.new.set (j := i - h) (by omega) (mark L i)
  rw [Nat.zero_add] at hm
  exact ⟨hc.ra.kept hp fun k hk e => by have := hb k hk; omega, hm.congr fun j _ => cop_next hi, hc.below.setCell (p := ⟨S, i - h, none⟩) hS _⟩
/-- The marks are laid into the set. -/
theorem Cp.laid {w W : World} {b g off c : Nat} {v : Value} {f : Int} {L : List Nat} {T : List Int} {S h i : Nat} (hc : Cp w b g off c v f L T S h i W) (hS : w.heap.size ≤ S) (hb : ∀ k, Rb b g v k → k < w.heap.size) (hL : Fit L) (h1 : 1 ≤ h) (hi : 1024 ≤ i) {n : Int} (n0 : 0 ≤ n) (n1 : n < 4294967296) :
    RA ((W.setCell ⟨b, 1, none⟩ (.slice (some ⟨S, 0, none⟩) 1024 1024)).setCell ⟨b, 0, none⟩ (.int .u32 n)) b S 0 1024 v n (mark (shiftL h L)) T ∧
    Part (Rb b g v) w ((W.setCell ⟨b, 1, none⟩ (.slice (some ⟨S, 0, none⟩) 1024 1024)).setCell ⟨b, 0, none⟩ (.int .u32 n)) := by
  have hp2 : Part (fun i => i = b) W ((W.setCell ⟨b, 1, none⟩ (.slice (some ⟨S, 0, none⟩) 1024 1024)).setCell ⟨b, 0, none⟩ (.int .u32 n)) :=
    ((Part.refl (fun i => i = b) W).setCell (p := ⟨b, 1, none⟩) (.inl rfl) _).setCell (p := ⟨b, 0, none⟩) (.inl rfl) _
  have hSb : S ≠ b := fun e => by have := hb b (.inl rfl); omega
  refine ⟨⟨(set_blk3 (set_blk3 hc.ra.blk _).2.1 _).1, (hc.new.congr fun j _ => cop_all hL h1 i hi).kept hp2 hSb, hp2.own hc.ra.row fun k hk => (hc.ra.row_ne hk).1, n0, n1, hc.ra.few⟩, (Part.of_below (Rb b g v) hc.below).trans hp2 fun i hi => .inl (.inl hi)⟩
set_option maxHeartbeats 2000000 in
set_option maxRecDepth 100000 in
theorem refForward_set {b g off c : Nat} {v : Value} {s : St} {w : World} (h : RA w b g off c v s.f (mark s.L) s.T) (hL : Fit s.L) {n : Int} (n0 : 0 ≤ n) (n1 : n < 4294967296) :
    Calls Try.prog 11 #[.pointer (some ⟨b, 0, none⟩), .int .u32 n] w fun e w' => e = .returned (.tuple #[]) ∧ RTurned w b g v (s.fwd n).f (mark (s.fwd n).L) (s.fwd n).T w' := by
  have H := keep h
  have c0 := h.c0
  have KD := keep (refDist_any s.f n h.lo n0 h.hi n1 w)
  have e1 := ht_int s.f n
  have hlt := ht_lt s.f n
  obtain ⟨x, hx⟩ : ∃ x, ht s.f n = x := ⟨_, rfl⟩
  unfold St.fwd
  rw [hx] at e1 hlt ⊢
  rw [← e1] at KD
  obtain ⟨w1, w2⟩ := wrap_ht x hlt
  by_cases h0 : x = 0
  · rw [if_neg (by omega)]
    subst h0
    clear h n0 n1 e1 hlt hx hL
    go_enter Try.func11, Try.ntmps11
    go_wp2_with (go_at_call 28; refine KD.out.mono ?_; rintro e w2 ⟨rfl, rfl⟩)
    (try simp only [Exit.inBlock, Exit.then])
    exact bodyPost_ret (results_none rfl _ _ _) rfl ⟨rfl, g, off, c, v, H.out, .inl rfl, .inl rfl, Part.refl _ _⟩
  have x0 : ((x : Int) == 0) = false := by simp [h0]
  by_cases h1 : 2147483648 ≤ x
  · rw [if_neg (by omega)]
    have x1 : (2147483648 : Int) ≤ (x : Int) := by omega
    clear h n0 n1 e1 hlt hx hL h0 h1
    generalize (x : Int) = X at KD w1 w2 x0 x1
    go_enter Try.func11, Try.ntmps11
    go_wp2_with (go_at_call 28; refine KD.out.mono ?_; rintro e w2 ⟨rfl, rfl⟩)
    (try simp only [Exit.inBlock, Exit.then])
    exact bodyPost_ret (results_none rfl _ _ _) rfl ⟨rfl, g, off, c, v, H.out, .inl rfl, .inl rfl, Part.refl _ _⟩
  · rw [if_pos ⟨by omega, by omega⟩]
    have x1 : ¬ (2147483648 : Int) ≤ (x : Int) := by omega
    obtain ⟨i0, hi0, hz0, hz1, hz2⟩ := info_parts bool_info
    have HF := keep (hL)
    have HX := keep (show 1 ≤ x ∧ x < 2147483648 by omega)
    have HN := keep (And.intro n0 n1)
    have HB := keep (fun k (hk : Rb b g v k) => h.rw_lt hk)
    clear h n0 n1 e1 hlt hx hL h0 h1
    obtain ⟨X, hX⟩ : ∃ X : Int, (x : Int) = X := ⟨_, rfl⟩
    rw [hX] at KD w1 w2 x0 x1
    replace hX := keep hX
    go_enter Try.func11, Try.ntmps11
    go_wp2_with (first
      | (go_at_call 28; refine KD.out.mono ?_; rintro e w2 ⟨rfl, rfl⟩)
      | (at_make; refine wpl_make rfl _ _ 37 rfl 4 i0 (.bool false) Try.underlying37 hi0 hz0 hz1 rfl 1024 _ rfl rfl rfl (by rw [hz2]; omega) (by unfold maxLen; omega) ?_; intro w3 hg3 hb3 hs3
         have HC := keep (show Cp w b g off c v s.f s.L s.T w.heap.size x x w3 from ⟨H.out.step hb3, (Mk.made hg3.out).congr fun j _ => (cop_start s.L x j).symm, hb3⟩)
         clear hg3 hb3 hs3))
    have D0 := keep (And.intro x0 x1)
    clear x0 x1 c0 KD
    go_loopw [6] (fun vi wq => ∃ i : Nat, vi = .int .i64 i ∧ x ≤ i ∧ Hid (Cp w b g off c v s.f s.L s.T w.heap.size x i wq)) (fun vi _ => 1024 - (intOf vi).toNat)
    case atStart => exact ⟨x, by rw [hX.out], Nat.le_refl _, HC⟩
    case round =>
      obtain ⟨i, rfl, hxi, H2⟩ := hrel
      by_cases hlt : i < 1024
      · have hz : (i : Int) < 1024 := by omega
        have c1 := H2.out.ra.c1
        have k1 := H2.out.ra.mks.cell hlt
        have hcz : (1024 : Int) ≤ (c : Int) := by have := H2.out.ra.mks.lo; omega
        obtain ⟨k, hk⟩ : ∃ k, i - x = k := ⟨_, rfl⟩
        have hkz : (i : Int) - X = (k : Int) := by have := hX.out; omega
        have hkl : k < 1024 := by omega
        have k2 := H2.out.new.cell hkl
        have k3 := H2.out.new.fz k
        rw [Nat.zero_add] at k2
        have HNX := H2.out.next (Nat.le_refl _) HB.out hxi hlt
        rw [hk] at HNX
        obtain ⟨y, hy⟩ : ∃ y, cop s.L x i k = y := ⟨_, rfl⟩
        rw [hy] at k2
        obtain ⟨z, hz2⟩ : ∃ z, mark s.L i = z := ⟨_, rfl⟩
        rw [hz2] at k1 HNX
        have kz : (k : Int) < 1024 := by omega
        have HI := keep (And.intro hlt hxi)
        replace HNX := keep HNX
        clear hk hkl hy hz2 hlt hxi HC
        go_wp2_with fail
        go_roundw
        case rel => exact ⟨i + 1, by go_num, Nat.le_succ_of_le HI.out.2, HNX⟩
        case measure => have := HI.out; simp [intOf]; omega
      · have hz : ¬ (i : Int) < 1024 := by omega
        obtain ⟨R2, P2⟩ := H2.out.laid (Nat.le_refl _) HB.out HF.out HX.out.1 (by omega) HN.out.1 HN.out.2
        have KC := keep (climb_set R2 (HF.out.shift x))
        replace P2 := keep P2
        have q0 := H2.out.ra.c0
        have q1 := H2.out.ra.c1
        have q2 := H2.out.ra.fz 0
        have q3 := H2.out.ra.fz 1
        clear R2 hlt hxi HC
        go_wp2_with (go_at_call 29; refine KC.out.mono ?_; rintro e w5 ⟨rfl, u, hu, hcl⟩; have HT := keep (hcl.turned (HF.out.shift x) hu P2.out (.inr (Nat.le_refl _))); clear hu hcl)
        go_end0
        exact ⟨rfl, HT.out⟩
end Go.Proofs.Ytofebpikihandaa
