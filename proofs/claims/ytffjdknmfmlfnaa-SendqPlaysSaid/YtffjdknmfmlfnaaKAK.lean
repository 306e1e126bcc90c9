/- KAK of the stage: texts Q10, joined. -/
import Derived.Test.YtffjdknmfmlfnaaKAI
import Derived.Test.YtffjdknmfmlfnaaKAJ
import Derived.Lib.LazyBuf
set_option linter.unusedSimpArgs false
set_option linter.unusedVariables false
namespace Go.Proofs.Ytffjdknmfmlfnaa
section
open Go.RowKit Go.Maps

/-- A copy: it reads as l, in memory of its own; nothing that was there has turned. -/
def CpK {α : Type} (f : α → List Value) (K : Nat) (T : TypeId) (w : World) (l : List α) (e : Ending) (w' : World) : Prop :=
  ∃ A c, e = .returned (.slice A l.length c) ∧ Below w.heap.size w w' ∧ w'.ownsRow w.heap.size T K (.slice A l.length c) l.length (flatF f l)
theorem lr_none {α : Type} {f : α → List Value} {K : Nat} (hf : ∀ x, (f x).length = K) (hK : 0 < K) {w : World} {n c : Nat} {l : List α} (h : LR f w (none, n, c) l) : l = [] := by
  cases l with
  | nil => rfl
  | cons x r =>
    obtain ⟨b, o, e, _⟩ := h.2.2 (by
      intro h0
      have := congrArg List.length h0
      rw [flatF_len hf] at this
      have hp : 0 < (x :: r).length * K := Nat.mul_pos (Nat.succ_pos _) hK
      simp only [List.length_nil] at this
      omega)
    cases e
theorem own_zero (w : World) (base : Nat) (e : TypeId) (size : Nat) : w.ownsRow base e size (.slice none 0 0) 0 [] := World.ownsRow_nil _ _ _ _
theorem cBlock_info : (Try.prog.info? 96).map (fun i => (i.zero, i.size, i.bytes)) = some (some (.agg #[.int .u16 0, .int .u16 0]), 2, 4) := by kernel_rfl
set_option maxHeartbeats 1000000 in
theorem cBlock_any (A : Option Addr) (n c : Nat) (l : List (Int × Int)) (w : World) (h : LR blC w (A, n, c) l) (hn : n ≤ 1000000) :
    Calls Try.prog 58 #[.slice A n c] w (CpK blC 2 96 w l) := by
  obtain ⟨i0, hi0, hz0, hz1, hz2⟩ := info_parts cBlock_info
  have qn : ∀ (w : World), (binOp .eql 32 (.slice A n c) (.slice none 0 0)).run Try.prog w = .ok (.bool A.isNone) w := fun w => Lib.run_eql_slice_nil w _ _ _ n c 0 0 Try.underlying32
  obtain rfl : n = l.length := h.1
  cases A with
  | none =>
    obtain rfl := lr_none blC_len (by decide) h
    clear h hn
    have qn' : ∀ (w : World), (binOp .eql 32 (.slice none 0 c) (.slice none 0 0)).run Try.prog w = .ok (.bool true) w := qn
    clear qn
    go_enter Try.func58, Try.ntmps58
    go_wp2
    go_ret
    exact ⟨none, 0, rfl, Below.refl _ _, own_zero _ _ _ _⟩
  | some a =>
    have qn' : ∀ (w : World), (binOp .eql 32 (.slice (some a) l.length c) (.slice none 0 0)).run Try.prog w = .ok (.bool false) w := qn
    clear qn
    have HL := keep (h.2.2.step (below_lay w (.cells #[] 96)))
    have LW := keep (below_lay w (.cells #[] 96))
    have HN := keep hn
    have HO := keep (show (w.alloc (.cells #[] 96)).ownsRow w.heap.size 96 2 (.slice (some ⟨w.heap.size, 0, none⟩) 0 0) 0 [] from ⟨by simp, .inr ⟨w.heap.size, 0, #[], rfl, Nat.le_refl _, heap_alloc_new w _, Nat.le_refl _, Nat.zero_le _, by simp, by simp⟩⟩)
    have HFL := keep (show l.length * 2 = (flatF blC l).length from (flatF_len blC_len l).symm)
    clear h hn
    go_enter Try.func58, Try.ntmps58
    go_wp2_with (at_builtin; refine wpl_appendK (S := 2) (by decide) rfl (.tmp 5) (.tmp 6) 32 rfl w.heap.size 96 i0 (.agg #[.int .u16 0, .int .u16 0]) Try.underlying32 hi0 hz0 hz1 rfl _ 0 [] rfl HO.out (some a) l.length c (flatF blC l) rfl HFL.out HL.out (flatF_one blC_one _) (by have := HN.out; unfold maxLen; omega) (by have := HN.out; rw [hz2]; omega) (by simp) ?_
                 intro A4 c4 w4 ho4 hb4 _
                 simp only [Nat.zero_add, List.nil_append] at ho4
                 replace hb4 := keep (LW.out.trans hb4))
    go_ret
    exact ⟨A4, c4, rfl, hb4.out, ho4.out⟩
theorem cU32_info : (Try.prog.info? 22).map (fun i => (i.zero, i.size, i.bytes)) = some (some (.int .u32 0), 1, 4) := by kernel_rfl
set_option maxHeartbeats 1000000 in
theorem cU32_any (A : Option Addr) (n c : Nat) (l : List Int) (w : World) (h : LR duC w (A, n, c) l) (hn : n ≤ 1000000) :
    Calls Try.prog 59 #[.slice A n c] w (CpK duC 1 22 w l) := by
  obtain ⟨i0, hi0, hz0, hz1, hz2⟩ := info_parts cU32_info
  have qn : ∀ (w : World), (binOp .eql 40 (.slice A n c) (.slice none 0 0)).run Try.prog w = .ok (.bool A.isNone) w := fun w => Lib.run_eql_slice_nil w _ _ _ n c 0 0 Try.underlying40
  obtain rfl : n = l.length := h.1
  cases A with
  | none =>
    obtain rfl := lr_none duC_len (by decide) h
    clear h hn
    have qn' : ∀ (w : World), (binOp .eql 40 (.slice none 0 c) (.slice none 0 0)).run Try.prog w = .ok (.bool true) w := qn
    clear qn
    go_enter Try.func59, Try.ntmps59
    go_wp2
    go_ret
    exact ⟨none, 0, rfl, Below.refl _ _, own_zero _ _ _ _⟩
  | some a =>
    have qn' : ∀ (w : World), (binOp .eql 40 (.slice (some a) l.length c) (.slice none 0 0)).run Try.prog w = .ok (.bool false) w := qn
    clear qn
    have HL := keep (h.2.2.step (below_lay w (.cells #[] 22)))
    have LW := keep (below_lay w (.cells #[] 22))
    have HN := keep hn
    have HO := keep (show (w.alloc (.cells #[] 22)).ownsRow w.heap.size 22 1 (.slice (some ⟨w.heap.size, 0, none⟩) 0 0) 0 [] from ⟨by simp, .inr ⟨w.heap.size, 0, #[], rfl, Nat.le_refl _, heap_alloc_new w _, Nat.le_refl _, Nat.zero_le _, by simp, by simp⟩⟩)
    have HFL := keep (show l.length * 1 = (flatF duC l).length from (flatF_len duC_len l).symm)
    clear h hn
    go_enter Try.func59, Try.ntmps59
    go_wp2_with (at_builtin; refine wpl_appendK (S := 1) (by decide) rfl (.tmp 5) (.tmp 6) 40 rfl w.heap.size 22 i0 (.int .u32 0) Try.underlying40 hi0 hz0 hz1 rfl _ 0 [] rfl HO.out (some a) l.length c (flatF duC l) rfl HFL.out HL.out (flatF_one duC_one _) (by have := HN.out; unfold maxLen; omega) (by have := HN.out; rw [hz2]; omega) (by simp) ?_
                 intro A4 c4 w4 ho4 hb4 _
                 simp only [Nat.zero_add, List.nil_append] at ho4
                 replace hb4 := keep (LW.out.trans hb4))
    go_ret
    exact ⟨A4, c4, rfl, hb4.out, ho4.out⟩
theorem cSkip_info : (Try.prog.info? 101).map (fun i => (i.zero, i.size, i.bytes)) = some (some (.agg #[.int .u16 0, .int .u16 0]), 2, 4) := by kernel_rfl
set_option maxHeartbeats 1000000 in
theorem cSkip_any (A : Option Addr) (n c : Nat) (l : List (Int × Int)) (w : World) (h : LR blC w (A, n, c) l) (hn : n ≤ 1000000) :
    Calls Try.prog 60 #[.slice A n c] w (CpK blC 2 101 w l) := by
  obtain ⟨i0, hi0, hz0, hz1, hz2⟩ := info_parts cSkip_info
  have qn : ∀ (w : World), (binOp .eql 41 (.slice A n c) (.slice none 0 0)).run Try.prog w = .ok (.bool A.isNone) w := fun w => Lib.run_eql_slice_nil w _ _ _ n c 0 0 Try.underlying41
  obtain rfl : n = l.length := h.1
  cases A with
  | none =>
    obtain rfl := lr_none blC_len (by decide) h
    clear h hn
    have qn' : ∀ (w : World), (binOp .eql 41 (.slice none 0 c) (.slice none 0 0)).run Try.prog w = .ok (.bool true) w := qn
    clear qn
    go_enter Try.func60, Try.ntmps60
    go_wp2
    go_ret
    exact ⟨none, 0, rfl, Below.refl _ _, own_zero _ _ _ _⟩
  | some a =>
    have qn' : ∀ (w : World), (binOp .eql 41 (.slice (some a) l.length c) (.slice none 0 0)).run Try.prog w = .ok (.bool false) w := qn
    clear qn
    have HL := keep (h.2.2.step (below_lay w (.cells #[] 101)))
    have LW := keep (below_lay w (.cells #[] 101))
    have HN := keep hn
    have HO := keep (show (w.alloc (.cells #[] 101)).ownsRow w.heap.size 101 2 (.slice (some ⟨w.heap.size, 0, none⟩) 0 0) 0 [] from ⟨by simp, .inr ⟨w.heap.size, 0, #[], rfl, Nat.le_refl _, heap_alloc_new w _, Nat.le_refl _, Nat.zero_le _, by simp, by simp⟩⟩)
    have HFL := keep (show l.length * 2 = (flatF blC l).length from (flatF_len blC_len l).symm)
    clear h hn
    go_enter Try.func60, Try.ntmps60
    go_wp2_with (at_builtin; refine wpl_appendK (S := 2) (by decide) rfl (.tmp 5) (.tmp 6) 41 rfl w.heap.size 101 i0 (.agg #[.int .u16 0, .int .u16 0]) Try.underlying41 hi0 hz0 hz1 rfl _ 0 [] rfl HO.out (some a) l.length c (flatF blC l) rfl HFL.out HL.out (flatF_one blC_one _) (by have := HN.out; unfold maxLen; omega) (by have := HN.out; rw [hz2]; omega) (by simp) ?_
                 intro A4 c4 w4 ho4 hb4 _
                 simp only [Nat.zero_add, List.nil_append] at ho4
                 replace hb4 := keep (LW.out.trans hb4))
    go_ret
    exact ⟨A4, c4, rfl, hb4.out, ho4.out⟩
theorem cParam_info : (Try.prog.info? 108).map (fun i => (i.zero, i.size, i.bytes)) = some (some (.agg #[.int .u16 0, .slice none 0 0]), 2, 32) := by kernel_rfl
set_option maxHeartbeats 1000000 in
theorem cParam_any (A : Option Addr) (n c : Nat) (l : List PZ) (w : World) (h : LR PZ.cells w (A, n, c) l) (hn : n ≤ 1000000) :
    Calls Try.prog 61 #[.slice A n c] w (CpK PZ.cells 2 108 w l) := by
  obtain ⟨i0, hi0, hz0, hz1, hz2⟩ := info_parts cParam_info
  have qn : ∀ (w : World), (binOp .eql 42 (.slice A n c) (.slice none 0 0)).run Try.prog w = .ok (.bool A.isNone) w := fun w => Lib.run_eql_slice_nil w _ _ _ n c 0 0 Try.underlying42
  obtain rfl : n = l.length := h.1
  cases A with
  | none =>
    obtain rfl := lr_none PZ.len (by decide) h
    clear h hn
    have qn' : ∀ (w : World), (binOp .eql 42 (.slice none 0 c) (.slice none 0 0)).run Try.prog w = .ok (.bool true) w := qn
    clear qn
    go_enter Try.func61, Try.ntmps61
    go_wp2
    go_ret
    exact ⟨none, 0, rfl, Below.refl _ _, own_zero _ _ _ _⟩
  | some a =>
    have qn' : ∀ (w : World), (binOp .eql 42 (.slice (some a) l.length c) (.slice none 0 0)).run Try.prog w = .ok (.bool false) w := qn
    clear qn
    have HL := keep (h.2.2.step (below_lay w (.cells #[] 108)))
    have LW := keep (below_lay w (.cells #[] 108))
    have HN := keep hn
    have HO := keep (show (w.alloc (.cells #[] 108)).ownsRow w.heap.size 108 2 (.slice (some ⟨w.heap.size, 0, none⟩) 0 0) 0 [] from ⟨by simp, .inr ⟨w.heap.size, 0, #[], rfl, Nat.le_refl _, heap_alloc_new w _, Nat.le_refl _, Nat.zero_le _, by simp, by simp⟩⟩)
    have HFL := keep (show l.length * 2 = (flatF PZ.cells l).length from (flatF_len PZ.len l).symm)
    clear h hn
    go_enter Try.func61, Try.ntmps61
    go_wp2_with (at_builtin; refine wpl_appendK (S := 2) (by decide) rfl (.tmp 5) (.tmp 6) 42 rfl w.heap.size 108 i0 (.agg #[.int .u16 0, .slice none 0 0]) Try.underlying42 hi0 hz0 hz1 rfl _ 0 [] rfl HO.out (some a) l.length c (flatF PZ.cells l) rfl HFL.out HL.out (flatF_one PZ.one _) (by have := HN.out; unfold maxLen; omega) (by have := HN.out; rw [hz2]; omega) (by simp) ?_
                 intro A4 c4 w4 ho4 hb4 _
                 simp only [Nat.zero_add, List.nil_append] at ho4
                 replace hb4 := keep (LW.out.trans hb4))
    go_ret
    exact ⟨A4, c4, rfl, hb4.out, ho4.out⟩
def byC (b : UInt8) : List Value := [.int .u8 (b.toNat : Int)]
theorem byC_len (x : UInt8) : (byC x).length = 1 := rfl
theorem byC_one (x : UInt8) : ∀ u ∈ byC x, u.oneCell' = true := by
  intro u hu
  simp only [byC, List.mem_cons, List.not_mem_nil, or_false] at hu
  subst hu
  rfl
theorem flat_by (bs : List UInt8) : flatF byC bs = bc bs := by
  unfold flatF byC bc
  induction bs with
  | nil => rfl
  | cons x r ih => simp [List.flatMap_cons, ih]
theorem bs_lr {w : World} {A : Option Addr} {n c : Nat} {bs : List UInt8} (h : BS w A n c bs) : LR byC w (A, n, c) bs := ⟨h.1, h.2.1, by rw [flat_by]; exact h.2.2⟩
theorem cByte_info : (Try.prog.info? 5).map (fun i => (i.zero, i.size, i.bytes)) = some (some (.int .u8 0), 1, 1) := by kernel_rfl
set_option maxHeartbeats 1000000 in
theorem cByte_any (A : Option Addr) (n c : Nat) (l : List UInt8) (w : World) (h : LR byC w (A, n, c) l) (hn : n ≤ 140737488355328) :
    Calls Try.prog 62 #[.slice A n c] w (CpK byC 1 5 w l) := by
  obtain ⟨i0, hi0, hz0, hz1, hz2⟩ := info_parts cByte_info
  have qn : ∀ (w : World), (binOp .eql 43 (.slice A n c) (.slice none 0 0)).run Try.prog w = .ok (.bool A.isNone) w := fun w => Lib.run_eql_slice_nil w _ _ _ n c 0 0 Try.underlying43
  obtain rfl : n = l.length := h.1
  cases A with
  | none =>
    obtain rfl := lr_none byC_len (by decide) h
    clear h hn
    have qn' : ∀ (w : World), (binOp .eql 43 (.slice none 0 c) (.slice none 0 0)).run Try.prog w = .ok (.bool true) w := qn
    clear qn
    go_enter Try.func62, Try.ntmps62
    go_wp2
    go_ret
    exact ⟨none, 0, rfl, Below.refl _ _, own_zero _ _ _ _⟩
  | some a =>
    have qn' : ∀ (w : World), (binOp .eql 43 (.slice (some a) l.length c) (.slice none 0 0)).run Try.prog w = .ok (.bool false) w := qn
    clear qn
    have HL := keep (h.2.2.step (below_lay w (.cells #[] 5)))
    have LW := keep (below_lay w (.cells #[] 5))
    have HN := keep hn
    have HO := keep (show (w.alloc (.cells #[] 5)).ownsRow w.heap.size 5 1 (.slice (some ⟨w.heap.size, 0, none⟩) 0 0) 0 [] from ⟨by simp, .inr ⟨w.heap.size, 0, #[], rfl, Nat.le_refl _, heap_alloc_new w _, Nat.le_refl _, Nat.zero_le _, by simp, by simp⟩⟩)
    have HFL := keep (show l.length * 1 = (flatF byC l).length from (flatF_len byC_len l).symm)
    clear h hn
    go_enter Try.func62, Try.ntmps62
    go_wp2_with (at_builtin; refine wpl_appendK (S := 1) (by decide) rfl (.tmp 5) (.tmp 6) 43 rfl w.heap.size 5 i0 (.int .u8 0) Try.underlying43 hi0 hz0 hz1 rfl _ 0 [] rfl HO.out (some a) l.length c (flatF byC l) rfl HFL.out HL.out (flatF_one byC_one _) (by have := HN.out; unfold maxLen; omega) (by have := HN.out; rw [hz2]; omega) (by simp) ?_
                 intro A4 c4 w4 ho4 hb4 _
                 simp only [Nat.zero_add, List.nil_append] at ho4
                 replace hb4 := keep (LW.out.trans hb4))
    go_ret
    exact ⟨A4, c4, rfl, hb4.out, ho4.out⟩
def ptC (p : Nat) : List Value := [.pointer (some ⟨p, 0, none⟩)]
theorem ptC_len (x : Nat) : (ptC x).length = 1 := rfl
theorem ptC_one (x : Nat) : ∀ u ∈ ptC x, u.oneCell' = true := by
  intro u hu
  simp only [ptC, List.mem_cons, List.not_mem_nil, or_false] at hu
  subst hu
  rfl
theorem flat_pt (ps : List Nat) : flatF ptC ps = ps.map fun p => Value.pointer (some ⟨p, 0, none⟩) := by
  unfold flatF ptC
  induction ps with
  | nil => rfl
  | cons x r ih => simp [List.flatMap_cons, ih]
theorem cPtr_info : (Try.prog.info? 75).map (fun i => (i.zero, i.size, i.bytes)) = some (some (.pointer none), 1, 8) := by kernel_rfl
set_option maxHeartbeats 1000000 in
theorem cPtr_any (A : Option Addr) (n c : Nat) (l : List Nat) (w : World) (h : LR ptC w (A, n, c) l) (hn : n ≤ 1000000) :
    Calls Try.prog 66 #[.slice A n c] w (CpK ptC 1 75 w l) := by
  obtain ⟨i0, hi0, hz0, hz1, hz2⟩ := info_parts cPtr_info
  have qn : ∀ (w : World), (binOp .eql 54 (.slice A n c) (.slice none 0 0)).run Try.prog w = .ok (.bool A.isNone) w := fun w => Lib.run_eql_slice_nil w _ _ _ n c 0 0 Try.underlying54
  obtain rfl : n = l.length := h.1
  cases A with
  | none =>
    obtain rfl := lr_none ptC_len (by decide) h
    clear h hn
    have qn' : ∀ (w : World), (binOp .eql 54 (.slice none 0 c) (.slice none 0 0)).run Try.prog w = .ok (.bool true) w := qn
    clear qn
    go_enter Try.func66, Try.ntmps66
    go_wp2
    go_ret
    exact ⟨none, 0, rfl, Below.refl _ _, own_zero _ _ _ _⟩
  | some a =>
    have qn' : ∀ (w : World), (binOp .eql 54 (.slice (some a) l.length c) (.slice none 0 0)).run Try.prog w = .ok (.bool false) w := qn
    clear qn
    have HL := keep (h.2.2.step (below_lay w (.cells #[] 75)))
    have LW := keep (below_lay w (.cells #[] 75))
    have HN := keep hn
    have HO := keep (show (w.alloc (.cells #[] 75)).ownsRow w.heap.size 75 1 (.slice (some ⟨w.heap.size, 0, none⟩) 0 0) 0 [] from ⟨by simp, .inr ⟨w.heap.size, 0, #[], rfl, Nat.le_refl _, heap_alloc_new w _, Nat.le_refl _, Nat.zero_le _, by simp, by simp⟩⟩)
    have HFL := keep (show l.length * 1 = (flatF ptC l).length from (flatF_len ptC_len l).symm)
    clear h hn
    go_enter Try.func66, Try.ntmps66
    go_wp2_with (at_builtin; refine wpl_appendK (S := 1) (by decide) rfl (.tmp 5) (.tmp 6) 54 rfl w.heap.size 75 i0 (.pointer none) Try.underlying54 hi0 hz0 hz1 rfl _ 0 [] rfl HO.out (some a) l.length c (flatF ptC l) rfl HFL.out HL.out (flatF_one ptC_one _) (by have := HN.out; unfold maxLen; omega) (by have := HN.out; rw [hz2]; omega) (by simp) ?_
                 intro A4 c4 w4 ho4 hb4 _
                 simp only [Nat.zero_add, List.nil_append] at ho4
                 replace hb4 := keep (LW.out.trans hb4))
    go_ret
    exact ⟨A4, c4, rfl, hb4.out, ho4.out⟩
end
end Go.Proofs.Ytffjdknmfmlfnaa
