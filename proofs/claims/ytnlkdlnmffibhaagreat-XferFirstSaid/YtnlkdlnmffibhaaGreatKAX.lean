/- KAX of the stage: texts JH, JI, joined. -/
import Derived.Test.YtnlkdlnmffibhaaGreatKAW
import Derived.Laws.ResultCell
set_option linter.unusedSimpArgs false
set_option linter.unusedVariables false
set_option maxRecDepth 8000
namespace Go.Proofs.YtnlkdlnmffibhaaGreat
open List renaming setIfInBounds_toArray → lA, set_cons_zero → lZ, set_cons_succ → lS
section
open Go.RowKit Go.Maps
set_option maxHeartbeats 1000000 in
theorem copy_any (b o n c : Nat) (bs : List UInt8) (w : World) (h : BS w (some ⟨b, o, none⟩) n c bs) (hn : n ≤ 100000) :
    Calls Tryz.prog 65 #[.slice (some ⟨b, o, none⟩) n c] w (RetB w bs) := by
  obtain ⟨i0, hi0, hz0, hz1, hz2⟩ := info_parts u8_info
  have HS := keep (h.step (below_lay w (.cells #[] 5)))
  have HL := keep h.len
  have HN := keep hn
  have LW := keep (below_lay w (.cells #[] 5))
  have HO := keep (show (w.alloc (.cells #[] 5)).ownsRow w.heap.size 5 1 (.slice (some ⟨w.heap.size, 0, none⟩) 0 0) 0 [] from own_row (heap_alloc_new w _) 0 rfl (by decide))
  have qn : ∀ (w : World), (binOp .eql 31 (.slice (some ⟨b, o, none⟩) n c) (.slice none 0 0)).run Tryz.prog w = .ok (.bool false) w := fun w => Lib.run_eql_slice_nil w _ _ _ n c 0 0 Tryz.underlying31
  clear h hn
  go_enter Tryz.func65, Tryz.ntmps65
  go_wp2_with (at_builtin; refine wpl_append rfl (.tmp 5) (.tmp 6) 31 rfl w.heap.size 5 i0 (.int .u8 0) Tryz.underlying31 hi0 hz0 hz1 rfl _ 0 [] rfl HO.out (some ⟨b, o, none⟩) n c (bc bs) rfl (by rw [bc_length]; exact HL.out) HS.out.br.sr (bc_one _) (by have := HN.out; unfold maxLen; omega) (by have := HN.out; rw [hz2]; omega) (by simp) ?_
               intro A4 c4 w4 ho4 hb4
               simp only [Nat.zero_add, List.nil_append] at ho4
               replace hb4 := keep (LW.out.trans hb4))
  go_ret
  exact ⟨A4, _, c4, rfl, BS.of_own ho4.out, hb4.out, ho4⟩
theorem Chunk_size : (Tryz.prog.info? 41).map (·.size) = some 12 := by kernel_rfl
def KB (w : World) (g : Nat) (x : CX) : Prop := w.heap[g]? = some (.cells x.cells.toArray 41 (0, 0))
theorem KB.lt {w : World} {g : Nat} {x : CX} (h : KB w g x) : g < w.heap.size := (Array.getElem?_eq_some_iff.1 h).1
theorem KB.at_ {w : World} {g : Nat} {x : CX} (h : KB w g x) : At12 w g 0 x := by
  have key : ∀ i v, x.cells.toArray[i]? = some v → w.cell? ⟨g, i, none⟩ = some v := fun i v hv => by
    rw [cell_of_row _ _ _ _ _ _ h]
    exact hv
  exact ⟨key 0 _ rfl, key 1 _ rfl, key 2 _ rfl, key 3 _ rfl, key 4 _ rfl, key 5 _ rfl, key 6 _ rfl, key 7 _ rfl, key 8 _ rfl, key 9 _ rfl, key 10 _ rfl, key 11 _ rfl⟩
theorem KB.fz {w : World} {g : Nat} {x : CX} (h : KB w g x) : w.frozen? ⟨g, 0, none⟩ = false ∧ w.frozen? ⟨g, 1, none⟩ = false ∧ w.frozen? ⟨g, 2, none⟩ = false ∧ w.frozen? ⟨g, 3, none⟩ = false ∧ w.frozen? ⟨g, 4, none⟩ = false ∧ w.frozen? ⟨g, 5, none⟩ = false ∧ w.frozen? ⟨g, 6, none⟩ = false ∧ w.frozen? ⟨g, 7, none⟩ = false ∧ w.frozen? ⟨g, 8, none⟩ = false ∧ w.frozen? ⟨g, 9, none⟩ = false ∧ w.frozen? ⟨g, 10, none⟩ = false ∧ w.frozen? ⟨g, 11, none⟩ = false := by
  have k : ∀ j, w.frozen? ⟨g, j, none⟩ = false := fun j => frozen_of_row w g j _ _ h
  exact ⟨k 0, k 1, k 2, k 3, k 4, k 5, k 6, k 7, k 8, k 9, k 10, k 11⟩
theorem KB.laid {w : World} {g : Nat} {y : CX} (h : KB w g y) (z : CX) : KB (World.setCell (World.setCell (World.setCell (World.setCell (World.setCell (World.setCell (World.setCell (World.setCell (World.setCell (World.setCell (World.setCell (World.setCell w ⟨g, 0, none⟩ (.int .u8 z.kd)) ⟨g, 1, none⟩ (.int .u8 z.fl)) ⟨g, 2, none⟩ (.int .u32 z.a)) ⟨g, 3, none⟩ (.int .u32 z.b)) ⟨g, 4, none⟩ (.int .u16 z.ou)) ⟨g, 5, none⟩ (.int .u16 z.si)) ⟨g, 6, none⟩ (.int .u32 z.pp)) ⟨g, 7, none⟩ (.slice z.bl.1 z.bl.2.1 z.bl.2.2)) ⟨g, 8, none⟩ (.slice z.du.1 z.du.2.1 z.du.2.2)) ⟨g, 9, none⟩ (.slice z.sk.1 z.sk.2.1 z.sk.2.2)) ⟨g, 10, none⟩ (.slice z.pr.1 z.pr.2.1 z.pr.2.2)) ⟨g, 11, none⟩ (.slice z.da.1 z.da.2.1 z.da.2.2)) g z := by
  unfold KB at h ⊢
  unfold CX.cells at h ⊢
  have h0 := heap_setCell_same _ g 0 _ _ (.int .u8 z.kd) h
  simp only [lA, lZ] at h0
  have h1 := heap_setCell_same _ g 1 _ _ (.int .u8 z.fl) h0
  simp only [lA, lZ, lS] at h1
  have h2 := heap_setCell_same _ g 2 _ _ (.int .u32 z.a) h1
  simp only [lA, lZ, lS] at h2
  have h3 := heap_setCell_same _ g 3 _ _ (.int .u32 z.b) h2
  simp only [lA, lZ, lS] at h3
  have h4 := heap_setCell_same _ g 4 _ _ (.int .u16 z.ou) h3
  simp only [lA, lZ, lS] at h4
  have h5 := heap_setCell_same _ g 5 _ _ (.int .u16 z.si) h4
  simp only [lA, lZ, lS] at h5
  have h6 := heap_setCell_same _ g 6 _ _ (.int .u32 z.pp) h5
  simp only [lA, lZ, lS] at h6
  have h7 := heap_setCell_same _ g 7 _ _ (.slice z.bl.1 z.bl.2.1 z.bl.2.2) h6
  simp only [lA, lZ, lS] at h7
  have h8 := heap_setCell_same _ g 8 _ _ (.slice z.du.1 z.du.2.1 z.du.2.2) h7
  simp only [lA, lZ, lS] at h8
  have h9 := heap_setCell_same _ g 9 _ _ (.slice z.sk.1 z.sk.2.1 z.sk.2.2) h8
  simp only [lA, lZ, lS] at h9
  have h10 := heap_setCell_same _ g 10 _ _ (.slice z.pr.1 z.pr.2.1 z.pr.2.2) h9
  simp only [lA, lZ, lS] at h10
  have h11 := heap_setCell_same _ g 11 _ _ (.slice z.da.1 z.da.2.1 z.da.2.2) h10
  simp only [lA, lZ, lS] at h11
  exact h11
theorem KB.aside {w : World} {g k : Nat} {y : CX} (h : KB w k y) (hne : k ≠ g) (z : CX) : KB (World.setCell (World.setCell (World.setCell (World.setCell (World.setCell (World.setCell (World.setCell (World.setCell (World.setCell (World.setCell (World.setCell (World.setCell w ⟨g, 0, none⟩ (.int .u8 z.kd)) ⟨g, 1, none⟩ (.int .u8 z.fl)) ⟨g, 2, none⟩ (.int .u32 z.a)) ⟨g, 3, none⟩ (.int .u32 z.b)) ⟨g, 4, none⟩ (.int .u16 z.ou)) ⟨g, 5, none⟩ (.int .u16 z.si)) ⟨g, 6, none⟩ (.int .u32 z.pp)) ⟨g, 7, none⟩ (.slice z.bl.1 z.bl.2.1 z.bl.2.2)) ⟨g, 8, none⟩ (.slice z.du.1 z.du.2.1 z.du.2.2)) ⟨g, 9, none⟩ (.slice z.sk.1 z.sk.2.1 z.sk.2.2)) ⟨g, 10, none⟩ (.slice z.pr.1 z.pr.2.1 z.pr.2.2)) ⟨g, 11, none⟩ (.slice z.da.1 z.da.2.1 z.da.2.2)) k y := by
  have e : ∀ (W : World) (j : Nat) (v : Value), (W.setCell ⟨g, j, none⟩ v).heap[k]? = W.heap[k]? := fun W j v => heap_setCell_other W ⟨g, j, none⟩ k v hne
  unfold KB
  rw [e, e, e, e, e, e, e, e, e, e, e, e]
  exact h
theorem KB.under {a w : World} {B g : Nat} (h : Below B a w) (hg : B ≤ g) (z : CX) : Below B a (World.setCell (World.setCell (World.setCell (World.setCell (World.setCell (World.setCell (World.setCell (World.setCell (World.setCell (World.setCell (World.setCell (World.setCell w ⟨g, 0, none⟩ (.int .u8 z.kd)) ⟨g, 1, none⟩ (.int .u8 z.fl)) ⟨g, 2, none⟩ (.int .u32 z.a)) ⟨g, 3, none⟩ (.int .u32 z.b)) ⟨g, 4, none⟩ (.int .u16 z.ou)) ⟨g, 5, none⟩ (.int .u16 z.si)) ⟨g, 6, none⟩ (.int .u32 z.pp)) ⟨g, 7, none⟩ (.slice z.bl.1 z.bl.2.1 z.bl.2.2)) ⟨g, 8, none⟩ (.slice z.du.1 z.du.2.1 z.du.2.2)) ⟨g, 9, none⟩ (.slice z.sk.1 z.sk.2.1 z.sk.2.2)) ⟨g, 10, none⟩ (.slice z.pr.1 z.pr.2.1 z.pr.2.2)) ⟨g, 11, none⟩ (.slice z.da.1 z.da.2.1 z.da.2.2)) := (Below.setCell (Below.setCell (Below.setCell (Below.setCell (Below.setCell (Below.setCell (Below.setCell (Below.setCell (Below.setCell (Below.setCell (Below.setCell (Below.setCell h (p := ⟨g, 0, none⟩) hg (.int .u8 z.kd)) (p := ⟨g, 1, none⟩) hg (.int .u8 z.fl)) (p := ⟨g, 2, none⟩) hg (.int .u32 z.a)) (p := ⟨g, 3, none⟩) hg (.int .u32 z.b)) (p := ⟨g, 4, none⟩) hg (.int .u16 z.ou)) (p := ⟨g, 5, none⟩) hg (.int .u16 z.si)) (p := ⟨g, 6, none⟩) hg (.int .u32 z.pp)) (p := ⟨g, 7, none⟩) hg (.slice z.bl.1 z.bl.2.1 z.bl.2.2)) (p := ⟨g, 8, none⟩) hg (.slice z.du.1 z.du.2.1 z.du.2.2)) (p := ⟨g, 9, none⟩) hg (.slice z.sk.1 z.sk.2.1 z.sk.2.2)) (p := ⟨g, 10, none⟩) hg (.slice z.pr.1 z.pr.2.1 z.pr.2.2)) (p := ⟨g, 11, none⟩) hg (.slice z.da.1 z.da.2.1 z.da.2.2))
theorem KB.part (w : World) (g : Nat) (z : CX) : Part (fun i => i = g) w (World.setCell (World.setCell (World.setCell (World.setCell (World.setCell (World.setCell (World.setCell (World.setCell (World.setCell (World.setCell (World.setCell (World.setCell w ⟨g, 0, none⟩ (.int .u8 z.kd)) ⟨g, 1, none⟩ (.int .u8 z.fl)) ⟨g, 2, none⟩ (.int .u32 z.a)) ⟨g, 3, none⟩ (.int .u32 z.b)) ⟨g, 4, none⟩ (.int .u16 z.ou)) ⟨g, 5, none⟩ (.int .u16 z.si)) ⟨g, 6, none⟩ (.int .u32 z.pp)) ⟨g, 7, none⟩ (.slice z.bl.1 z.bl.2.1 z.bl.2.2)) ⟨g, 8, none⟩ (.slice z.du.1 z.du.2.1 z.du.2.2)) ⟨g, 9, none⟩ (.slice z.sk.1 z.sk.2.1 z.sk.2.2)) ⟨g, 10, none⟩ (.slice z.pr.1 z.pr.2.1 z.pr.2.2)) ⟨g, 11, none⟩ (.slice z.da.1 z.da.2.1 z.da.2.2)) := (Part.setCell (Part.setCell (Part.setCell (Part.setCell (Part.setCell (Part.setCell (Part.setCell (Part.setCell (Part.setCell (Part.setCell (Part.setCell (Part.setCell (Part.refl (fun i => i = g) w) (p := ⟨g, 0, none⟩) (.inl rfl) (.int .u8 z.kd)) (p := ⟨g, 1, none⟩) (.inl rfl) (.int .u8 z.fl)) (p := ⟨g, 2, none⟩) (.inl rfl) (.int .u32 z.a)) (p := ⟨g, 3, none⟩) (.inl rfl) (.int .u32 z.b)) (p := ⟨g, 4, none⟩) (.inl rfl) (.int .u16 z.ou)) (p := ⟨g, 5, none⟩) (.inl rfl) (.int .u16 z.si)) (p := ⟨g, 6, none⟩) (.inl rfl) (.int .u32 z.pp)) (p := ⟨g, 7, none⟩) (.inl rfl) (.slice z.bl.1 z.bl.2.1 z.bl.2.2)) (p := ⟨g, 8, none⟩) (.inl rfl) (.slice z.du.1 z.du.2.1 z.du.2.2)) (p := ⟨g, 9, none⟩) (.inl rfl) (.slice z.sk.1 z.sk.2.1 z.sk.2.2)) (p := ⟨g, 10, none⟩) (.inl rfl) (.slice z.pr.1 z.pr.2.1 z.pr.2.2)) (p := ⟨g, 11, none⟩) (.inl rfl) (.slice z.da.1 z.da.2.1 z.da.2.2))
theorem ret_chunk {fn : Func} {p : Tmp} (hr : fn.results = #[.cell p 41]) (tmps : Array Value) (w : World) (g : Nat) (x : CX) (hp : tmps.getD p undef = .pointer (some ⟨g, 0, none⟩)) (h : KB w g x) :
    (results fn tmps).run Tryz.prog w = .ok (.agg x.cells.toArray) w :=
  results_cell_row hr tmps w g _ x.cells.toArray (0, 0) _ hp h Tryz.underlying41 rfl Chunk_size
def CX.keptAt (x : CX) (A : Option Addr) (n c : Nat) : CX := ⟨x.kd, x.fl, x.a, 0, x.ou, x.si, x.pp, (none, 0, 0), (none, 0, 0), (none, 0, 0), (none, 0, 0), (A, n, c), [], x.bs⟩
def CX.zero : CX := ⟨0, 0, 0, 0, 0, 0, 0, (none, 0, 0), (none, 0, 0), (none, 0, 0), (none, 0, 0), (none, 0, 0), [], []⟩
def Kept_jo (w : World) (x : CX) (e : Ending) (w' : World) : Prop :=
  ∃ A n c, e = .returned (.agg (x.keptAt A n c).cells.toArray) ∧ BS w' A n c x.bs ∧ Below w.heap.size w w' ∧ ∀ a, A = some a → w.heap.size ≤ a.block
set_option maxRecDepth 1000000 in
set_option maxHeartbeats 4000000 in
theorem kept_any {w : World} {x : CX} (hx : CV w x) (hne : x.bs ≠ []) (hn : x.bs.length ≤ 100000) :
    Calls Tryz.prog 135 #[.agg x.cells.toArray] w (Kept_jo w x) := by
  obtain ⟨g, og, hA⟩ : ∃ g o, x.da.1 = some ⟨g, o, none⟩ := by
    obtain ⟨g, o, e, _⟩ := hx.bs.br (by
      intro hc
      have := congrArg List.length hc
      rw [bc_length] at this
      exact hne (List.eq_nil_of_length_eq_zero this))
    exact ⟨g, o, e⟩
  have hbs := hx.bs
  rw [hA] at hbs
  have hlen := hbs.len
  have L0 := below_lay w (.cells x.cells.toArray 41)
  have L1 := L0.alloc L0.size (.cells CX.zero.cells.toArray 41)
  have K := keep fun w2 (hb : Below w.heap.size w w2) => copy_any g og x.da.2.1 x.da.2.2 x.bs w2 (hbs.step hb) (by omega)
  have B0 := (show KB ((w.alloc (.cells x.cells.toArray 41)).alloc (.cells CX.zero.cells.toArray 41)) w.heap.size x from ((below_lay _ _).block _ (by simp)).trans (heap_alloc_new w _))
  have C0 := (show KB ((w.alloc (.cells x.cells.toArray 41)).alloc (.cells CX.zero.cells.toArray 41)).drew w.heap.size x from B0).at_
  have R0 := (show KB ((w.alloc (.cells x.cells.toArray 41)).alloc (.cells CX.zero.cells.toArray 41)) (w.heap.size + 1) CX.zero from by
    have h9 := heap_alloc_new (w.alloc (.cells x.cells.toArray 41)) (.cells CX.zero.cells.toArray 41)
    rw [show (w.alloc (.cells x.cells.toArray 41)).heap.size = w.heap.size + 1 by simp] at h9
    exact h9)
  have Z0 : ((w.alloc (.cells x.cells.toArray 41)).alloc (.cells CX.zero.cells.toArray 41)).heap.size = w.heap.size + 2 := by simp
  have hne9 : w.heap.size + 1 ≠ w.heap.size := by omega
  have hne8 : w.heap.size ≠ w.heap.size + 1 := by omega
  clear hx hne hn hbs hlen
  obtain ⟨xk, xf, xa, xb, xo, xs, xp, ⟨x1, x2, x3⟩, ⟨x4, x5, x6⟩, ⟨x7, x8, x9⟩, ⟨x10, x11, x12⟩, ⟨x13, x14, x15⟩, xps, xbs⟩ := x
  dsimp only at hA
  subst hA
  dsimp only [CX.zero, CX.cells, At12, Nat.zero_add] at *
  have HL1 := keep L1
  have HB0 := keep B0
  have HR0 := keep R0
  have HZ0 := keep Z0
  clear L0 L1 B0 R0 Z0
  go_enter Tryz.func135, Tryz.ntmps135
  go_wp2
  go_region_held3 (fun w' => w'.cell? ⟨w.heap.size, 0, none⟩ = some (.int .u8 xk) ∧ w'.cell? ⟨w.heap.size, 1, none⟩ = some (.int .u8 xf) ∧ w'.cell? ⟨w.heap.size, 2, none⟩ = some (.int .u32 xa) ∧ w'.cell? ⟨w.heap.size, 3, none⟩ = some (.int .u32 xb) ∧ w'.cell? ⟨w.heap.size, 4, none⟩ = some (.int .u16 xo) ∧ w'.cell? ⟨w.heap.size, 5, none⟩ = some (.int .u16 xs) ∧ w'.cell? ⟨w.heap.size, 6, none⟩ = some (.int .u32 xp) ∧ w'.cell? ⟨w.heap.size, 7, none⟩ = some (.slice x1 x2 x3) ∧ w'.cell? ⟨w.heap.size, 8, none⟩ = some (.slice x4 x5 x6) ∧ w'.cell? ⟨w.heap.size, 9, none⟩ = some (.slice x7 x8 x9) ∧ w'.cell? ⟨w.heap.size, 10, none⟩ = some (.slice x10 x11 x12) ∧ w'.cell? ⟨w.heap.size, 11, none⟩ = some (.slice (some ⟨g, og, none⟩) x14 x15))
    (first | with_reducible exact C0 | with_reducible exact q5 | with_reducible exact q6)
    (first
      | (go_at_call 65; refine (K.out _ HL1.out.drew).mono ?_
         rintro e w5 ⟨A5, n5, c5, rfl, hb5, hl5, ho5⟩
         have q5' := (show KB w5 w.heap.size _ from (hl5.block _ (Nat.lt_of_lt_of_eq (by omega) HZ0.out.symm)).trans HB0.out)
         have q5 := q5'.at_
         have R5 := (show KB w5 (w.heap.size + 1) CX.zero from (hl5.block _ (Nat.lt_of_lt_of_eq (by omega) HZ0.out.symm)).trans HR0.out)
         have r5 := R5.at_
         have f5 := R5.fz
         have q6 := (KB.aside q5' hne8 (CX.keptAt ⟨xk, xf, xa, xb, xo, xs, xp, (x1, x2, x3), (x4, x5, x6), (x7, x8, x9), (x10, x11, x12), (some ⟨g, og, none⟩, x14, x15), xps, xbs⟩ A5 n5 c5)).at_
         dsimp only [At12, Nat.zero_add, CX.cells, CX.zero, CX.keptAt] at q5 q6 r5 f5
         have H5 := keep (And.intro hb5 (And.intro (HL1.out.drew.trans (hl5.mono (Nat.le_trans (by omega) (Nat.le_of_eq HZ0.out.symm)))) (own_new ho5.out)))
         have HR5 := keep R5
         clear hl5 ho5 hb5 q5' R5))
  clear q5 q6 C0 r5 f5
  have HK := KB.laid HR5.out (CX.keptAt ⟨xk, xf, xa, xb, xo, xs, xp, (x1, x2, x3), (x4, x5, x6), (x7, x8, x9), (x10, x11, x12), (some ⟨g, og, none⟩, x14, x15), xps, xbs⟩ A5 n5 c5)
  have HP := KB.part w5 (w.heap.size + 1) (CX.keptAt ⟨xk, xf, xa, xb, xo, xs, xp, (x1, x2, x3), (x4, x5, x6), (x7, x8, x9), (x10, x11, x12), (some ⟨g, og, none⟩, x14, x15), xps, xbs⟩ A5 n5 c5)
  have HU := KB.under H5.out.2.1 (Nat.le_succ _) (CX.keptAt ⟨xk, xf, xa, xb, xo, xs, xp, (x1, x2, x3), (x4, x5, x6), (x7, x8, x9), (x10, x11, x12), (some ⟨g, og, none⟩, x14, x15), xps, xbs⟩ A5 n5 c5)
  dsimp only [CX.keptAt] at HK HP HU
  generalize World.setCell _ ⟨w.heap.size + 1, 11, none⟩ _ = W9 at HK HP HU ⊢
  replace HK := keep HK
  replace HP := keep HP
  replace HU := keep HU
  go_wp2
  refine bodyPost_ret (ret_chunk rfl _ _ (w.heap.size + 1) _ rfl HK.out) rfl ⟨A5, n5, c5, rfl, ?_, HU.out, fun a e => ?_⟩
  · exact HP.out.bs (F := fun i => w.heap.size + 2 ≤ i) (fun i hi e => by omega) H5.out.1 (fun a e => Nat.le_trans (Nat.le_of_eq HZ0.out.symm) (H5.out.2.2 a e))
  · exact Nat.le_trans (Nat.le_trans (by omega) (Nat.le_of_eq HZ0.out.symm)) (H5.out.2.2 a e)
end
section
open Go.RowKit Go.Maps
set_option maxRecDepth 1000000 in
set_option maxHeartbeats 4000000 in
theorem refusal_any {w : World} {G : Gh} {j : Jn} (h : JA w G j (j.oct : Int)) (hg : Good j) {x : CX} (hx : CV w x) :
    Calls Tryz.prog 114 #[.pointer (some ⟨G.b, 0, none⟩), .agg x.cells.toArray] w fun e w' => e = .returned (.int .i64 (addE j x.ch)) ∧ Below w.heap.size w w' := by
  obtain ⟨r, hr⟩ : ∃ r, addE j x.ch = r := ⟨_, rfl⟩
  rw [hr]
  have hlen := keep hx.bs.len
  have hn : j.n = (G.n : Nat) := h.n
  have hn64 : G.n ≤ 64 := by have := hg.wf.n1; omega
  have e1 : x.kd ≠ 0 ∨ x.bs.length = 0 → r = 1 := fun hc => by rw [← hr]; unfold addE; exact if_pos hc
  have e2 : ¬ (x.kd ≠ 0 ∨ x.bs.length = 0) → ¬ x.ou < G.n → r = 12 := fun h1 h2 => by
    rw [← hr]
    unfold addE
    rw [if_neg (show ¬ (x.ch.kd ≠ 0 ∨ x.ch.da.length = 0) from h1), if_pos (by rw [hn]; intro hc; exact h2 hc.2)]
  have e3 : ¬ (x.kd ≠ 0 ∨ x.bs.length = 0) → x.ou < G.n → (∃ y ∈ j.ch, y.a = x.a) → r = 8 := fun h1 h2 ⟨y, hy, ey⟩ => by
    rw [← hr]
    unfold addE
    rw [if_neg (show ¬ (x.ch.kd ≠ 0 ∨ x.ch.da.length = 0) from h1), if_neg (by rw [hn]; intro hc; exact hc ⟨hx.ou.1, h2⟩), if_pos (List.any_eq_true.2 ⟨y, hy, decide_eq_true ey⟩)]
  have e4 : ¬ (x.kd ≠ 0 ∨ x.bs.length = 0) → x.ou < G.n → (∀ y ∈ j.ch, y.a ≠ x.a) → r = if 65536 < j.oct + x.bs.length then 9 else 0 := fun h1 h2 h3 => by
    rw [← hr]
    unfold addE
    rw [if_neg (show ¬ (x.ch.kd ≠ 0 ∨ x.ch.da.length = 0) from h1), if_neg (by rw [hn]; intro hc; exact hc ⟨hx.ou.1, h2⟩), if_neg (fun hc => by
      obtain ⟨y, hy, ey⟩ := List.any_eq_true.1 hc
      exact h3 y hy (of_decide_eq_true ey))]
    rfl
  have hle := hg.le
  have L0 := keep (below_lay w (.cells x.cells.toArray 41))
  have J0 := h.step (below_lay w (.cells x.cells.toArray 41))
  have HB0 := (show KB (w.alloc (.cells x.cells.toArray 41)) w.heap.size x from heap_alloc_new w _)
  have HR := fun W h1 h2 (h3 : W.heap[w.heap.size]? = (w.alloc (.cells x.cells.toArray 41)).heap[w.heap.size]?) => And.intro (rel_map J0 W h1 h2).1 (And.intro ((show KB W w.heap.size x from by unfold KB; rw [h3]; exact HB0).at_.2.2.1) ((rel_map J0 W h1 h2).2 x.a hx.a.1 hx.a.2))
  have c3 := J0.c3
  have hbl := h.olt _ h.ob
  have hou := hx.ou
  have hhas : (∃ p, G.pb x.a = some p ∧ ∃ y ∈ j.ch, y.a = x.a) ∨ (G.pb x.a = none ∧ ∀ y ∈ j.ch, y.a ≠ x.a) := by
    cases hp : G.pb x.a with
    | some p => exact .inl ⟨p, rfl, (G.pc x.a).ch, (h.pa.op _ _ hp).2.2.1, (h.pa.op _ _ hp).2.2.2⟩
    | none => exact .inr ⟨rfl, fun y hy e => by
        obtain ⟨p, hp', _⟩ := h.pa.has y hy
        rw [e, hp] at hp'
        cases hp'⟩
  have HK : Hid ((∀ s : Nat, s < G.n → x.ou = s → Calls Tryz.prog 99 #[.pointer (some ⟨G.b, 0, none⟩), .int .u16 x.ou] (w.alloc (.cells x.cells.toArray 41)) fun e w' => e = .returned (.pointer (some ⟨G.sb, s * 2, none⟩)) ∧ (w.alloc (.cells x.cells.toArray 41)) = w') ∧
      (¬ x.ou < G.n → Calls Tryz.prog 99 #[.pointer (some ⟨G.b, 0, none⟩), .int .u16 x.ou] (w.alloc (.cells x.cells.toArray 41)) fun e w' => e = .returned (.pointer none) ∧ (w.alloc (.cells x.cells.toArray 41)) = w')) :=
    keep ⟨fun s hs e => by rw [e]; exact find_ok J0 hn64 hs, fun hs => find_no J0 hn64 hou.1 hou.2 hs⟩
  have E1 := keep e1
  have E2 := keep e2
  have E3 := keep e3
  have E4 := keep e4
  clear h hg hx hr hn e1 e2 e3 e4 hn64 J0 HB0
  obtain ⟨xk, xf, xa, xb, xo, xs, xp, ⟨x1, x2, x3⟩, ⟨x4, x5, x6⟩, ⟨x7, x8, x9⟩, ⟨x10, x11, x12⟩, ⟨x13, x14, x15⟩, xps, xbs⟩ := x
  dsimp only [CX.cells] at *
  by_cases hk : xk = 0
  · by_cases hl : x14 = 0
    · have hk' : (xk != 0) = false := by simpa using hk
      have hl' : ((x14 : Int) == 0) = true := by simpa using hl
      have HKL := keep hl
      clear c3 HR hhas hbl hou hle hk hl
      go_enter Tryz.func114, Tryz.ntmps114
      go_wp2
      go_ret
      exact ⟨by rw [E1.out (.inr (by rw [← hlen.out]; exact HKL.out))] <;> rfl, L0.out⟩
    · have hk' : (xk != 0) = false := by simpa using hk
      have hl' : ((x14 : Int) == 0) = false := by simpa using hl
      have EN := keep (show ¬ (xk ≠ 0 ∨ xbs.length = 0) from by have := hlen.out; omega)
      by_cases ho : xo < G.n
      · have hs : Hid (xo.toNat < G.n ∧ xo = (xo.toNat : Nat)) := keep (by omega)
        have KF := keep (HK.out.1 _ hs.out.1 hs.out.2)
        rcases hhas with ⟨p, hp, hy⟩ | ⟨hp, hy⟩
        · rw [pgV_some hp] at HR
          dsimp only [Option.getD, CX.cells] at HR
          replace HR := keep HR
          have EE := keep (E3.out EN.out ho hy)
          clear hp hy HK c3 hle hou ho hk hl
          go_enter Tryz.func114, Tryz.ntmps114
          go_wp2_with (go_at_call 99; refine KF.out.mono ?_; rintro e w' ⟨rfl, rfl⟩)
          go_region_held3 (fun w' => w'.cell? ⟨G.b, 0, none⟩ = some (.map (some G.k)) ∧ w'.cell? ⟨w.heap.size, 2, none⟩ = some (.int .u32 xa) ∧ (Instr.lookup 123 (.map (some G.k)) (.int .u32 xa) false).run Tryz.prog w' = .ok (.pointer (some ⟨p, 0, none⟩)) w')
            (first | exact HR.out _ rfl rfl rfl) (first | fail)
          all_goals go_wp2
          all_goals (go_ret; exact ⟨by rw [EE.out] <;> rfl, L0.out.drew⟩)
        · rw [pgV_none hp] at HR
          dsimp only [Option.getD, CX.cells] at HR
          replace HR := keep HR
          have EE := keep (E4.out EN.out ho hy)
          have hw := wrap_small (x := 65536 - (j.oct : Int)) (by omega) (by omega)
          clear hp hy HK hou ho hk hl
          by_cases hf : 65536 < j.oct + xbs.length
          · have hf' : 65536 - (j.oct : Int) < (x14 : Int) := by have := hlen.out; omega
            have HF := keep hf
            have HLE := keep hle
            clear hf hle
            generalize (j.oct : Int) = oc at *
            go_enter Tryz.func114, Tryz.ntmps114
            go_wp2_with (go_at_call 99; refine KF.out.mono ?_; rintro e w' ⟨rfl, rfl⟩)
            go_region_held3 (fun w' => w'.cell? ⟨G.b, 0, none⟩ = some (.map (some G.k)) ∧ w'.cell? ⟨w.heap.size, 2, none⟩ = some (.int .u32 xa) ∧ (Instr.lookup 123 (.map (some G.k)) (.int .u32 xa) false).run Tryz.prog w' = .ok (.pointer none) w')
              (first | exact HR.out _ rfl rfl rfl) (first | fail)
            all_goals go_wp2
            all_goals go_quiet (fail)
            all_goals go_wp2
            all_goals (go_ret; exact ⟨by rw [EE.out, if_pos HF.out] <;> rfl, below_drewN L0.out.drew _⟩)
          · have hf' : ¬ 65536 - (j.oct : Int) < (x14 : Int) := by have := hlen.out; omega
            have HF := keep hf
            have HLE := keep hle
            clear hf hle
            generalize (j.oct : Int) = oc at *
            go_enter Tryz.func114, Tryz.ntmps114
            go_wp2_with (go_at_call 99; refine KF.out.mono ?_; rintro e w' ⟨rfl, rfl⟩)
            go_region_held3 (fun w' => w'.cell? ⟨G.b, 0, none⟩ = some (.map (some G.k)) ∧ w'.cell? ⟨w.heap.size, 2, none⟩ = some (.int .u32 xa) ∧ (Instr.lookup 123 (.map (some G.k)) (.int .u32 xa) false).run Tryz.prog w' = .ok (.pointer none) w')
              (first | exact HR.out _ rfl rfl rfl) (first | fail)
            all_goals go_wp2
            all_goals go_quiet (fail)
            all_goals go_wp2
            all_goals (go_ret; exact ⟨by rw [EE.out, if_neg HF.out] <;> rfl, below_drewN L0.out.drew _⟩)
      · have KF := keep (HK.out.2 ho)
        have EE := keep (E2.out EN.out ho)
        clear HK c3 HR hhas hbl hle hou ho hk hl
        go_enter Tryz.func114, Tryz.ntmps114
        go_wp2_with (go_at_call 99; refine KF.out.mono ?_; rintro e w' ⟨rfl, rfl⟩)
        go_ret
        exact ⟨by rw [EE.out] <;> rfl, L0.out⟩
  · have hk' : (xk != 0) = true := by simpa using hk
    clear c3 HR hhas hbl hou hle
    go_enter Tryz.func114, Tryz.ntmps114
    go_wp2
    go_ret
    exact ⟨by rw [E1.out (.inl hk)] <;> rfl, L0.out⟩
end
end Go.Proofs.YtnlkdlnmffibhaaGreat
