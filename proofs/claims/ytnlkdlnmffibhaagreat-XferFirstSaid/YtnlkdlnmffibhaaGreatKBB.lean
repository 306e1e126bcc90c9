/- KBB of the stage: texts Pc6, joined. -/
import Derived.Test.YtnlkdlnmffibhaaGreatKBA
import Derived.RangeFuncBox
import Derived.Maps.AppendAt
set_option linter.unusedSimpArgs false
set_option linter.unusedVariables false
set_option maxRecDepth 8000
namespace Go.Proofs.YtnlkdlnmffibhaaGreat
section
open Go.RowKit
set_option maxHeartbeats 1000000 in
theorem clone_any (b o n c : Nat) (bs : List UInt8) (w : World) (h : BS w (some ⟨b, o, none⟩) n c bs) (hn : n ≤ 100000) :
    Calls Tryz.prog 65 #[.slice (some ⟨b, o, none⟩) n c] w (RetB w bs) := by
  obtain ⟨i0, hi0, hz0, hz1, hz2⟩ := info_parts u8_info
  have HS := keep (h.step (below_lay w (.cells #[] 5)))
  have HL := keep h.len
  have HN := keep hn
  have LW := keep (below_lay w (.cells #[] 5))
  have HO := keep (show (w.alloc (.cells #[] 5)).ownsRow w.heap.size 5 1 (.slice (some ⟨w.heap.size, 0, none⟩) 0 0) 0 [] from own_row (heap_alloc_new w _) 0 rfl (by decide))
  have qn : ∀ (w : World), (binOp .eql 31 (.slice (some ⟨b, o, none⟩) n c) (.slice none 0 0)).run Tryz.prog w = .ok (.bool false) w := fun w => Lib.run_eql_slice_nil w _ _ _ n c 0 0 Tryz.underlying31
  clear h hn
  go_enter Tryz.func65, Tryz.ntmps65
  go_wp2_with (at_builtin; refine wpl_append rfl (.tmp 5) (.tmp 6) 31 rfl w.heap.size 5 i0 (.int .u8 0) Tryz.underlying31 hi0 hz0 hz1 rfl _ 0 [] rfl HO.out (some ⟨b, o, none⟩) n c (bc bs) rfl (by rw [bc_length]; exact HL.out) HS.out.br.sr (bc_one _) (by have := HN.out; unfold maxLen; omega) (by have := HN.out; rw [hz2]; omega) (by simp) ?_
               intro A4 c4 w4 ho4 hb4
               simp only [Nat.zero_add, List.nil_append] at ho4
               replace hb4 := keep (LW.out.trans hb4))
  go_ret
  exact ⟨A4, _, c4, rfl, BS.of_own ho4.out, hb4.out, ho4⟩
def TY (w : World) (A : Option Addr) : Prop := ∀ a, A = some a → ∃ cs, w.heap[a.block]? = some (.cells cs 5 (0, 0))
theorem TY.own {w : World} {base n c : Nat} {A : Option Addr} {xs : List Value} (h : w.ownsRow base 5 1 (.slice A n c) n xs) : TY w A := by
  rcases h.2 with ⟨hv, _⟩ | ⟨g, cap, cur, hv, _, hg, _⟩
  · injection hv with hA
    subst hA
    exact fun _ e => by cases e
  · injection hv with hA
    subst hA
    rintro a ⟨⟩
    exact ⟨cur, hg⟩
structure U8 (A B : World) : Prop where
  size : A.heap.size ≤ B.heap.size
  all : ∀ (k : Nat) cs fr, A.heap[k]? = some (.cells cs 5 fr) → B.heap[k]? = some (.cells cs 5 fr)
theorem U8.trans {A B C : World} (h : U8 A B) (k : U8 B C) : U8 A C := ⟨Nat.le_trans h.size k.size, fun i cs fr hi => k.all i cs fr (h.all i cs fr hi)⟩
theorem U8.below {A B : World} (h : Below A.heap.size A B) : U8 A B := ⟨h.size, fun k cs fr hk => (h.block k (Array.getElem?_eq_some_iff.1 hk).1).trans hk⟩
theorem U8.grown {A B : World} {row : Option Nat} (hg : A.grownBy B row) (hr : ∀ r, row = some r → ∃ cs t fr, A.heap[r]? = some (.cells cs t fr) ∧ t ≠ 5) : U8 A B :=
  ⟨hg.size, fun k cs fr hk => (hg.block k (Array.getElem?_eq_some_iff.1 hk).1 fun e => by
    obtain ⟨ds, t, fr', hd, ht⟩ := hr k e.symm
    rw [hk] at hd
    cases hd
    exact ht rfl).trans hk⟩
theorem U8.put {A : World} {l : Nat} {o : Obj} (o' : Obj) (h : A.heap[l]? = some o) (ho : o.isCells = false) : U8 A (A.putObj l o') :=
  ⟨by simp, fun k cs fr hk => by
    refine (World.putObj_heap_other fun e => ?_).trans hk
    subst e
    rw [h] at hk
    cases hk
    cases ho⟩
theorem U8.ty {A B : World} (h : U8 A B) {x : Option Addr} (hx : TY A x) : TY B x := fun a e => by
  obtain ⟨cs, hc⟩ := hx a e
  exact ⟨cs, h.all _ _ _ hc⟩
theorem U8.bs {A B : World} (h : U8 A B) {x : Option Addr} {n c : Nat} {bs : List UInt8} (hx : TY A x) (hb : BS A x n c bs) : BS B x n c bs := by
  refine ⟨hb.1, hb.2.1, fun hne => ?_⟩
  obtain ⟨b, o, e, hlt, hc⟩ := hb.2.2 hne
  obtain ⟨cs, hcs⟩ := hx _ e
  refine ⟨b, o, e, Nat.lt_of_lt_of_le hlt h.size, fun j u hu => ?_⟩
  exact (World.cell?_of_block (w := A) (a := ⟨b, o + j, none⟩) ((h.all _ _ _ hcs).trans hcs.symm)).trans (hc j u hu)
theorem PR.zero {w w' : World} {A : Option Addr} {c : Nat} {l : List PV} (h : PR w A 0 c l) : PR w' A 0 c l :=
  ⟨h.1, h.2.1, by rw [List.eq_nil_of_length_eq_zero h.1.symm]; exact SR.nil _ _⟩
structure PC (W : World) (y : CX) : Prop where
  v : CV W y
  p : Plain y
  t : TY W y.da.1
theorem PC.kept {A B : World} {y : CX} (h : PC A y) (u : U8 A B) : PC B y := by
  refine ⟨⟨h.v.kd, h.v.fl, h.v.a, h.v.b, h.v.ou, h.v.si, h.v.pp, ?_, u.bs h.t h.v.bs⟩, h.p, u.ty h.t⟩
  have h1 := h.v.ps
  rw [h.p.2.2.2] at h1 ⊢
  exact h1.zero
theorem some_ne {a b : Nat} (h : a ≠ b) : some a ≠ some b := fun e => h (by injection e)
theorem grown_set_sp (W : World) (b j : Nat) (v : Value) : W.grownBy (W.setCell ⟨b, j, none⟩ v) (some b) :=
  ⟨rfl, rfl, rfl, (KeepsWalks.setCell W _ v).size, fun k _ hk => Below.heap_setCell _ _ _ k (fun e => hk (by rw [e]))⟩
def CK (W : World) (g : Nat) (x : CX) : Prop := W.heap[g]? = some (.cells x.cells.toArray 41 (0, 0))
theorem CK.lt {W : World} {g : Nat} {x : CX} (h : CK W g x) : g < W.heap.size := (Array.getElem?_eq_some_iff.1 h).1
theorem CK.at_ {W : World} {g : Nat} {x : CX} (h : CK W g x) (j : Nat) (v : Value) (hv : x.cells.toArray[j]? = some v) : W.cell? ⟨g, j, none⟩ = some v := by rw [cell_of_row _ _ _ _ _ _ h]; exact hv
theorem CK.fz {W : World} {g : Nat} {x : CX} (h : CK W g x) (j : Nat) : W.frozen? ⟨g, j, none⟩ = false := frozen_of_row W g j _ _ h
theorem CK.all {W : World} {g : Nat} {x : CX} (h : CK W g x) :
    (W.cell? ⟨g, 0, none⟩ = some (.int .u8 x.kd) ∧ W.cell? ⟨g, 1, none⟩ = some (.int .u8 x.fl) ∧ W.cell? ⟨g, 2, none⟩ = some (.int .u32 x.a) ∧ W.cell? ⟨g, 3, none⟩ = some (.int .u32 x.b) ∧ W.cell? ⟨g, 4, none⟩ = some (.int .u16 x.ou) ∧ W.cell? ⟨g, 5, none⟩ = some (.int .u16 x.si) ∧ W.cell? ⟨g, 6, none⟩ = some (.int .u32 x.pp) ∧
      W.cell? ⟨g, 7, none⟩ = some (.slice x.bl.1 x.bl.2.1 x.bl.2.2) ∧ W.cell? ⟨g, 8, none⟩ = some (.slice x.du.1 x.du.2.1 x.du.2.2) ∧ W.cell? ⟨g, 9, none⟩ = some (.slice x.sk.1 x.sk.2.1 x.sk.2.2) ∧ W.cell? ⟨g, 10, none⟩ = some (.slice x.pr.1 x.pr.2.1 x.pr.2.2) ∧ W.cell? ⟨g, 11, none⟩ = some (.slice x.da.1 x.da.2.1 x.da.2.2)) ∧
    (W.frozen? ⟨g, 1, none⟩ = false ∧ W.frozen? ⟨g, 2, none⟩ = false ∧ W.frozen? ⟨g, 11, none⟩ = false) :=
  ⟨⟨h.at_ 0 _ rfl, h.at_ 1 _ rfl, h.at_ 2 _ rfl, h.at_ 3 _ rfl, h.at_ 4 _ rfl, h.at_ 5 _ rfl, h.at_ 6 _ rfl, h.at_ 7 _ rfl, h.at_ 8 _ rfl, h.at_ 9 _ rfl, h.at_ 10 _ rfl, h.at_ 11 _ rfl⟩, h.fz 1, h.fz 2, h.fz 11⟩
theorem CK.set {W : World} {g : Nat} {x y : CX} (h : CK W g x) (j : Nat) (v : Value) (he : x.cells.toArray.setIfInBounds j v = y.cells.toArray) : CK (W.setCell ⟨g, j, none⟩ v) g y := by
  have := heap_setCell_same W g j _ _ v h
  rw [he] at this
  exact this
structure SJ (w : World) (k : Nat) (f : Int) (cx : CX) (A : Option Addr) (m cc : Nat) (lst : List CX) (W : World) : Prop where
  c : CK W (w.heap.size + 1) cx
  fr : Boxed W (w.heap.size + 1 + 1) 5 (.int .u8 f)
  l : Boxed W (w.heap.size + 1 + 1 + 1) 34 (.slice A m cc)
  row : W.ownsRow (w.heap.size + 1 + 1 + 1 + 1) 41 12 (.slice A m cc) m (flatF CX.cells lst)
  vs : ∀ y ∈ lst, PC W y
  below : Below w.heap.size w W
  bm : Boxed W (w.heap.size + 1 + 1 + 1 + 1 + 1) 3 (.int .i64 (k : Int))
section
variable {w W W' : World} {k : Nat} {f : Int} {cx : CX} {A : Option Addr} {m c : Nat} {lst : List CX}
theorem own_step_sp {base : Nat} {e : TypeId} {size n : Nat} {v : Value} {xs : List Value} (h : W.ownsRow base e size v n xs) (hb : Below W.heap.size W W') : W'.ownsRow base e size v n xs := by
  refine ⟨h.1, ?_⟩
  rcases h.2 with h0 | ⟨k, cap, cur, hv, hk, hg, r⟩
  · exact .inl h0
  · exact .inr ⟨k, cap, cur, hv, hk, (hb.block k (Array.getElem?_eq_some_iff.1 hg).1).trans hg, r⟩
theorem SJ.step (h : SJ w k f cx A m c lst W) (hb : Below W.heap.size W W') : SJ w k f cx A m c lst W' :=
  ⟨(hb.block _ h.c.lt).trans h.c, (hb.block _ h.fr.lt).trans h.fr, (hb.block _ h.l.lt).trans h.l, own_step_sp h.row hb, fun y hy => (h.vs y hy).kept (U8.below hb), up h.below hb, (hb.block _ h.bm.lt).trans h.bm⟩
theorem SJ.drew (h : SJ w k f cx A m c lst W) : SJ w k f cx A m c lst W.drew := ⟨h.c, h.fr, h.l, h.row, fun y hy => (h.vs y hy).kept ⟨Nat.le_refl _, fun _ _ _ hh => hh⟩, h.below.drew, h.bm⟩
theorem SJ.field (h : SJ w k f cx A m c lst W) {cy : CX} (j : Nat) (v : Value) (he : cx.cells.toArray.setIfInBounds j v = cy.cells.toArray) : SJ w k f cy A m c lst (W.setCell ⟨w.heap.size + 1, j, none⟩ v) := by
  have hg := grown_set_sp W (w.heap.size + 1) j v
  refine ⟨h.c.set j v he, h.fr.kept hg (some_ne (by omega)), h.l.kept hg (some_ne (by omega)), h.row.kept hg (.inr fun e => ?_), fun y hy => (h.vs y hy).kept (U8.grown hg fun r er => ?_), h.below.setCell (p := ⟨w.heap.size + 1, j, none⟩) (Nat.le_succ _) v, h.bm.kept hg (some_ne (by omega))⟩
  · have := (h.row.lt _ e).1
    omega
  · cases er
    exact ⟨_, _, _, h.c, by decide⟩
theorem SJ.put (h : SJ w k f cx A m c lst W) {q : Nat} {o : Obj} (o' : Obj) (hq : w.heap.size ≤ q) (ho : W.heap[q]? = some o) (hc : o.isCells = false) : SJ w k f cx A m c lst (W.putObj q o') := by
  have key : ∀ (g : Nat) cs t fr, W.heap[g]? = some (.cells cs t fr) → (W.putObj q o').heap[g]? = some (.cells cs t fr) := fun g cs t fr hg => by
    refine (World.putObj_heap_other fun e => ?_).trans hg
    subst e
    rw [ho] at hg
    cases hg
    cases hc
  exact ⟨key _ _ _ _ h.c, key _ _ _ _ h.fr, key _ _ _ _ h.l, ownsRow_putObj h.row o' ho hc, fun y hy => (h.vs y hy).kept (U8.put o' ho hc),
    h.below.grown (grownBy_putObj' W q o') h.below.size fun k e => by cases e; exact hq, key _ _ _ _ h.bm⟩
theorem not_row {g base : Nat} {e : TypeId} {size n : Nat} {v : Value} {xs : List Value} (hr : W.ownsRow base e size v n xs) (hg : g < base) : some g ≠ v.ownBlock := fun e' => by
  have := (hr.lt g e'.symm).1
  omega
theorem SJ.app (h : SJ w k f cx A m c lst W) (hp : PC W cx) {tmp : Obj} {w1 : World} {A' : Option Addr} {c' : Nat} (ho : w1.ownsRow (w.heap.size + 1 + 1 + 1 + 1) 41 12 (.slice A' (m + 1) c') (m + 1) (flatF CX.cells lst ++ cx.cells))
    (hg : (W.alloc tmp).grownBy w1 (Value.slice A m c).ownBlock) :
    Boxed w1 (w.heap.size + 1 + 1 + 1) 34 (.slice A m c) ∧ CK w1 (w.heap.size + 1) cx ∧ SJ w k f cx A' (m + 1) c' (lst ++ [cx]) (w1.setCell ⟨w.heap.size + 1 + 1 + 1, 0, none⟩ (.slice A' (m + 1) c')) ∧ KeepsOthers W (w1.setCell ⟨w.heap.size + 1 + 1 + 1, 0, none⟩ (.slice A' (m + 1) c')) := by
  have hla := below_lay W tmp
  have J := h.step hla
  have n0 : ∀ j, j ≤ 3 → some (w.heap.size + j) ≠ (Value.slice A m c).ownBlock := fun j hj => not_row h.row (show w.heap.size + j < w.heap.size + 1 + 1 + 1 + 1 by omega)
  have c1 : CK w1 (w.heap.size + 1) cx := (hg.block _ J.c.lt (n0 1 (by omega))).trans J.c
  have f1 := J.fr.kept hg (n0 2 (by omega))
  have l1 := J.l.kept hg (n0 3 (by omega))
  have u1 : U8 (W.alloc tmp) w1 := U8.grown hg fun r er => by
    rcases J.row.2 with ⟨he, _⟩ | ⟨g, cap, cur, he, _, hgg, _⟩
    · injection he with e1
      subst e1
      cases er
    · injection he with e1
      subst e1
      simp [Value.ownBlock] at er
      subst er
      exact ⟨_, _, _, hgg, by decide⟩
  have bm1 : Boxed w1 (w.heap.size + 1 + 1 + 1 + 1 + 1) 3 (.int .i64 (k : Int)) := J.bm.kept hg (J.bm.not_row (by decide) J.row)
  have hs := grown_set_sp w1 (w.heap.size + 1 + 1 + 1) 0 (.slice A' (m + 1) c')
  have us : U8 w1 (w1.setCell ⟨w.heap.size + 1 + 1 + 1, 0, none⟩ (.slice A' (m + 1) c')) := U8.grown hs fun r er => by cases er; exact ⟨_, _, _, l1, by decide⟩
  have b1 : Below w.heap.size w w1 := J.below.grown hg J.below.size fun j ej => by have := (J.row.lt j ej).1; omega
  refine ⟨l1, c1, ⟨(hs.block _ c1.lt (some_ne (by omega))).trans c1, f1.kept hs (some_ne (by omega)), l1.set _, ?_, fun y hy => ?_, b1.setCell (p := ⟨w.heap.size + 1 + 1 + 1, 0, none⟩) (by show w.heap.size ≤ w.heap.size + 1 + 1 + 1; omega) _, bm1.kept hs (some_ne (by omega))⟩, ?_⟩
  · rw [flatF_append, show flatF CX.cells [cx] = cx.cells by simp [flatF]]
    exact ho.kept hs (.inr fun e => by have := (ho.lt _ e).1; omega)
  · rcases List.mem_append.1 hy with hy | hy
    · exact ((J.vs y hy).kept u1).kept us
    · rw [List.mem_singleton.1 hy]
      exact ((hp.kept (U8.below hla)).kept u1).kept us
  · refine ((KeepsOthers.alloc W tmp).trans (KeepsOthers.of_grownBy hg fun j o ej hj => ?_)).trans (KeepsOthers.setCell _ _ _)
    rcases J.row.2 with ⟨he, _⟩ | ⟨g, cap, cur, he, _, hgg, _⟩
    · injection he with e1
      subst e1
      cases ej
    · injection he with e1
      subst e1
      simp [Value.ownBlock] at ej
      subst ej
      rw [hgg] at hj
      cases hj
      rfl
theorem KeepsOthers.of_below (hb : Below W.heap.size W W') : KeepsOthers W W' := ⟨hb.size, fun k o hk _ => (hb.block k (Array.getElem?_eq_some_iff.1 hk).1).trans hk⟩
end
theorem chunk_info : (Tryz.prog.info? 41).map (fun i => (i.zero, i.size, i.bytes)) = some (some (.agg #[.int .u8 0, .int .u8 0, .int .u32 0, .int .u32 0, .int .u16 0, .int .u16 0, .int .u32 0, .slice none 0 0, .slice none 0 0, .slice none 0 0, .slice none 0 0, .slice none 0 0]), 12, 144) := by kernel_rfl
theorem or_free : ∀ n : Fin 4, bits .or .u8 (n.1 : Int) 4 = (n.1 : Int) + 4 ∧ bits .or .u8 (n.1 : Int) 0 = (n.1 : Int) := by decide +kernel
theorem plc_in (N i : Nat) : 0 ≤ plc N i ∧ plc N i < 4 := by unfold plc; split <;> split <;> decide
theorem or_flg (un : Bool) (N i : Nat) : bits .or .u8 (plc N i) (if un = true then 4 else 0) = flg un N i := by
  have h := plc_in N i
  obtain ⟨h1, h2⟩ := or_free ⟨(plc N i).toNat, by omega⟩
  have e : (((plc N i).toNat : Nat) : Int) = plc N i := by omega
  simp only [e] at h1 h2
  unfold flg
  cases un with
  | true => rw [if_pos rfl, h1]; rfl
  | false => rw [if_neg (by decide), h2, Int.add_zero]; rfl
end
end Go.Proofs.YtnlkdlnmffibhaaGreat
