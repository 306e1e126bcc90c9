/- KBC of the stage: texts Pc7, Pc8, joined. -/
import Derived.Test.YtnlkdlnmffibhaaGreatKBB
import Derived.Test.YtnlkdlnmffibhaaGreatKAH
set_option linter.unusedSimpArgs false
set_option linter.unusedVariables false
set_option maxRecDepth 8000
namespace Go.Proofs.YtnlkdlnmffibhaaGreat
open List renaming setIfInBounds_toArray → lA, set_cons_zero → lZ, set_cons_succ → lS
open Go.Act renaming put → aP
section
open Go.RowKit
attribute [local go_sem] Oper.semAt_some
def SplitP (w : World) (M : Msg) (tsn ssn : Int) (k : Nat) (e : Ending) (w' : World) : Prop :=
  ∃ A c l, e = .returned (.tuple #[.slice A (cnt k M.da.length) c, .int .i64 0]) ∧ CS w' A (cnt k M.da.length) c l ∧ (∀ x ∈ l, Plain x) ∧ l.map CX.ch = splitL M tsn ssn k ∧ Below w.heap.size w w' ∧ w'.ownsRow w.heap.size 41 12 (.slice A (cnt k M.da.length) c) (cnt k M.da.length) (flatF CX.cells l) ∧ ∀ x ∈ l, TY w' x.da.1
def nilS : Option Addr × Nat × Nat := (none, 0, 0)
def SI (w : World) (M : Msg) (tsn ssn : Int) (k n : Nat) (W : World) : Prop :=
  ∃ (fl : Int) (da : Option Addr × Nat × Nat) (bs : List UInt8) (A : Option Addr) (c : Nat) (lst : List CX),
    SJ w k (if M.un = true then 4 else 0) ⟨0, fl, (tsn + n) % 4294967296, 0, M.st, ssnOf M ssn, M.pp, nilS, nilS, nilS, nilS, da, [], bs⟩ A n c lst W ∧ lst.map CX.ch = (List.range n).map (chAt M tsn ssn k)
theorem SI.put {w : World} {M : Msg} {tsn ssn : Int} {k n : Nat} {W : World} (h : SI w M tsn ssn k n W) {q : Nat} {o : Obj} (o' : Obj) (hq : w.heap.size ≤ q) (ho : W.heap[q]? = some o) (hc : o.isCells = false) : SI w M tsn ssn k n (W.putObj q o') := by
  obtain ⟨fl, da, bs, A, c, lst, h, h2⟩ := h
  exact ⟨fl, da, bs, A, c, lst, h.put o' hq ho hc, h2⟩
theorem SI.step {w : World} {M : Msg} {tsn ssn : Int} {k n : Nat} {W W' : World} (h : SI w M tsn ssn k n W) (hb : Below W.heap.size W W') : SI w M tsn ssn k n W' := by
  obtain ⟨fl, da, bs, A, c, lst, h, h2⟩ := h
  exact ⟨fl, da, bs, A, c, lst, h.step hb, h2⟩
theorem SI.below {w : World} {M : Msg} {tsn ssn : Int} {k n : Nat} {W : World} (h : SI w M tsn ssn k n W) : Below w.heap.size w W := by
  obtain ⟨fl, da, bs, A, c, lst, h, h2⟩ := h
  exact h.below
theorem cells_new_sp (w : World) (cs : List Value) (t : TypeId) : ∀ (j : Nat) u, cs[j]? = some u → (w.alloc (.cells cs.toArray t)).cell? ((⟨w.heap.size, 0, none⟩ : Addr).add j) = some u := fun j u h => by
  rw [Addr.add_lit, cell_of_row _ _ _ _ _ _ (heap_alloc_new w _), Nat.zero_add]
  simpa using h
theorem heap_new_at_sp {W : World} {o : Obj} {g : Nat} (h : W.heap.size = g) : (W.alloc o).heap[g]? = some o := by rw [← h]; exact heap_alloc_new W o
theorem u32_in (n : Int) : 0 ≤ n % 4294967296 ∧ n % 4294967296 < 4294967296 := ⟨Int.emod_nonneg _ (by decide), Int.emod_lt_of_pos _ (by decide)⟩
theorem SI.start (w : World) (M : Msg) (tsn ssn : Int) (k : Nat) (ht : 0 ≤ tsn ∧ tsn < 4294967296) (X : Obj) (v : Value) :
    SI w M tsn ssn k 0 ((((((w.alloc X).alloc (.cells #[.int .u8 0, .int .u8 0, .int .u32 tsn, .int .u32 0, .int .u16 M.st, .int .u16 (ssnOf M ssn), .int .u32 M.pp, .slice none 0 0, .slice none 0 0, .slice none 0 0, .slice none 0 0, .slice none 0 0] 41)).alloc (.cells #[.int .u8 (if M.un = true then 4 else 0)] 5)).alloc (.cells #[.slice none 0 0] 34)).alloc (.cells #[v] 31)).alloc (.cells #[.int .i64 (k : Int)] 3)) := by
  have e : (tsn + ((0 : Nat) : Int)) % 4294967296 = tsn := by omega
  refine ⟨0, nilS, [], none, 0, [], ?_, rfl⟩
  rw [e]
  have s1 : (w.alloc X).heap.size = w.heap.size + 1 := World.size_alloc _ _
  generalize hW1 : w.alloc X = W1 at s1
  have b1 : Below w.heap.size w W1 := by rw [← hW1]; exact below_lay w X
  have step : ∀ (W : World) (o : Obj) (g : Nat) (p : Obj), W.heap[g]? = some p → (W.alloc o).heap[g]? = some p := fun W o g p h => ((below_lay W o).block g (Array.getElem?_eq_some_iff.1 h).1).trans h
  have new : ∀ (W : World) (o : Obj) (g : Nat), W.heap.size = g → (W.alloc o).heap[g]? = some o := fun W o g h => by rw [← h]; exact heap_alloc_new W o
  refine ⟨step _ _ _ _ (step _ _ _ _ (step _ _ _ _ (step _ _ _ _ (new _ _ _ s1)))), step _ _ _ _ (step _ _ _ _ (step _ _ _ _ (new _ _ _ (by simp [s1])))), step _ _ _ _ (step _ _ _ _ (new _ _ _ (by simp [s1]))), World.ownsRow_nil _ _ _ _, by simp, ?_, new _ _ _ (by simp [s1])⟩
  exact up (up (up (up (up b1 (below_lay _ _)) (below_lay _ _)) (below_lay _ _)) (below_lay _ _)) (below_lay _ _)
set_option maxRecDepth 100000 in
set_option maxHeartbeats 4000000 in
theorem Split_ok (x : MX) (tsn ssn : Int) (k : Nat) (w : World) (hx : MV w x) (ht : 0 ≤ tsn ∧ tsn < 4294967296) (hs : 0 ≤ ssn ∧ ssn < 65536) (hk : 0 < k) (hk2 : k ≤ 1172) (h0 : 0 < x.bs.length) (hn : x.bs.length ≤ 2000) :
    Calls Tryz.prog 32 #[.agg x.cells.toArray, .int .u32 tsn, .int .u16 ssn, .int .i64 (k : Int)] w (SplitP w x.msg tsn ssn k) := by
  obtain ⟨i0, hi, hz0, hz1, hz2⟩ := info_parts chunk_info
  have F1 : Fence.wide.fn 64 := trivial
  have hmix : Tryz.prog.follows .mixedOrders = true := by kernel_rfl
  have q0 : ¬ x.da.2.1 = 0 := by have := hx.bs.len; omega
  have q0' : ((x.da.2.1 : Int) == 0) = false := by simp; exact q0
  have q1 : ¬ (k : Int) < 1 := by omega
  have q2 : ¬ 1172 < (k : Int) := by omega
  have q3 : ¬ 16384 < (x.da.2.1 : Int) := by have := hx.bs.len; omega
  have HX := keep hx
  have I0 := fun (X : Obj) (v : Value) => SI.start w x.msg tsn ssn k ht X v
  replace I0 := keep I0
  obtain ⟨M, hM⟩ : ∃ M, x.msg = M := ⟨_, rfl⟩
  have HMst : Hid (M.st = x.st ∧ M.un = x.un ∧ M.pp = x.pp ∧ M.da = x.bs) := by rw [← hM]; exact keep ⟨rfl, rfl, rfl, rfl⟩
  rw [hM] at I0 ⊢
  clear hM hx
  obtain ⟨xs, xu, xp, ⟨x1, x2, x3⟩, xbs⟩ := x
  dsimp only at h0 hn q0 q0' q3 HMst
  dsimp only [MX.cells]
  refine (callsIn_wide (n := 3)).1 ?_
  refine callsIn_of_wp_marks Tryz.func32 rfl trivial ?_ rfl
  simp only [Tryz.ntmps32, List.size_toArray, List.length_cons, List.length_nil, Nat.reduceAdd, Nat.reduceSub, Array.replicate_succ, Array.replicate_zero, List.push_toArray, List.append_toArray, List.nil_append, List.cons_append]
  have HQ := keep (And.intro hk hk2)
  have HXL := keep (show x2 = xbs.length from HX.out.bs.len)
  have HN := keep hn
  have H0 := keep h0
  have HT := keep (And.intro ht hs)
  have HR : Hid ((0 ≤ M.st ∧ M.st < 65536) ∧ (0 ≤ ssnOf M ssn ∧ ssnOf M ssn < 65536) ∧ (0 ≤ M.pp ∧ M.pp < 4294967296)) := by
    obtain ⟨e1, e2, e3, e4⟩ := HMst.out
    refine keep ⟨by rw [e1]; exact HX.out.st, ?_, by rw [e3]; exact HX.out.pp⟩
    unfold ssnOf
    split
    · decide
    · exact hs
  clear hk hk2 hn h0 ht hs
  cases xu
  · gi_wp2_with (gi_at_call 64; refine (callsIn_wide.2 (pieces_any _ _ _ k _)).mono ?_; rintro e w' ⟨rfl, rfl⟩)
    generalize hW0 : World.alloc _ _ = W0
    have I1 : SI w M tsn ssn k 0 W0 := by
      rw [← hW0]
      have h := I0.out (.cells (MX.cells ⟨xs, M.un, xp, (x1, x2, x3), xbs⟩).toArray 33) (.slice x1 x2 x3)
      obtain ⟨e1, e2, e3, e4⟩ := HMst.out
      rw [e1, e3] at h
      simp only [ssnOf, e2, if_false, Bool.false_eq_true, MX.cells] at h
      exact h
    have b3 : Boxed W0 (w.heap.size + 1 + 1 + 1 + 1) 31 (.slice x1 x2 x3) := by
      rw [← hW0]
      exact Boxed.alloc (heap_new_at_sp (by simp)) _
    have hs0 : W0.heap.size = w.heap.size + 1 + 1 + 1 + 1 + 1 + 1 := by rw [← hW0]; simp
    have bm : W0.cell? ⟨w.heap.size + 1 + 1 + 1 + 1 + 1, 0, none⟩ = some (.int .i64 (k : Int)) := by
      obtain ⟨_, _, _, _, _, _, h, _⟩ := I1
      exact h.bm.cell
    clear hW0 I0 q0 q0' q1 q2 q3
    refine rangeFunc_all (n := 3) rfl (by omega) (gf := 101) (lb := #[.pointer (some ⟨w.heap.size + 1 + 1 + 1 + 1, 0, none⟩), .pointer (some ⟨w.heap.size + 1 + 1 + 1 + 1 + 1, 0, none⟩)]) rfl trivial (enters_of Tryz.func101 (by kernel_rfl) rfl) (encs := encI) (fun _ => rfl)
      (fun A B => Below A.heap.size A B) (Kp w (w.heap.size + 1 + 1 + 1 + 1 + 1) k) (fun xs y _ => AtHand w k xbs xs y) (fun xs => xs.length = cnt k xbs.length) (fun xs W => SI w M tsn ssn k xs.length W)
      (fun ys X l o o' hl ho hc h => h.put o' (by omega) ho hc)
      (fun W X l o o' hl ho hc h => ⟨fun hb => (h.1 hb).grown (grownBy_putObj' X l o') (h.1 hb).size fun k e => by cases e; omega, fun hc => (World.cell?_of_block (World.putObj_heap_other (show w.heap.size + 1 + 1 + 1 + 1 + 1 ≠ l by omega))).trans (h.2 hc)⟩)
      (fun X Y hs k o _ hk ho => (hs.block k (Array.getElem?_eq_some_iff.1 hk).1).trans hk)
      (fun ys X Y h hs => h.step hs)
      (fun l K W hW hK hY h0 => pieces1_in l _ _ x1 x2 x3 k xbs w HX.out.bs (by have := HXL.out; have := HN.out; omega) (by have := HXL.out; have := H0.out; omega) HQ.out.1 HQ.out.2 K W (up I1.below hW) ((hW.cell (p := ⟨w.heap.size + 1 + 1 + 1 + 1, 0, none⟩) (by show w.heap.size + 1 + 1 + 1 + 1 < W0.heap.size; omega)).trans b3.cell) ((hW.cell (p := ⟨w.heap.size + 1 + 1 + 1 + 1 + 1, 0, none⟩) (by show w.heap.size + 1 + 1 + 1 + 1 + 1 < W0.heap.size; omega)).trans bm) hK hY h0)
      (fun o₁ o₂ => I1.step (lay2 W0 o₁ o₂)) ?round ?done
    case round =>
      rintro l ys ⟨p, pa, pn, pc, pbs⟩ W hl hJ hX
      simp only [Array.zip, encI]
      gi_wp2
      refine ⟨KeepsFrom.refl _ _, fun o o' ho hoc => ?_⟩
      have J2 := hJ.put o' (by omega) ho hoc
      generalize W.putObj l o' = W2 at J2 ⊢
      obtain ⟨fl, da, bs0, A, c, lst, HJ, hmap⟩ := J2
      obtain ⟨f, hf⟩ : ∃ f : Int, (if M.un = true then (4 : Int) else 0) = f := ⟨_, rfl⟩
      rw [hf] at HJ
      obtain ⟨g, hor, hg⟩ : ∃ g : Int, bits BinOp.or IntKind.u8 p f = g ∧ g = flg M.un (cnt k xbs.length) ys.length := ⟨_, by rw [← hf, show p = plc (cnt k xbs.length) ys.length from hX.pl]; exact or_flg _ _ _, rfl⟩
      obtain ⟨hpn, hpc, hpb⟩ := hX.bs
      dsimp only at hpn hpc hpb
      have hlt := hX.lt
      have hda : pbs = piece k xbs ys.length := hX.da
      have hi1 : ys.length * k < xbs.length := (cnt_le HQ.out.1).1 hlt
      have hpos : 0 < pbs.length := by
        rw [hda]
        unfold piece
        rw [List.length_take, List.length_drop]
        have := HQ.out.1
        omega
      have hpn2 : pn ≤ 1172 := by
        rw [hpn, hda]
        unfold piece
        rw [List.length_take]
        have := HQ.out.2
        omega
      have hcn : ys.length < 2000 := by
        have := cnt_le_n (k := k) (n := xbs.length) HQ.out.1
        have := HN.out
        omega
      obtain ⟨b, o9, rfl⟩ : ∃ b o9, pa = some ⟨b, o9, none⟩ := by
        obtain ⟨b, o9, e, _⟩ := hpb (by intro h0; have := bc_length pbs; rw [h0] at this; simp at this; omega)
        exact ⟨b, o9, e⟩
      have KC := fun (W' : World) (hb : Below w.heap.size w W') => clone_any b o9 pn pc pbs W' (BS.step ⟨hpn, hpc, hpb⟩ hb) (by omega)
      replace KC := keep KC
      have HM := keep (show lst.map CX.ch = _ from hmap)
      have HG := keep (And.intro hg (And.intro hda (And.intro hpn (And.intro hcn hlt))))
      have J3 := keep HJ
      have HFF := keep hf
      have HB2 := keep HJ.below.drew
      obtain ⟨⟨c0, c1, c2, c3, c4, c5, c6, c7, c8, c9, c10, c11⟩, g1, g2, g11⟩ := HJ.c.all
      have fr := HJ.fr.cell
      dsimp only [nilS] at c0 c1 c2 c3 c4 c5 c6 c7 c8 c9 c10 c11
      have F2 : Fence.wide.fn 65 := trivial
      clear hX hJ ho hoc hpn hpc hpb hlt hda hi1 hpos hpn2 hcn hmap hg hf HJ
      gi_wp2
      refine wpIn_region_round hmix (by kernel_rfl) ?_
      refine wpAnyIn_take (i := 0) (oi := ⟨some 49, _, _, _, _, _⟩) (v := ?vr1x0) rfl rfl (by kernel_rfl) (by kernel_rfl) (by kernel_rfl) (fun _ _ _ h => h) ⟨Or.inl ⟨by rfl, ?hyr1x0⟩, fun _ => rfl⟩ ?restr1x0
      case hyr1x0 => (intro wz; go_simp <;> try with_reducible rfl)
      try simp only [aP, lA, lZ, lS]
      refine wpAnyIn_take (i := 3) (oi := ⟨some 52, _, _, _, _, _⟩) (v := ?vr2x3) rfl rfl (by kernel_rfl) (by kernel_rfl) (by kernel_rfl) (fun _ _ _ h => h) ⟨Or.inl ⟨by rfl, ?hyr2x3⟩, fun _ => rfl⟩ ?restr2x3
      case hyr2x3 => (intro wz; go_simp <;> try with_reducible rfl)
      try simp only [aP, lA, lZ, lS]
      refine wpAnyIn_ready (rs := [1, 4]) (by kernel_rfl) (by simp) (AllReadyIn.cons (o := ⟨some 50, _, _, _, _, _⟩) rfl (fun K hK => ?_) (AllReadyIn.cons (o := ⟨some 53, _, _, _, _, _⟩) rfl (fun K hK => ?_) AllReadyIn.nil))
      go_simp
      refine hK _ _ ?_
      clear hK K
      try simp only [aP, lA, lZ, lS]
      refine wpAnyIn_take (i := 2) (oi := ⟨some 51, _, _, _, _, _⟩) (v := ?vr3x2) rfl rfl (by kernel_rfl) (by kernel_rfl) (by kernel_rfl) (fun _ _ _ h => h) ⟨Or.inl ⟨by rfl, ?hyr3x2⟩, fun _ => rfl⟩ ?restr3x2
      case hyr3x2 => (intro wz; go_simp <;> try with_reducible rfl)
      try simp only [aP, lA, lZ, lS]
      refine wpAnyIn_take (i := 5) (oi := ⟨some 54, _, _, _, _, _⟩) (v := ?vr4x5) rfl rfl (by kernel_rfl) (by kernel_rfl) (by kernel_rfl) (fun _ _ _ h => h) ⟨Or.inl ⟨by rfl, ?hyr4x5⟩, fun _ => rfl⟩ ?restr4x5
      case hyr4x5 => (intro wz; go_simp <;> try with_reducible rfl)
      try simp only [aP, lA, lZ, lS]
      refine wpAnyIn_ready (rs := [4]) (by kernel_rfl) (by simp) (AllReadyIn.cons (o := ⟨some 53, _, _, _, _, _⟩) rfl (fun K hK => ?_) AllReadyIn.nil)
      go_simp
      gi_at_call 65
      refine (callsIn_wide.2 (KC.out _ HB2.out)).mono ?_
      rintro e w1 ⟨A1, n1, cc1, rfl, hs1, hb1, ho1⟩
      have J4 := keep (J3.out.drew.step hb1)
      clear c0 c1 c2 c3 c4 c5 c6 c7 c8 c9 c10 c11 g1 g2 g11 fr
      obtain ⟨⟨c0, c1, c2, c3, c4, c5, c6, c7, c8, c9, c10, c11⟩, g1, g2, g11⟩ := J4.out.c.all
      have fr := J4.out.fr.cell
      dsimp only [nilS] at c0 c1 c2 c3 c4 c5 c6 c7 c8 c9 c10 c11
      have HO1 := keep (And.intro hs1 (And.intro (TY.own ho1.out) (KeepsOthers.of_below hb1)))
      clear hs1 hb1 ho1
      focus gi_wp2
      try simp only [aP, lA, lZ, lS]
      refine wpAnyIn_ready (rs := [6]) (by kernel_rfl) (by simp) (AllReadyIn.cons (o := ⟨none, _, _, _, _, _⟩) rfl (fun K hK => ?_) AllReadyIn.nil)
      go_simp
      refine hK _ _ ?_
      clear hK K
      try simp only [aP, lA, lZ, lS]
      refine wpAnyIn_take (i := 7) (oi := ⟨some 55, _, _, _, _, _⟩) (v := ?vr5x7) rfl rfl (by kernel_rfl) (by kernel_rfl) (by kernel_rfl) (fun _ _ _ h => h) ⟨Or.inl ⟨by rfl, ?hyr5x7⟩, fun _ => rfl⟩ ?restr5x7
      case hyr5x7 => (intro wz; go_simp <;> try with_reducible rfl)
      try simp only [aP, lA, lZ, lS]
      refine wpAnyIn_ready (rs := [8]) (by kernel_rfl) (by simp) (AllReadyIn.cons (o := ⟨none, _, _, _, _, _⟩) rfl (fun K hK => ?_) AllReadyIn.nil)
      go_simp
      refine hK _ _ ?_
      clear hK K
      try simp only [aP, lA, lZ, lS]
      refine wpAnyIn_done (by kernel_rfl) ?_ _
      rotate_left
      go_simp
      gi_at_call 65
      refine (callsIn_wide.2 (KC.out _ HB2.out)).mono ?_
      rintro e w1 ⟨A1, n1, cc1, rfl, hs1, hb1, ho1⟩
      have J4 := keep (J3.out.drew.step hb1)
      clear c0 c1 c2 c3 c4 c5 c6 c7 c8 c9 c10 c11 g1 g2 g11 fr
      obtain ⟨⟨c0, c1, c2, c3, c4, c5, c6, c7, c8, c9, c10, c11⟩, g1, g2, g11⟩ := J4.out.c.all
      have fr := J4.out.fr.cell
      dsimp only [nilS] at c0 c1 c2 c3 c4 c5 c6 c7 c8 c9 c10 c11
      have HO1 := keep (And.intro hs1 (And.intro (TY.own ho1.out) (KeepsOthers.of_below hb1)))
      clear hs1 hb1 ho1
      focus gi_wp2
      try simp only [aP, lA, lZ, lS]
      refine wpAnyIn_ready (rs := [1]) (by kernel_rfl) (by simp) (AllReadyIn.cons (o := ⟨some 50, _, _, _, _, _⟩) rfl (fun K hK => ?_) AllReadyIn.nil)
      go_simp
      refine hK _ _ ?_
      clear hK K
      try simp only [aP, lA, lZ, lS]
      refine wpAnyIn_take (i := 2) (oi := ⟨some 51, _, _, _, _, _⟩) (v := ?vr6x2) rfl rfl (by kernel_rfl) (by kernel_rfl) (by kernel_rfl) (fun _ _ _ h => h) ⟨Or.inl ⟨by rfl, ?hyr6x2⟩, fun _ => rfl⟩ ?restr6x2
      case hyr6x2 => (intro wz; go_simp <;> try with_reducible rfl)
      try simp only [aP, lA, lZ, lS]
      refine wpAnyIn_take (i := 5) (oi := ⟨some 54, _, _, _, _, _⟩) (v := ?vr7x5) rfl rfl (by kernel_rfl) (by kernel_rfl) (by kernel_rfl) (fun _ _ _ h => h) ⟨Or.inl ⟨by rfl, ?hyr7x5⟩, fun _ => rfl⟩ ?restr7x5
      case hyr7x5 => (intro wz; go_simp <;> try with_reducible rfl)
      try simp only [aP, lA, lZ, lS]
      refine wpAnyIn_ready (rs := [6]) (by kernel_rfl) (by simp) (AllReadyIn.cons (o := ⟨none, _, _, _, _, _⟩) rfl (fun K hK => ?_) AllReadyIn.nil)
      go_simp
      refine hK _ _ ?_
      clear hK K
      try simp only [aP, lA, lZ, lS]
      refine wpAnyIn_take (i := 7) (oi := ⟨some 55, _, _, _, _, _⟩) (v := ?vr8x7) rfl rfl (by kernel_rfl) (by kernel_rfl) (by kernel_rfl) (fun _ _ _ h => h) ⟨Or.inl ⟨by rfl, ?hyr8x7⟩, fun _ => rfl⟩ ?restr8x7
      case hyr8x7 => (intro wz; go_simp <;> try with_reducible rfl)
      try simp only [aP, lA, lZ, lS]
      refine wpAnyIn_ready (rs := [8]) (by kernel_rfl) (by simp) (AllReadyIn.cons (o := ⟨none, _, _, _, _, _⟩) rfl (fun K hK => ?_) AllReadyIn.nil)
      go_simp
      refine hK _ _ ?_
      clear hK K
      try simp only [aP, lA, lZ, lS]
      refine wpAnyIn_done (by kernel_rfl) ?_ _
      all_goals
        have J5 := keep ((J4.out.field (cy := ⟨0, g, (tsn + ys.length) % 4294967296, 0, M.st, ssnOf M ssn, M.pp, nilS, nilS, nilS, nilS, da, [], bs0⟩) 1 (.int .u8 g) rfl).field (cy := ⟨0, g, (tsn + ys.length) % 4294967296, 0, M.st, ssnOf M ssn, M.pp, nilS, nilS, nilS, nilS, (A1, n1, cc1), [], pbs⟩) 11 (.slice A1 n1 cc1) rfl)
        have HO2 := keep (((KeepsOthers.drew W2).trans HO1.out.2.2).trans ((KeepsOthers.setCell w1 ⟨w.heap.size + 1, 1, none⟩ (.int .u8 g)).trans (KeepsOthers.setCell _ ⟨w.heap.size + 1, 11, none⟩ (.slice A1 n1 cc1))))
        have U5 : U8 w1 ((w1.setCell ⟨w.heap.size + 1, 1, none⟩ (.int .u8 g)).setCell ⟨w.heap.size + 1, 11, none⟩ (.slice A1 n1 cc1)) := by
          have J45 := J4.out.field (cy := ⟨0, g, (tsn + ys.length) % 4294967296, 0, M.st, ssnOf M ssn, M.pp, nilS, nilS, nilS, nilS, da, [], bs0⟩) 1 (.int .u8 g) rfl
          exact (U8.grown (grown_set_sp w1 (w.heap.size + 1) 1 (.int .u8 g)) fun r er => by cases er; exact ⟨_, _, _, J4.out.c, by decide⟩).trans (U8.grown (grown_set_sp _ (w.heap.size + 1) 11 (.slice A1 n1 cc1)) fun r er => by cases er; exact ⟨_, _, _, J45.c, by decide⟩)
        have HP := keep (And.intro (U5.bs HO1.out.2.1 HO1.out.1) (U5.ty HO1.out.2.1))
        clear U5 HO1 J4 c0 c1 c2 c3 c4 c5 c6 c7 c8 c9 c10 c11 g1 g2 g11 fr
        generalize World.setCell _ _ _ = W3 at J5 HO2 HP ⊢
        obtain ⟨⟨c0, c1, c2, c3, c4, c5, c6, c7, c8, c9, c10, c11⟩, g1, g2, g11⟩ := J5.out.c.all
        have fl0 := J5.out.l.cell
        have ffl := J5.out.l.frozen
        dsimp only [nilS] at c0 c1 c2 c3 c4 c5 c6 c7 c8 c9 c10 c11
        have HPC : Hid (PC W3 ⟨0, g, (tsn + ys.length) % 4294967296, 0, M.st, ssnOf M ssn, M.pp, nilS, nilS, nilS, nilS, (A1, n1, cc1), [], pbs⟩) := by
          refine keep ⟨⟨(show (0 : Int) ≤ 0 ∧ (0 : Int) < 256 by decide), ?_, u32_in _, (show (0 : Int) ≤ 0 ∧ (0 : Int) < 4294967296 by decide), HR.out.1, HR.out.2.1, HR.out.2.2, ⟨rfl, Nat.le_refl _, SR.nil _ _⟩, HP.out.1⟩, ⟨rfl, rfl, rfl, rfl⟩, HP.out.2⟩
          have := flg_in M.un (cnt k xbs.length) ys.length
          have h2 := HG.out.1
          dsimp only
          omega
        have HOWN := keep (J5.out.row.alloc (.cells (CX.cells ⟨0, g, (tsn + ys.length) % 4294967296, 0, M.st, ssnOf M ssn, M.pp, nilS, nilS, nilS, nilS, (A1, n1, cc1), [], pbs⟩).toArray 41))
        gi_wp2_with (first
          | (gi_at_builtin; refine wpListIn_append_own _ rfl _ _ 34 rfl (w.heap.size + 1 + 1 + 1 + 1) 41 i0 (.agg #[.int .u8 0, .int .u8 0, .int .u32 0, .int .u32 0, .int .u16 0, .int .u16 0, .int .u32 0, .slice none 0 0, .slice none 0 0, .slice none 0 0, .slice none 0 0, .slice none 0 0]) 12 144 Tryz.underlying34 hi hz0 hz1 hz2 rfl (by decide) _ _ _ rfl HOWN.out ⟨W3.heap.size, 0, none⟩ 1 1 (CX.cells ⟨0, g, (tsn + ys.length) % 4294967296, 0, M.st, ssnOf M ssn, M.pp, nilS, nilS, nilS, nilS, (A1, n1, cc1), [], pbs⟩) rfl rfl (cells_new_sp W3 _ _) (CX.one _) (by have := HG.out.2.2.2.1; unfold maxLen; omega) (by have := HG.out.2.2.2.1; omega) (by have := J5.out.bm.lt; simp; omega) ?_
             intro v' w4 hown' hgrow _
             obtain ⟨g', cap', rfl⟩ := ownsRow_succ hown'
             have HA := J5.out.app HPC.out hown' hgrow
             obtain ⟨lb, cb, J6, HO6⟩ := HA
             clear c0 c1 c2 c3 c4 c5 c6 c7 c8 c9 c10 c11 g1 g2 g11 fl0 ffl
             have fl0 := lb.cell
             have ffl := lb.frozen
             obtain ⟨⟨c0, c1, c2, c3, c4, c5, c6, c7, c8, c9, c10, c11⟩, g1, g2, g11⟩ := cb.all
             dsimp only [nilS] at c0 c1 c2 c3 c4 c5 c6 c7 c8 c9 c10 c11
             have J7 := keep J6
             have HO7 := keep (HO2.out.trans HO6)
             clear hown' hgrow lb cb J6 HO6 HOWN))
        have J8 := J7.out.field (cy := ⟨0, g, (tsn + ys.length + 1) % 4294967296, 0, M.st, ssnOf M ssn, M.pp, nilS, nilS, nilS, nilS, (A1, n1, cc1), [], pbs⟩) 2 (.int .u32 ((tsn + ys.length + 1) % 4294967296)) rfl
        have e1 : (tsn + ((ys.length + 1 : Nat) : Int)) % 4294967296 = (tsn + ys.length + 1) % 4294967296 := by
          rw [Int.natCast_add, ← Int.add_assoc]
          rfl
        refine ⟨(HO7.out.trans (KeepsOthers.setCell _ _ _)).from _, ⟨fun _ => J8.below, fun _ => J8.bm.cell⟩, ?_⟩
        show SI w M tsn ssn k (ys ++ [_]).length _
        rw [List.length_append, List.length_singleton]
        refine ⟨g, (A1, n1, cc1), pbs, some ⟨g', 0, none⟩, cap', lst ++ [⟨0, g, (tsn + ys.length) % 4294967296, 0, M.st, ssnOf M ssn, M.pp, nilS, nilS, nilS, nilS, (A1, n1, cc1), [], pbs⟩], ?_, ?_⟩
        · rw [e1, HFF.out]
          exact J8
        · rw [List.map_append, HM.out, List.range_succ, List.map_append]
          have h1 := HG.out.1
          have h2 := HG.out.2.1
          have h3 := HMst.out.2.2.2
          simp only [List.map_cons, List.map_nil, CX.ch, chAt, h3, h1, ← h2]
    case done =>
      intro D ys W hD hS hJ hDd
      obtain ⟨fl, da, bs0, A, c, lst, HJ, hmap⟩ := hJ
      have fl0 := HJ.l.cell
      have HS := keep hS
      have HMp := keep (show lst.map CX.ch = _ from hmap)
      have J9 := keep HJ
      have HDD := keep (And.intro hD hDd)
      clear hS hmap HJ hD hDd
      gi_wp2
      refine ⟨by simp, .inl ⟨_, _, rfl, run_takeDeferred HDD.out.2, ?_⟩⟩
      have Jz := J9.out.put (.deferred none) (show w.heap.size ≤ D by have := HDD.out.1; omega) HDD.out.2 rfl
      refine ⟨_, results_tmp2 rfl _ _ _, ?_⟩
      have h3 := HMst.out.2.2.2
      have hN : cnt k M.da.length = ys.length := by rw [h3, HS.out]
      exact ⟨A, c, lst, by rw [hN]; rfl, by rw [hN]; exact CS.of_own Jz.row fun y hy => (Jz.vs y hy).v, fun y hy => (Jz.vs y hy).p, by rw [HMp.out]; unfold splitL; rw [hN], Jz.below, by rw [hN]; exact own_mono Jz.row (by omega), fun y hy => (Jz.vs y hy).t⟩
  · gi_wp2_with (gi_at_call 64; refine (callsIn_wide.2 (pieces_any _ _ _ k _)).mono ?_; rintro e w' ⟨rfl, rfl⟩)
    generalize hW0 : World.alloc _ _ = W0
    have I1 : SI w M tsn ssn k 0 W0 := by
      rw [← hW0]
      have h := I0.out (.cells (MX.cells ⟨xs, M.un, xp, (x1, x2, x3), xbs⟩).toArray 33) (.slice x1 x2 x3)
      obtain ⟨e1, e2, e3, e4⟩ := HMst.out
      rw [e1, e3] at h
      simp only [ssnOf, e2, if_true, MX.cells] at h
      exact h
    have b3 : Boxed W0 (w.heap.size + 1 + 1 + 1 + 1) 31 (.slice x1 x2 x3) := by
      rw [← hW0]
      exact Boxed.alloc (heap_new_at_sp (by simp)) _
    have hs0 : W0.heap.size = w.heap.size + 1 + 1 + 1 + 1 + 1 + 1 := by rw [← hW0]; simp
    have bm : W0.cell? ⟨w.heap.size + 1 + 1 + 1 + 1 + 1, 0, none⟩ = some (.int .i64 (k : Int)) := by
      obtain ⟨_, _, _, _, _, _, h, _⟩ := I1
      exact h.bm.cell
    clear hW0 I0 q0 q0' q1 q2 q3
    refine rangeFunc_all (n := 3) rfl (by omega) (gf := 101) (lb := #[.pointer (some ⟨w.heap.size + 1 + 1 + 1 + 1, 0, none⟩), .pointer (some ⟨w.heap.size + 1 + 1 + 1 + 1 + 1, 0, none⟩)]) rfl trivial (enters_of Tryz.func101 (by kernel_rfl) rfl) (encs := encI) (fun _ => rfl)
      (fun A B => Below A.heap.size A B) (Kp w (w.heap.size + 1 + 1 + 1 + 1 + 1) k) (fun xs y _ => AtHand w k xbs xs y) (fun xs => xs.length = cnt k xbs.length) (fun xs W => SI w M tsn ssn k xs.length W)
      (fun ys X l o o' hl ho hc h => h.put o' (by omega) ho hc)
      (fun W X l o o' hl ho hc h => ⟨fun hb => (h.1 hb).grown (grownBy_putObj' X l o') (h.1 hb).size fun k e => by cases e; omega, fun hc => (World.cell?_of_block (World.putObj_heap_other (show w.heap.size + 1 + 1 + 1 + 1 + 1 ≠ l by omega))).trans (h.2 hc)⟩)
      (fun X Y hs k o _ hk ho => (hs.block k (Array.getElem?_eq_some_iff.1 hk).1).trans hk)
      (fun ys X Y h hs => h.step hs)
      (fun l K W hW hK hY h0 => pieces1_in l _ _ x1 x2 x3 k xbs w HX.out.bs (by have := HXL.out; have := HN.out; omega) (by have := HXL.out; have := H0.out; omega) HQ.out.1 HQ.out.2 K W (up I1.below hW) ((hW.cell (p := ⟨w.heap.size + 1 + 1 + 1 + 1, 0, none⟩) (by show w.heap.size + 1 + 1 + 1 + 1 < W0.heap.size; omega)).trans b3.cell) ((hW.cell (p := ⟨w.heap.size + 1 + 1 + 1 + 1 + 1, 0, none⟩) (by show w.heap.size + 1 + 1 + 1 + 1 + 1 < W0.heap.size; omega)).trans bm) hK hY h0)
      (fun o₁ o₂ => I1.step (lay2 W0 o₁ o₂)) ?round ?done
    case round =>
      rintro l ys ⟨p, pa, pn, pc, pbs⟩ W hl hJ hX
      simp only [Array.zip, encI]
      gi_wp2
      refine ⟨KeepsFrom.refl _ _, fun o o' ho hoc => ?_⟩
      have J2 := hJ.put o' (by omega) ho hoc
      generalize W.putObj l o' = W2 at J2 ⊢
      obtain ⟨fl, da, bs0, A, c, lst, HJ, hmap⟩ := J2
      obtain ⟨f, hf⟩ : ∃ f : Int, (if M.un = true then (4 : Int) else 0) = f := ⟨_, rfl⟩
      rw [hf] at HJ
      obtain ⟨g, hor, hg⟩ : ∃ g : Int, bits BinOp.or IntKind.u8 p f = g ∧ g = flg M.un (cnt k xbs.length) ys.length := ⟨_, by rw [← hf, show p = plc (cnt k xbs.length) ys.length from hX.pl]; exact or_flg _ _ _, rfl⟩
      obtain ⟨hpn, hpc, hpb⟩ := hX.bs
      dsimp only at hpn hpc hpb
      have hlt := hX.lt
      have hda : pbs = piece k xbs ys.length := hX.da
      have hi1 : ys.length * k < xbs.length := (cnt_le HQ.out.1).1 hlt
      have hpos : 0 < pbs.length := by
        rw [hda]
        unfold piece
        rw [List.length_take, List.length_drop]
        have := HQ.out.1
        omega
      have hpn2 : pn ≤ 1172 := by
        rw [hpn, hda]
        unfold piece
        rw [List.length_take]
        have := HQ.out.2
        omega
      have hcn : ys.length < 2000 := by
        have := cnt_le_n (k := k) (n := xbs.length) HQ.out.1
        have := HN.out
        omega
      obtain ⟨b, o9, rfl⟩ : ∃ b o9, pa = some ⟨b, o9, none⟩ := by
        obtain ⟨b, o9, e, _⟩ := hpb (by intro h0; have := bc_length pbs; rw [h0] at this; simp at this; omega)
        exact ⟨b, o9, e⟩
      have KC := fun (W' : World) (hb : Below w.heap.size w W') => clone_any b o9 pn pc pbs W' (BS.step ⟨hpn, hpc, hpb⟩ hb) (by omega)
      replace KC := keep KC
      have HM := keep (show lst.map CX.ch = _ from hmap)
      have HG := keep (And.intro hg (And.intro hda (And.intro hpn (And.intro hcn hlt))))
      have J3 := keep HJ
      have HFF := keep hf
      have HB2 := keep HJ.below.drew
      obtain ⟨⟨c0, c1, c2, c3, c4, c5, c6, c7, c8, c9, c10, c11⟩, g1, g2, g11⟩ := HJ.c.all
      have fr := HJ.fr.cell
      dsimp only [nilS] at c0 c1 c2 c3 c4 c5 c6 c7 c8 c9 c10 c11
      have F2 : Fence.wide.fn 65 := trivial
      clear hX hJ ho hoc hpn hpc hpb hlt hda hi1 hpos hpn2 hcn hmap hg hf HJ
      gi_wp2
      refine wpIn_region_round hmix (by kernel_rfl) ?_
      refine wpAnyIn_take (i := 0) (oi := ⟨some 49, _, _, _, _, _⟩) (v := ?vs1x0) rfl rfl (by kernel_rfl) (by kernel_rfl) (by kernel_rfl) (fun _ _ _ h => h) ⟨Or.inl ⟨by rfl, ?hys1x0⟩, fun _ => rfl⟩ ?rests1x0
      case hys1x0 => (intro wz; go_simp <;> try with_reducible rfl)
      try simp only [aP, lA, lZ, lS]
      refine wpAnyIn_take (i := 3) (oi := ⟨some 52, _, _, _, _, _⟩) (v := ?vs2x3) rfl rfl (by kernel_rfl) (by kernel_rfl) (by kernel_rfl) (fun _ _ _ h => h) ⟨Or.inl ⟨by rfl, ?hys2x3⟩, fun _ => rfl⟩ ?rests2x3
      case hys2x3 => (intro wz; go_simp <;> try with_reducible rfl)
      try simp only [aP, lA, lZ, lS]
      refine wpAnyIn_ready (rs := [1, 4]) (by kernel_rfl) (by simp) (AllReadyIn.cons (o := ⟨some 50, _, _, _, _, _⟩) rfl (fun K hK => ?_) (AllReadyIn.cons (o := ⟨some 53, _, _, _, _, _⟩) rfl (fun K hK => ?_) AllReadyIn.nil))
      go_simp
      refine hK _ _ ?_
      clear hK K
      try simp only [aP, lA, lZ, lS]
      refine wpAnyIn_take (i := 2) (oi := ⟨some 51, _, _, _, _, _⟩) (v := ?vs3x2) rfl rfl (by kernel_rfl) (by kernel_rfl) (by kernel_rfl) (fun _ _ _ h => h) ⟨Or.inl ⟨by rfl, ?hys3x2⟩, fun _ => rfl⟩ ?rests3x2
      case hys3x2 => (intro wz; go_simp <;> try with_reducible rfl)
      try simp only [aP, lA, lZ, lS]
      refine wpAnyIn_take (i := 5) (oi := ⟨some 54, _, _, _, _, _⟩) (v := ?vs4x5) rfl rfl (by kernel_rfl) (by kernel_rfl) (by kernel_rfl) (fun _ _ _ h => h) ⟨Or.inl ⟨by rfl, ?hys4x5⟩, fun _ => rfl⟩ ?rests4x5
      case hys4x5 => (intro wz; go_simp <;> try with_reducible rfl)
      try simp only [aP, lA, lZ, lS]
      refine wpAnyIn_ready (rs := [4]) (by kernel_rfl) (by simp) (AllReadyIn.cons (o := ⟨some 53, _, _, _, _, _⟩) rfl (fun K hK => ?_) AllReadyIn.nil)
      go_simp
      gi_at_call 65
      refine (callsIn_wide.2 (KC.out _ HB2.out)).mono ?_
      rintro e w1 ⟨A1, n1, cc1, rfl, hs1, hb1, ho1⟩
      have J4 := keep (J3.out.drew.step hb1)
      clear c0 c1 c2 c3 c4 c5 c6 c7 c8 c9 c10 c11 g1 g2 g11 fr
      obtain ⟨⟨c0, c1, c2, c3, c4, c5, c6, c7, c8, c9, c10, c11⟩, g1, g2, g11⟩ := J4.out.c.all
      have fr := J4.out.fr.cell
      dsimp only [nilS] at c0 c1 c2 c3 c4 c5 c6 c7 c8 c9 c10 c11
      have HO1 := keep (And.intro hs1 (And.intro (TY.own ho1.out) (KeepsOthers.of_below hb1)))
      clear hs1 hb1 ho1
      focus gi_wp2
      try simp only [aP, lA, lZ, lS]
      refine wpAnyIn_ready (rs := [6]) (by kernel_rfl) (by simp) (AllReadyIn.cons (o := ⟨none, _, _, _, _, _⟩) rfl (fun K hK => ?_) AllReadyIn.nil)
      go_simp
      refine hK _ _ ?_
      clear hK K
      try simp only [aP, lA, lZ, lS]
      refine wpAnyIn_take (i := 7) (oi := ⟨some 55, _, _, _, _, _⟩) (v := ?vs5x7) rfl rfl (by kernel_rfl) (by kernel_rfl) (by kernel_rfl) (fun _ _ _ h => h) ⟨Or.inl ⟨by rfl, ?hys5x7⟩, fun _ => rfl⟩ ?rests5x7
      case hys5x7 => (intro wz; go_simp <;> try with_reducible rfl)
      try simp only [aP, lA, lZ, lS]
      refine wpAnyIn_ready (rs := [8]) (by kernel_rfl) (by simp) (AllReadyIn.cons (o := ⟨none, _, _, _, _, _⟩) rfl (fun K hK => ?_) AllReadyIn.nil)
      go_simp
      refine hK _ _ ?_
      clear hK K
      try simp only [aP, lA, lZ, lS]
      refine wpAnyIn_done (by kernel_rfl) ?_ _
      rotate_left
      go_simp
      gi_at_call 65
      refine (callsIn_wide.2 (KC.out _ HB2.out)).mono ?_
      rintro e w1 ⟨A1, n1, cc1, rfl, hs1, hb1, ho1⟩
      have J4 := keep (J3.out.drew.step hb1)
      clear c0 c1 c2 c3 c4 c5 c6 c7 c8 c9 c10 c11 g1 g2 g11 fr
      obtain ⟨⟨c0, c1, c2, c3, c4, c5, c6, c7, c8, c9, c10, c11⟩, g1, g2, g11⟩ := J4.out.c.all
      have fr := J4.out.fr.cell
      dsimp only [nilS] at c0 c1 c2 c3 c4 c5 c6 c7 c8 c9 c10 c11
      have HO1 := keep (And.intro hs1 (And.intro (TY.own ho1.out) (KeepsOthers.of_below hb1)))
      clear hs1 hb1 ho1
      focus gi_wp2
      try simp only [aP, lA, lZ, lS]
      refine wpAnyIn_ready (rs := [1]) (by kernel_rfl) (by simp) (AllReadyIn.cons (o := ⟨some 50, _, _, _, _, _⟩) rfl (fun K hK => ?_) AllReadyIn.nil)
      go_simp
      refine hK _ _ ?_
      clear hK K
      try simp only [aP, lA, lZ, lS]
      refine wpAnyIn_take (i := 2) (oi := ⟨some 51, _, _, _, _, _⟩) (v := ?vs6x2) rfl rfl (by kernel_rfl) (by kernel_rfl) (by kernel_rfl) (fun _ _ _ h => h) ⟨Or.inl ⟨by rfl, ?hys6x2⟩, fun _ => rfl⟩ ?rests6x2
      case hys6x2 => (intro wz; go_simp <;> try with_reducible rfl)
      try simp only [aP, lA, lZ, lS]
      refine wpAnyIn_take (i := 5) (oi := ⟨some 54, _, _, _, _, _⟩) (v := ?vs7x5) rfl rfl (by kernel_rfl) (by kernel_rfl) (by kernel_rfl) (fun _ _ _ h => h) ⟨Or.inl ⟨by rfl, ?hys7x5⟩, fun _ => rfl⟩ ?rests7x5
      case hys7x5 => (intro wz; go_simp <;> try with_reducible rfl)
      try simp only [aP, lA, lZ, lS]
      refine wpAnyIn_ready (rs := [6]) (by kernel_rfl) (by simp) (AllReadyIn.cons (o := ⟨none, _, _, _, _, _⟩) rfl (fun K hK => ?_) AllReadyIn.nil)
      go_simp
      refine hK _ _ ?_
      clear hK K
      try simp only [aP, lA, lZ, lS]
      refine wpAnyIn_take (i := 7) (oi := ⟨some 55, _, _, _, _, _⟩) (v := ?vs8x7) rfl rfl (by kernel_rfl) (by kernel_rfl) (by kernel_rfl) (fun _ _ _ h => h) ⟨Or.inl ⟨by rfl, ?hys8x7⟩, fun _ => rfl⟩ ?rests8x7
      case hys8x7 => (intro wz; go_simp <;> try with_reducible rfl)
      try simp only [aP, lA, lZ, lS]
      refine wpAnyIn_ready (rs := [8]) (by kernel_rfl) (by simp) (AllReadyIn.cons (o := ⟨none, _, _, _, _, _⟩) rfl (fun K hK => ?_) AllReadyIn.nil)
      go_simp
      refine hK _ _ ?_
      clear hK K
      try simp only [aP, lA, lZ, lS]
      refine wpAnyIn_done (by kernel_rfl) ?_ _
      all_goals
        have J5 := keep ((J4.out.field (cy := ⟨0, g, (tsn + ys.length) % 4294967296, 0, M.st, ssnOf M ssn, M.pp, nilS, nilS, nilS, nilS, da, [], bs0⟩) 1 (.int .u8 g) rfl).field (cy := ⟨0, g, (tsn + ys.length) % 4294967296, 0, M.st, ssnOf M ssn, M.pp, nilS, nilS, nilS, nilS, (A1, n1, cc1), [], pbs⟩) 11 (.slice A1 n1 cc1) rfl)
        have HO2 := keep (((KeepsOthers.drew W2).trans HO1.out.2.2).trans ((KeepsOthers.setCell w1 ⟨w.heap.size + 1, 1, none⟩ (.int .u8 g)).trans (KeepsOthers.setCell _ ⟨w.heap.size + 1, 11, none⟩ (.slice A1 n1 cc1))))
        have U5 : U8 w1 ((w1.setCell ⟨w.heap.size + 1, 1, none⟩ (.int .u8 g)).setCell ⟨w.heap.size + 1, 11, none⟩ (.slice A1 n1 cc1)) := by
          have J45 := J4.out.field (cy := ⟨0, g, (tsn + ys.length) % 4294967296, 0, M.st, ssnOf M ssn, M.pp, nilS, nilS, nilS, nilS, da, [], bs0⟩) 1 (.int .u8 g) rfl
          exact (U8.grown (grown_set_sp w1 (w.heap.size + 1) 1 (.int .u8 g)) fun r er => by cases er; exact ⟨_, _, _, J4.out.c, by decide⟩).trans (U8.grown (grown_set_sp _ (w.heap.size + 1) 11 (.slice A1 n1 cc1)) fun r er => by cases er; exact ⟨_, _, _, J45.c, by decide⟩)
        have HP := keep (And.intro (U5.bs HO1.out.2.1 HO1.out.1) (U5.ty HO1.out.2.1))
        clear U5 HO1 J4 c0 c1 c2 c3 c4 c5 c6 c7 c8 c9 c10 c11 g1 g2 g11 fr
        generalize World.setCell _ _ _ = W3 at J5 HO2 HP ⊢
        obtain ⟨⟨c0, c1, c2, c3, c4, c5, c6, c7, c8, c9, c10, c11⟩, g1, g2, g11⟩ := J5.out.c.all
        have fl0 := J5.out.l.cell
        have ffl := J5.out.l.frozen
        dsimp only [nilS] at c0 c1 c2 c3 c4 c5 c6 c7 c8 c9 c10 c11
        have HPC : Hid (PC W3 ⟨0, g, (tsn + ys.length) % 4294967296, 0, M.st, ssnOf M ssn, M.pp, nilS, nilS, nilS, nilS, (A1, n1, cc1), [], pbs⟩) := by
          refine keep ⟨⟨(show (0 : Int) ≤ 0 ∧ (0 : Int) < 256 by decide), ?_, u32_in _, (show (0 : Int) ≤ 0 ∧ (0 : Int) < 4294967296 by decide), HR.out.1, HR.out.2.1, HR.out.2.2, ⟨rfl, Nat.le_refl _, SR.nil _ _⟩, HP.out.1⟩, ⟨rfl, rfl, rfl, rfl⟩, HP.out.2⟩
          have := flg_in M.un (cnt k xbs.length) ys.length
          have h2 := HG.out.1
          dsimp only
          omega
        have HOWN := keep (J5.out.row.alloc (.cells (CX.cells ⟨0, g, (tsn + ys.length) % 4294967296, 0, M.st, ssnOf M ssn, M.pp, nilS, nilS, nilS, nilS, (A1, n1, cc1), [], pbs⟩).toArray 41))
        gi_wp2_with (first
          | (gi_at_builtin; refine wpListIn_append_own _ rfl _ _ 34 rfl (w.heap.size + 1 + 1 + 1 + 1) 41 i0 (.agg #[.int .u8 0, .int .u8 0, .int .u32 0, .int .u32 0, .int .u16 0, .int .u16 0, .int .u32 0, .slice none 0 0, .slice none 0 0, .slice none 0 0, .slice none 0 0, .slice none 0 0]) 12 144 Tryz.underlying34 hi hz0 hz1 hz2 rfl (by decide) _ _ _ rfl HOWN.out ⟨W3.heap.size, 0, none⟩ 1 1 (CX.cells ⟨0, g, (tsn + ys.length) % 4294967296, 0, M.st, ssnOf M ssn, M.pp, nilS, nilS, nilS, nilS, (A1, n1, cc1), [], pbs⟩) rfl rfl (cells_new_sp W3 _ _) (CX.one _) (by have := HG.out.2.2.2.1; unfold maxLen; omega) (by have := HG.out.2.2.2.1; omega) (by have := J5.out.bm.lt; simp; omega) ?_
             intro v' w4 hown' hgrow _
             obtain ⟨g', cap', rfl⟩ := ownsRow_succ hown'
             have HA := J5.out.app HPC.out hown' hgrow
             obtain ⟨lb, cb, J6, HO6⟩ := HA
             clear c0 c1 c2 c3 c4 c5 c6 c7 c8 c9 c10 c11 g1 g2 g11 fl0 ffl
             have fl0 := lb.cell
             have ffl := lb.frozen
             obtain ⟨⟨c0, c1, c2, c3, c4, c5, c6, c7, c8, c9, c10, c11⟩, g1, g2, g11⟩ := cb.all
             dsimp only [nilS] at c0 c1 c2 c3 c4 c5 c6 c7 c8 c9 c10 c11
             have J7 := keep J6
             have HO7 := keep (HO2.out.trans HO6)
             clear hown' hgrow lb cb J6 HO6 HOWN))
        have J8 := J7.out.field (cy := ⟨0, g, (tsn + ys.length + 1) % 4294967296, 0, M.st, ssnOf M ssn, M.pp, nilS, nilS, nilS, nilS, (A1, n1, cc1), [], pbs⟩) 2 (.int .u32 ((tsn + ys.length + 1) % 4294967296)) rfl
        have e1 : (tsn + ((ys.length + 1 : Nat) : Int)) % 4294967296 = (tsn + ys.length + 1) % 4294967296 := by
          rw [Int.natCast_add, ← Int.add_assoc]
          rfl
        refine ⟨(HO7.out.trans (KeepsOthers.setCell _ _ _)).from _, ⟨fun _ => J8.below, fun _ => J8.bm.cell⟩, ?_⟩
        show SI w M tsn ssn k (ys ++ [_]).length _
        rw [List.length_append, List.length_singleton]
        refine ⟨g, (A1, n1, cc1), pbs, some ⟨g', 0, none⟩, cap', lst ++ [⟨0, g, (tsn + ys.length) % 4294967296, 0, M.st, ssnOf M ssn, M.pp, nilS, nilS, nilS, nilS, (A1, n1, cc1), [], pbs⟩], ?_, ?_⟩
        · rw [e1, HFF.out]
          exact J8
        · rw [List.map_append, HM.out, List.range_succ, List.map_append]
          have h1 := HG.out.1
          have h2 := HG.out.2.1
          have h3 := HMst.out.2.2.2
          simp only [List.map_cons, List.map_nil, CX.ch, chAt, h3, h1, ← h2]
    case done =>
      intro D ys W hD hS hJ hDd
      obtain ⟨fl, da, bs0, A, c, lst, HJ, hmap⟩ := hJ
      have fl0 := HJ.l.cell
      have HS := keep hS
      have HMp := keep (show lst.map CX.ch = _ from hmap)
      have J9 := keep HJ
      have HDD := keep (And.intro hD hDd)
      clear hS hmap HJ hD hDd
      gi_wp2
      refine ⟨by simp, .inl ⟨_, _, rfl, run_takeDeferred HDD.out.2, ?_⟩⟩
      have Jz := J9.out.put (.deferred none) (show w.heap.size ≤ D by have := HDD.out.1; omega) HDD.out.2 rfl
      refine ⟨_, results_tmp2 rfl _ _ _, ?_⟩
      have h3 := HMst.out.2.2.2
      have hN : cnt k M.da.length = ys.length := by rw [h3, HS.out]
      exact ⟨A, c, lst, by rw [hN]; rfl, by rw [hN]; exact CS.of_own Jz.row fun y hy => (Jz.vs y hy).v, fun y hy => (Jz.vs y hy).p, by rw [HMp.out]; unfold splitL; rw [hN], Jz.below, by rw [hN]; exact own_mono Jz.row (by omega), fun y hy => (Jz.vs y hy).t⟩
end
section
open Go.RowKit
attribute [local go_sem] Oper.semAt_some
end
end Go.Proofs.YtnlkdlnmffibhaaGreat
