/- Package dcep: readHead. -/
import Derived.Test.YtapaiknghnbfmaaDoorD3
import Derived.Test.YtapaiknghnbfmaaDoorRd5
import Derived.Laws.ResultCell
namespace Go.Proofs.YtapaiknghnbfmaaDoor
open Go.RowKit
set_option linter.unusedVariables false

theorem Op_size : (Tryd.prog.info? 25).map (·.size) = some 5 := by kernel_rfl
/-- An opening's block, as it lies. -/
def SB (w : World) (g : Nat) (o : OV) : Prop := w.heap[g]? = some (.cells o.cells.toArray 25 (0, 0))
theorem SB.lt {w : World} {g : Nat} {o : OV} (h : SB w g o) : g < w.heap.size := (Array.getElem?_eq_some_iff.1 h).1
theorem SB.ob {w : World} {g : Nat} {o : OV} (h : SB w g o) : OB w g o := OB.of h
theorem SB.fz {w : World} {g : Nat} {o : OV} (h : SB w g o) (j : Nat) : w.frozen? ⟨g, j, none⟩ = false := frozen_of_row w g j _ _ h
theorem SB.step {w w' : World} {g : Nat} {o : OV} (h : SB w g o) (hb : Below w.heap.size w w') : SB w' g o := (hb.block g h.lt).trans h
theorem SB.past {w w' : World} {g k : Nat} {o : OV} (h : SB w g o) (hg : w.grownBy w' (some k)) (hne : g ≠ k) : SB w' g o := (hg.block g h.lt (by simpa using hne)).trans h
theorem SB.else_ {w : World} {g k j : Nat} {o : OV} (h : SB w g o) (hne : g ≠ k) (v : Value) : SB (w.setCell ⟨k, j, none⟩ v) g o := (heap_setCell_other w ⟨k, j, none⟩ g v hne).trans h
theorem SB.laid (w : World) (o : OV) : SB (w.alloc (.cells o.cells.toArray 25)) w.heap.size o := heap_alloc_new w _
theorem SB.put0 {w : World} {g : Nat} {o : OV} (h : SB w g o) (x : Int) : SB (w.setCell ⟨g, 0, none⟩ (.int .u8 x)) g { o with k := x } := heap_setCell_same w g 0 _ _ _ h
theorem SB.put1 {w : World} {g : Nat} {o : OV} (h : SB w g o) (x : Int) : SB (w.setCell ⟨g, 1, none⟩ (.int .u16 x)) g { o with p := x } := heap_setCell_same w g 1 _ _ _ h
theorem SB.put2 {w : World} {g : Nat} {o : OV} (h : SB w g o) (x : Int) : SB (w.setCell ⟨g, 2, none⟩ (.int .u32 x)) g { o with l := x } := heap_setCell_same w g 2 _ _ _ h
theorem SB.put3 {w : World} {g : Nat} {o : OV} (h : SB w g o) (x : ByteArray) : SB (w.setCell ⟨g, 3, none⟩ (.string x)) g { o with la := x } := heap_setCell_same w g 3 _ _ _ h
theorem SB.put4 {w : World} {g : Nat} {o : OV} (h : SB w g o) (x : ByteArray) : SB (w.setCell ⟨g, 4, none⟩ (.string x)) g { o with pr := x } := heap_setCell_same w g 4 _ _ _ h
/-- An opening is laid over another one. -/
theorem SB.laid5 {w : World} {g : Nat} {u : OV} (h : SB w g u) (o : OV) : SB (((((w.setCell ⟨g, 0, none⟩ (.int .u8 o.k)).setCell ⟨g, 1, none⟩ (.int .u16 o.p)).setCell ⟨g, 2, none⟩ (.int .u32 o.l)).setCell ⟨g, 3, none⟩ (.string o.la)).setCell ⟨g, 4, none⟩ (.string o.pr)) g o :=
  ((((h.put0 o.k).put1 o.p).put2 o.l).put3 o.la).put4 o.pr
theorem below5 {B : Nat} {a w : World} (h : Below B a w) {g : Nat} (hg : B ≤ g) (x0 x1 x2 x3 x4 : Value) : Below B a (((((w.setCell ⟨g, 0, none⟩ x0).setCell ⟨g, 1, none⟩ x1).setCell ⟨g, 2, none⟩ x2).setCell ⟨g, 3, none⟩ x3).setCell ⟨g, 4, none⟩ x4) :=
  ((((h.setCell (p := ⟨g, 0, none⟩) hg x0).setCell (p := ⟨g, 1, none⟩) hg x1).setCell (p := ⟨g, 2, none⟩) hg x2).setCell (p := ⟨g, 3, none⟩) hg x3).setCell (p := ⟨g, 4, none⟩) hg x4
theorem ret_op2 {fn : Func} {p u v : Tmp} (hr : fn.results = #[.cell p 25, .tmp u, .tmp v]) (tmps : Array Value) (w : World) (g : Nat) (o : OV) (hp : tmps.getD p undef = .pointer (some ⟨g, 0, none⟩)) (h : SB w g o) :
    (results fn tmps).run Tryd.prog w = .ok (.tuple #[.agg o.cells.toArray, tmps.getD u undef, tmps.getD v undef]) w := by
  have hp' : tmps[p]?.getD undef = .pointer (some ⟨g, 0, none⟩) := by simpa using hp
  have := run_loadVar_row w g _ 25 o.cells.toArray (0, 0) _ h Tryd.underlying25 rfl Op_size
  simp [results, hr, hp', asAddr, this]
theorem ret_op1 {fn : Func} {p u : Tmp} (hr : fn.results = #[.cell p 25, .tmp u]) (tmps : Array Value) (w : World) (g : Nat) (o : OV) (hp : tmps.getD p undef = .pointer (some ⟨g, 0, none⟩)) (h : SB w g o) :
    (results fn tmps).run Tryd.prog w = .ok (.tuple #[.agg o.cells.toArray, tmps.getD u undef]) w := by
  rw [results_cell_tmp hr, hp]
  have := run_loadVar_row w g _ 25 o.cells.toArray (0, 0) _ h Tryd.underlying25 rfl Op_size
  simp [asAddr, this]
/-- A reader is not touched where another block's cell has turned. -/
theorem RD.else_ {w : World} {g k j n c : Nat} {A : Option Addr} {bs : List UInt8} {fr : Nat × Nat} (h : RD w g A n c bs) {C : Array Value} {t : TypeId} (hk : w.heap[k]? = some (.cells C t fr)) (ht : t ≠ 137) (ht' : t ≠ 5) (hty : TY w A) (v : Value) : RD (w.setCell ⟨k, j, none⟩ v) g A n c bs ∧ TY (w.setCell ⟨k, j, none⟩ v) A := by
  have hne : ∀ (b : Nat) (D : Array Value) (u : TypeId) (f : Nat × Nat), w.heap[b]? = some (.cells D u f) → u ≠ t → b ≠ k := fun b D u f hb hu e => by
    subst e
    have := hb.symm.trans hk
    simp at this
    exact hu this.2.1
  have key : ∀ (b : Nat) (D : Array Value) (u : TypeId) (f : Nat × Nat), w.heap[b]? = some (.cells D u f) → u ≠ t → (w.setCell ⟨k, j, none⟩ v).heap[b]? = some (.cells D u f) := fun b D u f hb hu =>
    (heap_setCell_other w ⟨k, j, none⟩ b v (hne b D u f hb hu)).trans hb
  refine ⟨⟨key _ _ _ _ h.1 (Ne.symm ht), h.2.1, h.2.2.1, fun hx => ?_⟩, fun a e => ?_⟩
  · obtain ⟨b, o, e, hlt, hc⟩ := h.2.2.2 hx
    obtain ⟨D, hD⟩ := hty _ e
    refine ⟨b, o, e, by simpa [World.setCell] using hlt, fun i w' hw => ?_⟩
    exact (World.cell?_of_block (w := w) (a := ⟨b, o + i, none⟩) ((key _ _ _ _ hD (Ne.symm ht')).trans hD.symm)).trans (hc i w' hw)
  · obtain ⟨D, hD⟩ := hty _ e
    exact ⟨D, key _ _ _ _ hD (Ne.symm ht')⟩
theorem ty_next {w w' : World} {g n c : Nat} {A A' : Option Addr} {bs : List UInt8} (hr : RD w g A n c bs) (ht : TY w A) (hg : w.grownBy w' (some g)) (hs : Stays w g A') : TY w' A' := fun a e => by
  obtain ⟨cs, hc⟩ := hs.ty hr.cell ht a e
  refine ⟨cs, (hg.block a.block (Array.getElem?_eq_some_iff.1 hc).1 fun e' => ?_).trans hc⟩
  injection e' with e'
  have := hr.1
  rw [← e', hc] at this
  simp at this

/-- Between two reads: the reader, the opening's block, the result's. -/
structure RH (w : World) (N g S : Nat) (r : List UInt8) (o : OV) (W : World) : Prop where
  rd : ∃ A c, RD W g A r.length c r ∧ TY W A
  sb : SB W S o
  rb : SB W N oZ
  bl : Below w.heap.size w W
  gS : S ≠ g
  gN : N ≠ g
  NS : N ≠ S
  Nw : w.heap.size ≤ N
  Sw : w.heap.size ≤ S
  gw : w.heap.size ≤ g
section
variable {w W : World} {N g S : Nat} {r : List UInt8} {o : OV}
theorem RH.next (h : RH w N g S r o W) {W' : World} {k : Nat} (hp : RdPost W g (r.drop k) W') : RH w N g S (r.drop k) o W' := by
  obtain ⟨A, c, hr, ht⟩ := h.rd
  obtain ⟨A', n', c', hr', hg', hs'⟩ := hp
  have hn : n' = (r.drop k).length := hr'.2.len
  subst hn
  exact ⟨⟨A', c', hr', ty_next hr ht hg' hs'⟩, h.sb.past hg' h.gS, h.rb.past hg' h.gN, h.bl.trans (grown_below hg' h.gw hr.lt), h.gS, h.gN, h.NS, h.Nw, h.Sw, h.gw⟩
theorem RH.set (h : RH w N g S r o W) (j : Nat) (v : Value) {o' : OV} (ho : SB (W.setCell ⟨S, j, none⟩ v) S o') : RH w N g S r o' (W.setCell ⟨S, j, none⟩ v) := by
  obtain ⟨A, c, hr, ht⟩ := h.rd
  have h1 := hr.else_ (j := j) h.sb (by decide) (by decide) ht v
  exact ⟨⟨A, c, h1.1, h1.2⟩, ho, h.rb.else_ h.NS v, h.bl.setCell (p := ⟨S, j, none⟩) h.Sw v, h.gS, h.gN, h.NS, h.Nw, h.Sw, h.gw⟩
theorem RH.get8 (h : RH w N g S r o W) (hl : 1 ≤ r.length) : Calls Tryd.prog 66 #[.pointer (some ⟨g, 0, none⟩)] W fun e w' => e = .returned (.tuple #[.int .u8 (numB (r.take 1) : Int), .int .i64 0]) ∧ Hid (RH w N g S (r.drop 1) o w') := by
  obtain ⟨A, c, hr, ht⟩ := h.rd
  refine (get8_any g A _ c r W hr).mono ?_
  rintro e w' (⟨_, rfl, hp⟩ | ⟨hc, _⟩)
  · exact ⟨rfl, keep (h.next hp)⟩
  · omega
theorem RH.get16 (h : RH w N g S r o W) (hl : 2 ≤ r.length) : Calls Tryd.prog 67 #[.pointer (some ⟨g, 0, none⟩)] W fun e w' => e = .returned (.tuple #[.int .u16 (numB (r.take 2) : Int), .int .i64 0]) ∧ Hid (RH w N g S (r.drop 2) o w') := by
  obtain ⟨A, c, hr, ht⟩ := h.rd
  refine (get16_any g A _ c r W hr).mono ?_
  rintro e w' (⟨_, rfl, hp⟩ | ⟨hc, _⟩)
  · exact ⟨rfl, keep (h.next hp)⟩
  · omega
theorem RH.get32 (h : RH w N g S r o W) (hl : 4 ≤ r.length) : Calls Tryd.prog 68 #[.pointer (some ⟨g, 0, none⟩)] W fun e w' => e = .returned (.tuple #[.int .u32 (numB (r.take 4) : Int), .int .i64 0]) ∧ Hid (RH w N g S (r.drop 4) o w') := by
  obtain ⟨A, c, hr, ht⟩ := h.rd
  refine (get32_any g A _ c r W hr).mono ?_
  rintro e w' (⟨_, rfl, hp⟩ | ⟨hc, _⟩)
  · exact ⟨rfl, keep (h.next hp)⟩
  · omega
end
/-- What the head of octets tells. -/
def hK (bs : List UInt8) : Int := (numB ((bs.drop 1).take 1) : Int)
def hP (bs : List UInt8) : Int := (numB ((bs.drop 2).take 2) : Int)
def hL (bs : List UInt8) : Int := (numB ((bs.drop 4).take 4) : Int)
def hN (bs : List UInt8) : Nat := numB ((bs.drop 8).take 2)
def hM (bs : List UInt8) : Nat := numB ((bs.drop 10).take 2)
theorem num_lt (bs : List UInt8) (i j : Nat) (h : i + j ≤ bs.length) : numB ((bs.drop i).take j) < 256 ^ j := numB_take_lt _ _ (by rw [List.length_drop]; omega)
theorem hN_lt (bs : List UInt8) (h : 12 ≤ bs.length) : hN bs < 65536 := num_lt bs 8 2 (by omega)
theorem hM_lt (bs : List UInt8) (h : 12 ≤ bs.length) : hM bs < 65536 := num_lt bs 10 2 (by omega)
set_option maxRecDepth 100000 in
set_option maxHeartbeats 4000000 in
theorem readHead_any (A : Option Addr) (c : Nat) (bs : List UInt8) (w : World) (hb : BS w A 12 c bs) :
    Calls Tryd.prog 43 #[.slice A 12 c] w fun e w' => e = .returned (.tuple #[.agg (OV.cells ⟨hK bs, hP bs, hL bs, ⟨#[]⟩, ⟨#[]⟩⟩).toArray, .int .i64 (hN bs : Int), .int .i64 (hM bs : Int)]) ∧ Below w.heap.size w w' := by
  have l1 := below_lay w (.cells oZ.cells.toArray 25)
  have R1 := keep (SB.laid w oZ)
  have HL := keep hb.len
  have hcap := hb.cap
  have hN9 := hN_lt bs (by have := hb.len; omega)
  have hM9 := hM_lt bs (by have := hb.len; omega)
  obtain ⟨b, o, rfl⟩ := hb.some (by intro h0; have := hb.len; rw [h0] at this; simp at this)
  have hd := hb.drop 1 (by omega)
  rw [if_neg (by omega)] at hd
  have KN := keep (new_any _ _ _ _ _ (hd.step l1) (by omega))
  replace l1 := keep l1
  clear hb hd
  obtain ⟨vk, hvk⟩ : ∃ v, hK bs = v := ⟨_, rfl⟩
  obtain ⟨vp, hvp⟩ : ∃ v, hP bs = v := ⟨_, rfl⟩
  obtain ⟨vl, hvl⟩ : ∃ v, hL bs = v := ⟨_, rfl⟩
  obtain ⟨vn, hvn⟩ : ∃ v, hN bs = v := ⟨_, rfl⟩
  obtain ⟨vm, hvm⟩ : ∃ v, hM bs = v := ⟨_, rfl⟩
  have g1 : (numB ((bs.drop 1).take 1) : Int) = vk := hvk
  have g2 : (numB (((bs.drop 1).drop 1).take 2) : Int) = vp := by rw [← hvp]; unfold hP; simp only [List.drop_drop]
  have g3 : (numB ((((bs.drop 1).drop 1).drop 2).take 4) : Int) = vl := by rw [← hvl]; unfold hL; simp only [List.drop_drop]
  have g4 : numB (((((bs.drop 1).drop 1).drop 2).drop 4).take 2) = vn := by rw [← hvn]; unfold hN; simp only [List.drop_drop]
  have g5 : numB ((((((bs.drop 1).drop 1).drop 2).drop 4).drop 2).take 2) = vm := by rw [← hvm]; unfold hM; simp only [List.drop_drop]
  rw [hvn] at hN9
  rw [hvm] at hM9
  rw [hvk, hvp, hvl, hvn, hvm]
  have G := keep (And.intro g1 (And.intro g2 (And.intro g3 (And.intro g4 g5))))
  clear hvk hvp hvl hvn hvm g1 g2 g3 g4 g5
  go_enter Tryd.func43, Tryd.ntmps43
  go_wp2_with fail
  refine KN.out.mono ?_
  rintro e w1 ⟨g, A1, n1, c1, rfl, hr1, hg1, hb1, ht1⟩
  have hlt0 : w.heap.size < g := by simp at hg1; omega
  have hn1 : n1 = (bs.drop 1).length := hr1.2.len
  subst hn1
  have H2 := keep (show RH w w.heap.size g w1.heap.size (bs.drop 1) oZ (w1.alloc (.cells oZ.cells.toArray 25)) from
    ⟨⟨A1, c1, hr1.step (below_lay _ _), ht1.step (below_lay _ _)⟩, SB.laid w1 oZ, (R1.out.step hb1).step (below_lay _ _), up (l1.out.trans (hb1.mono l1.out.size)) (below_lay _ _), by have := hr1.lt; omega, by omega, by have := hr1.lt; omega, Nat.le_refl _, by have := hr1.lt; omega, by omega⟩)
  obtain ⟨S, hS⟩ : ∃ S, w1.heap.size = S := ⟨_, rfl⟩
  rw [hS] at H2
  have HLn := keep (show bs.length = 12 from HL.out.symm)
  clear hr1 hb1 ht1 hg1 KN HL
  have K3 := H2.out.get8 (by rw [List.length_drop]; have := HLn.out; omega)
  rw [G.out.1] at K3
  replace K3 := keep K3
  go_wp2_with fail
  refine K3.out.mono ?_
  rintro e w3 ⟨rfl, H3⟩
  have q3 := H3.out.sb.ob.c0
  have f3 := H3.out.sb.fz 0
  dsimp only [oZ] at q3
  have H4 := keep (H3.out.set 0 _ (H3.out.sb.put0 vk))
  have K4 := H4.out.get16 (by rw [List.length_drop, List.length_drop]; have := HLn.out; omega)
  rw [G.out.2.1] at K4
  replace K4 := keep K4
  go_wp2_with fail
  refine K4.out.mono ?_
  rintro e w4 ⟨rfl, H5⟩
  have q4 := H5.out.sb.ob.c1
  have f4 := H5.out.sb.fz 1
  dsimp only [oZ] at q4
  have H6 := keep (H5.out.set 1 _ (H5.out.sb.put1 vp))
  have K6 := H6.out.get32 (by rw [List.length_drop, List.length_drop, List.length_drop]; have := HLn.out; omega)
  rw [G.out.2.2.1] at K6
  replace K6 := keep K6
  go_wp2_with fail
  refine K6.out.mono ?_
  rintro e w5 ⟨rfl, H7⟩
  have q5 := H7.out.sb.ob.c2
  have f5 := H7.out.sb.fz 2
  dsimp only [oZ] at q5
  have H8 := keep (H7.out.set 2 _ (H7.out.sb.put2 vl))
  have K8 := H8.out.get16 (by rw [List.length_drop, List.length_drop, List.length_drop, List.length_drop]; have := HLn.out; omega)
  rw [G.out.2.2.2.1] at K8
  replace K8 := keep K8
  go_wp2_with fail
  refine K8.out.mono ?_
  rintro e w6 ⟨rfl, H9⟩
  have K9 := H9.out.get16 (by rw [List.length_drop, List.length_drop, List.length_drop, List.length_drop, List.length_drop]; have := HLn.out; omega)
  rw [G.out.2.2.2.2] at K9
  replace K9 := keep K9
  go_wp2_with fail
  refine K9.out.mono ?_
  rintro e w7 ⟨rfl, HA⟩
  obtain ⟨a0, a1, a2, a3, a4⟩ := HA.out.sb.ob
  obtain ⟨z0, z1, z2, z3, z4⟩ := HA.out.rb.ob
  dsimp only [oZ] at a0 a1 a2 a3 a4 z0 z1 z2 z3 z4
  have y0 := HA.out.rb.fz 0
  have y1 := HA.out.rb.fz 1
  have y2 := HA.out.rb.fz 2
  have y3 := HA.out.rb.fz 3
  have y4 := HA.out.rb.fz 4
  go_wp2_with fail
  exact bodyPost_ret (ret_op2 rfl _ _ w.heap.size ⟨vk, vp, vl, ⟨#[]⟩, ⟨#[]⟩⟩ rfl (HA.out.rb.laid5 ⟨vk, vp, vl, ⟨#[]⟩, ⟨#[]⟩⟩)) rfl ⟨rfl, below5 HA.out.bl (Nat.le_refl _) _ _ _ _ _⟩
end Go.Proofs.YtapaiknghnbfmaaDoor
