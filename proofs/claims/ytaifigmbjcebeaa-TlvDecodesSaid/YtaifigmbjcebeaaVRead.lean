/- tlv.readLength and readOne: what is read of one parameter. -/
import Derived.Test.YtaifigmbjcebeaaVEnc
import Derived.Laws.ResultCell
import Derived.Laws.Rows
namespace Go.Proofs.Ytaifigmbjcebeaa
open Go.RowKit
set_option linter.unusedVariables false

theorem grown_trans {a b c : World} {g : Nat} (h : a.grownBy b (some g)) (k : b.grownBy c (some g)) : a.grownBy c (some g) :=
  ⟨k.os.trans h.os, k.tape.trans h.tape, k.output.trans h.output, Nat.le_trans h.size k.size, fun i hi hne => (k.block i (Nat.lt_of_lt_of_le hi h.size) hne).trans (h.block i hi hne)⟩
theorem grown_of_below {a b : World} (g : Nat) (h : Below a.heap.size a b) : a.grownBy b (some g) := ⟨h.os, h.tape, h.output, h.size, fun i hi _ => h.block i hi⟩
theorem grown_refl (a : World) (g : Nat) : a.grownBy a (some g) := ⟨rfl, rfl, rfl, Nat.le_refl _, fun _ _ _ => rfl⟩
theorem grown_set {a b : World} {g R o : Nat} (h : a.grownBy b (some g)) (hR : a.heap.size ≤ R) (v : Value) : a.grownBy (b.setCell ⟨R, o, none⟩ v) (some g) :=
  ⟨h.os, h.tape, h.output, by simpa [World.setCell] using h.size, fun i hi hne => (Below.heap_setCell _ _ _ i (by simp only; omega)).trans (h.block i hi hne)⟩

/-- A reader that lies in a block of octets. -/
def RDT (w : World) (g : Nat) (A : Option Addr) (n c : Nat) (bs : List UInt8) : Prop := RD w g A n c bs ∧ TY w A
theorem TY.past {w w' : World} {g : Nat} {A B : Option Addr} {n c : Nat} {bs : List UInt8} (h : TY w B) (hr : RD w g A n c bs) (hg : w.grownBy w' (some g)) : TY w' B := fun a e => by
  obtain ⟨cs, hc⟩ := h a e
  refine ⟨cs, (hg.block _ (Array.getElem?_eq_some_iff.1 hc).1 fun he => ?_).trans hc⟩
  injection he with he
  rw [he, hr.1] at hc
  simp at hc
theorem RDT.next {w w' : World} {g : Nat} {A : Option Addr} {n c : Nat} {bs ds : List UInt8} (h : RDT w g A n c bs) (hp : RdPost w g ds w') : ∃ A' n' c', RDT w' g A' n' c' ds ∧ w.grownBy w' (some g) := by
  obtain ⟨A', n', c', hr, hg, hs⟩ := hp
  exact ⟨A', n', c', ⟨hr, (hs.ty h.1.cell h.2).past h.1 hg⟩, hg⟩
theorem RDT.step {w w' : World} {g : Nat} {A : Option Addr} {n c : Nat} {bs : List UInt8} (h : RDT w g A n c bs) (hb : Below w.heap.size w w') : RDT w' g A n c bs := ⟨h.1.step hb, h.2.step hb⟩

/-- What readLength answers: the length of the value, or an error. -/
def LenPost (w : World) (g : Nat) (n : Nat) (bs : List UInt8) (e : Ending) (w' : World) : Prop :=
  (n < 2 ∧ e = .returned (.tuple #[.int .i64 0, .int .i64 2]) ∧ w = w') ∨
  (2 ≤ n ∧ RdPost w g (bs.drop 2) w' ∧
    ((numB (bs.take 2) < 4 ∧ e = .returned (.tuple #[.int .i64 0, .int .i64 3])) ∨
     (1204 < numB (bs.take 2) ∧ e = .returned (.tuple #[.int .i64 0, .int .i64 10])) ∨
     (4 ≤ numB (bs.take 2) ∧ numB (bs.take 2) ≤ 1204 ∧ e = .returned (.tuple #[.int .i64 ((numB (bs.take 2) - 4 : Nat) : Int), .int .i64 0]))))
theorem readLength_any (g : Nat) (A : Option Addr) (n c : Nat) (bs : List UInt8) (w : World) (hr : RD w g A n c bs) :
    Calls Try.prog 44 #[.pointer (some ⟨g, 0, none⟩)] w (LenPost w g n bs) := by
  have K := keep (get16_any g A n c bs w hr)
  have HN : 2 ≤ n → numB (bs.take 2) < 256 ^ 2 := fun h => numB_take_lt bs 2 (by rw [← hr.2.len]; exact h)
  clear hr
  go_enter Try.func44, Try.ntmps44
  go_wp2_with fail
  refine K.out.mono ?_
  rintro e w1 (⟨h2, rfl, hp⟩ | ⟨h2, rfl, rfl⟩)
  · have hN := HN h2
    generalize hL : numB (bs.take 2) = L at hN ⊢
    have HL := keep hL
    have HP := keep hp
    clear hL hp K HN
    have e4 : wrap64 ((L : Int) - 4) = (L : Int) - 4 := by
      unfold wrap64
      omega
    by_cases h4 : L < 4
    · go_wp2_with fail
      go_ret2
      exact .inr ⟨h2, HP.out, .inl ⟨by rw [HL.out]; exact h4, rfl⟩⟩
    · by_cases h1204 : 1204 < L
      · go_wp2_with fail
        go_ret2
        exact .inr ⟨h2, HP.out, .inr (.inl ⟨by rw [HL.out]; exact h1204, rfl⟩)⟩
      · go_wp2_with fail
        go_ret2
        exact .inr ⟨h2, HP.out, .inr (.inr ⟨by rw [HL.out]; omega, by rw [HL.out]; omega, by rw [HL.out]; simp; omega⟩)⟩
  · clear K HN
    go_wp2_with fail
    go_ret2
    exact .inl ⟨h2, rfl, rfl⟩
/-- The block in which a result of type Param lies. -/
def Slot (w : World) (R : Nat) (cs : Array Value) : Prop := w.heap[R]? = some (.cells cs 44 (0, 0))
theorem Slot.cell {w : World} {R : Nat} {u v : Value} (h : Slot w R #[u, v]) : w.cell? ⟨R, 0, none⟩ = some u ∧ w.cell? ⟨R, 1, none⟩ = some v := by
  constructor
  · rw [cell_of_row w R 0 _ _ _ h]; rfl
  · rw [cell_of_row w R 1 _ _ _ h]; rfl
theorem Slot.frozen {w : World} {R o : Nat} {cs : Array Value} (h : Slot w R cs) : w.frozen? ⟨R, o, none⟩ = false := by
  simp [World.frozen?, show w.heap[R]? = _ from h]
theorem Slot.past {w w' : World} {g R n c : Nat} {A : Option Addr} {bs : List UInt8} {cs : Array Value} (h : Slot w R cs) (hr : RD w g A n c bs) (hg : w.grownBy w' (some g)) : Slot w' R cs := by
  refine (hg.block R (Array.getElem?_eq_some_iff.1 h).1 fun he => ?_).trans h
  injection he with he
  subst he
  have := hr.1.symm.trans h
  simp at this
theorem Slot.step {w w' : World} {R : Nat} {cs : Array Value} (h : Slot w R cs) (hb : Below w.heap.size w w') : Slot w' R cs := (hb.block R (Array.getElem?_eq_some_iff.1 h).1).trans h
theorem TY.set {w : World} {R o : Nat} {cs : Array Value} {B : Option Addr} (h : TY w B) (hR : Slot w R cs) (v : Value) : TY (w.setCell ⟨R, o, none⟩ v) B := fun a e => by
  obtain ⟨ds, hd⟩ := h a e
  refine ⟨ds, (Below.heap_setCell _ _ _ _ ?_).trans hd⟩
  intro he
  simp only at he
  rw [he] at hd
  have := hd.symm.trans hR
  simp at this
theorem BS.set {w : World} {R o n c : Nat} {cs : Array Value} {B : Option Addr} {bs : List UInt8} (h : BS w B n c bs) (ht : TY w B) (hR : Slot w R cs) (v : Value) : BS (w.setCell ⟨R, o, none⟩ v) B n c bs := by
  refine ⟨h.1, h.2.1, fun hne => ?_⟩
  obtain ⟨b, p, e, hlt, hc⟩ := h.2.2 hne
  have hbR : b ≠ R := by
    rintro rfl
    obtain ⟨ds, hd⟩ := ht _ e
    have := hd.symm.trans hR
    simp at this
  refine ⟨b, p, e, by simpa [World.setCell] using hlt, fun j u hu => ?_⟩
  exact (World.cell?_of_block (w := w) (a := ⟨b, p + j, none⟩) (Below.heap_setCell _ _ _ b hbR)).trans (hc j u hu)
theorem RDT.set {w : World} {g R o n c : Nat} {cs : Array Value} {A : Option Addr} {bs : List UInt8} (h : RDT w g A n c bs) (hR : Slot w R cs) (v : Value) : RDT (w.setCell ⟨R, o, none⟩ v) g A n c bs := by
  have hgR : g ≠ R := by
    intro he
    have h1 := h.1.1
    rw [he, show w.heap[R]? = _ from hR] at h1
    simp at h1
  have e1 : (w.setCell ⟨R, o, none⟩ v).heap[g]? = w.heap[g]? := Below.heap_setCell w ⟨R, o, none⟩ v g hgR
  exact ⟨⟨e1.trans h.1.1, BS.set h.1.2 h.2 hR v⟩, TY.set h.2 hR v⟩
theorem Slot.set0 {w : World} {R : Nat} {u v : Value} (h : Slot w R #[u, v]) (x : Value) : Slot (w.setCell ⟨R, 0, none⟩ x) R #[x, v] := by
  have := h
  unfold Slot at this ⊢
  simp [World.setCell, Array.getElem?_modify, this]
theorem Slot.set1 {w : World} {R : Nat} {u v : Value} (h : Slot w R #[u, v]) (x : Value) : Slot (w.setCell ⟨R, 1, none⟩ x) R #[u, x] := by
  have := h
  unfold Slot at this ⊢
  simp [World.setCell, Array.getElem?_modify, this]

theorem results_pt {fn : Func} {p u : Tmp} (h : fn.results = #[.cell p 44, .tmp u]) (tmps : Array Value) (w : World) (R : Nat) (hp : tmps.getD p undef = .pointer (some ⟨R, 0, none⟩)) (cs : Array Value) (hR : Slot w R cs) (hs : cs.size = 2) :
    (results fn tmps).run Try.prog w = .ok (.tuple #[.agg cs, tmps.getD u undef]) w := by
  rw [results_cell_tmp h, hp]
  obtain ⟨i0, hi0, hz0, hz1, hz2⟩ := info_parts Param_info
  have := run_loadVar_row w R _ 44 cs (0, 0) _ hR Try.underlying44 rfl (by rw [hi0]; simp [hz1, hs])
  simp [asAddr, this]

/-- What readOne answers. -/
def OnePost (w : World) (g : Nat) (bs : List UInt8) (e : Ending) (w' : World) : Prop :=
  ∃ A n c ds, RDT w' g A n c ds ∧ w.grownBy w' (some g) ∧
    ((∃ x : Nat, oneL bs = .error x ∧ 0 < x ∧ e = .returned (.tuple #[.agg #[.int .u16 0, .slice none 0 0], .int .i64 (x : Int)])) ∨
     (∃ x : PX, oneL bs = .ok (pm x, ds) ∧ VP w' x ∧ TY w' x.2.1 ∧ e = .returned (.tuple #[pv x, .int .i64 0])))

theorem one_end {w w' : World} {g R n c : Nat} {A : Option Addr} {ds : List UInt8} {u v : Value} (hr : RDT w' g A n c ds) (hg : w.grownBy w' (some g)) (hR : Slot w' R #[u, v]) (hRw : w.heap.size ≤ R) (x y : Value) :
    RDT ((w'.setCell ⟨R, 0, none⟩ x).setCell ⟨R, 1, none⟩ y) g A n c ds ∧ w.grownBy ((w'.setCell ⟨R, 0, none⟩ x).setCell ⟨R, 1, none⟩ y) (some g) :=
  ⟨RDT.set (RDT.set hr hR x) (Slot.set0 hR x) y, grown_set (grown_set hg hRw x) hRw y⟩

theorem readOne_short (g : Nat) (A : Option Addr) (n c : Nat) (bs : List UInt8) (w : World) (hr : RDT w g A n c bs) (hn : n < 2) :
    Calls Try.prog 37 #[.pointer (some ⟨g, 0, none⟩)] w (OnePost w g bs) := by
  have l0 := below_lay w (.cells #[.int .u16 0, .slice none 0 0] 44)
  have hr1 := hr.step l0
  have K := get16_any g A n c bs _ hr1.1
  have HL := keep hr.1.2.len
  have HR1 := keep hr1
  have HG := keep (grown_of_below g l0)
  have hS : Slot (w.alloc (.cells #[.int .u16 0, .slice none 0 0] 44)) w.heap.size #[.int .u16 0, .slice none 0 0] := heap_alloc_new w _
  have HS := keep hS
  replace K := keep K
  clear hr hr1 l0 hS
  go_enter Try.func37, Try.ntmps37
  go_wp2_with fail
  refine K.out.mono ?_
  rintro e w1 (⟨h2, _⟩ | ⟨h2, rfl, rfl⟩)
  · omega
  · clear K
    go_wp2_with fail
    refine bodyPost_ret (results_pt rfl _ _ w.heap.size rfl _ HS.out rfl) rfl ?_
    exact ⟨A, n, c, bs, HR1.out, HG.out, .inl ⟨2, by unfold oneL; rw [if_pos (by have := HL.out; omega)], by omega, rfl⟩⟩
/-- What stands when a reader has turned since readOne began: the reader, the result's block. -/
structure Stand (w : World) (g : Nat) (w' : World) (A : Option Addr) (n c : Nat) (ds : List UInt8) : Prop where
  rdt : RDT w' g A n c ds
  grown : w.grownBy w' (some g)
  slot : Slot w' w.heap.size #[.int .u16 0, .slice none 0 0]
theorem Stand.next {w w' w'' : World} {g n c : Nat} {A : Option Addr} {ds es : List UInt8} (h : Stand w g w' A n c ds) (hp : RdPost w' g es w'') : ∃ A' n' c', Stand w g w'' A' n' c' es ∧ w'.grownBy w'' (some g) := by
  obtain ⟨A', n', c', hr, hg⟩ := h.rdt.next hp
  exact ⟨A', n', c', ⟨hr, grown_trans h.grown hg, h.slot.past h.rdt.1 hg⟩, hg⟩
theorem Stand.cells {w w' : World} {g n c : Nat} {A : Option Addr} {ds : List UInt8} (h : Stand w g w' A n c ds) :
    w'.cell? ⟨w.heap.size, 0, none⟩ = some (.int .u16 0) ∧ w'.cell? ⟨w.heap.size, 1, none⟩ = some (.slice none 0 0) ∧ w'.frozen? ⟨w.heap.size, 0, none⟩ = false ∧ w'.frozen? ⟨w.heap.size, 1, none⟩ = false ∧ w.heap.size < w'.heap.size :=
  ⟨h.slot.cell.1, h.slot.cell.2, h.slot.frozen, h.slot.frozen, (Array.getElem?_eq_some_iff.1 h.slot).1⟩
theorem Stand.fail {w w' : World} {g n c : Nat} {A : Option Addr} {bs ds : List UInt8} (h : Stand w g w' A n c ds) {x : Nat} (ho : oneL bs = .error x) (hx : 0 < x) :
    OnePost w g bs (.returned (.tuple #[.agg #[.int .u16 0, .slice none 0 0], .int .i64 (x : Int)])) ((w'.setCell ⟨w.heap.size, 0, none⟩ (.int .u16 0)).setCell ⟨w.heap.size, 1, none⟩ (.slice none 0 0)) := by
  have hE := one_end h.rdt h.grown h.slot (Nat.le_refl _) (.int .u16 0) (.slice none 0 0)
  exact ⟨A, n, c, ds, hE.1, hE.2, .inl ⟨x, ho, hx, rfl⟩⟩
theorem Stand.slot' {w w' : World} {g n c : Nat} {A : Option Addr} {ds : List UInt8} (h : Stand w g w' A n c ds) (x y : Value) :
    Slot ((w'.setCell ⟨w.heap.size, 0, none⟩ x).setCell ⟨w.heap.size, 1, none⟩ y) w.heap.size #[x, y] := (h.slot.set0 x).set1 y

theorem readOne_some (g : Nat) (A : Option Addr) (n c : Nat) (bs : List UInt8) (w : World) (hr : RDT w g A n c bs) (hn : 2 ≤ n) (hbig : n ≤ 100000) :
    Calls Try.prog 37 #[.pointer (some ⟨g, 0, none⟩)] w (OnePost w g bs) := by
  have l0 := below_lay w (.cells #[.int .u16 0, .slice none 0 0] 44)
  have hS : Stand w g (w.alloc (.cells #[.int .u16 0, .slice none 0 0] 44)) A n c bs := ⟨hr.step l0, grown_of_below g l0, heap_alloc_new w _⟩
  have K := keep (get16_any g A n c bs _ hS.rdt.1)
  have HL := keep hr.1.2.len
  have HS := keep hS
  have HN : numB (bs.take 2) < 256 ^ 2 := numB_take_lt bs 2 (by rw [← hr.1.2.len]; exact hn)
  clear hr l0 hS
  go_enter Try.func37, Try.ntmps37
  go_wp2_with fail
  refine K.out.mono ?_
  rintro e w2 (⟨h2, rfl, hp2⟩ | ⟨h2, _, _⟩)
  · obtain ⟨A2, n2, c2, hS2, _⟩ := HS.out.next hp2
    obtain ⟨hc0, hc1, hf0, hf1, hsz⟩ := hS2.cells
    have hl2 : n2 = n - 2 := by have := hS2.rdt.1.2.len; have := HL.out; rw [List.length_drop] at *; omega
    subst hl2
    have K2 := keep (readLength_any g A2 (n - 2) c2 _ w2 hS2.rdt.1)
    generalize hkn : numB (bs.take 2) = kn at HN ⊢
    have HK := keep hkn
    have HS2 := keep hS2
    clear K HS hp2 hkn hS2
    go_wp2_with fail
    refine K2.out.mono ?_
    rintro e w3 (⟨h3, rfl, rfl⟩ | ⟨h3, hp3, hcase⟩)
    · clear K2
      go_wp2_with fail
      refine bodyPost_ret (results_pt rfl _ _ w.heap.size rfl _ (HS2.out.slot' _ _) rfl) rfl ?_
      exact HS2.out.fail (x := 2) (by unfold oneL; rw [if_pos (by have := HL.out; omega)]) (by omega)
    · obtain ⟨A3, n3, c3, hS3, _⟩ := HS2.out.next hp3
      clear K2 HS2 hp3 hc0 hc1 hf0 hf1 hsz
      obtain ⟨hc0, hc1, hf0, hf1, hsz⟩ := hS3.cells
      have hl3 : n3 = n - 4 := by have := hS3.rdt.1.2.len; have := HL.out; rw [List.length_drop, List.length_drop] at *; omega
      subst hl3
      have HS3 := keep hS3
      clear hS3
      have h4 : ¬ bs.length < 4 := by have := HL.out; omega
      rcases hcase with ⟨hL, rfl⟩ | ⟨hL, rfl⟩ | ⟨hL1, hL2, rfl⟩
      · have HO := keep (show oneL bs = .error 3 by unfold oneL; rw [if_neg h4, if_pos hL])
        clear hL
        go_wp2_with fail
        refine bodyPost_ret (results_pt rfl _ _ w.heap.size rfl _ (HS3.out.slot' _ _) rfl) rfl ?_
        exact HS3.out.fail (x := 3) HO.out (by omega)
      · have HO := keep (show oneL bs = .error 10 by unfold oneL; rw [if_neg h4, if_neg (by omega), if_pos hL])
        clear hL
        go_wp2_with fail
        refine bodyPost_ret (results_pt rfl _ _ w.heap.size rfl _ (HS3.out.slot' _ _) rfl) rfl ?_
        exact HS3.out.fail (x := 10) HO.out (by omega)
      · generalize hLd : numB ((bs.drop 2).take 2) = L at hL1 hL2 ⊢
        have hd4 : (bs.drop 2).drop 2 = bs.drop 4 := by rw [List.drop_drop]
        have h3' : ¬ L < 4 := by omega
        have h10' : ¬ 1204 < L := by omega
        have HU : Hid (oneL bs = (if bs.length < L then .error 2 else if bs.length < L + (4 - L % 4) % 4 then .error 2
            else if (bs.drop L).take ((4 - L % 4) % 4) = List.replicate ((4 - L % 4) % 4) 0 then .ok (((kn : Int), (bs.drop 4).take (L - 4)), bs.drop (L + (4 - L % 4) % 4)) else .error 3 : Except Nat (Pm × List UInt8))) := by
          show _ = _
          unfold oneL
          rw [if_neg h4, hLd, if_neg h3', if_neg h10', HK.out]
        have HB := HS3.out.rdt.1
        rw [hd4] at HB
        by_cases hb : n - 4 < L - 4
        · have K3 := keep (bytes_short g A3 (n - 4) c3 _ ((L - 4 : Nat) : Int) (by omega) (by omega) w3 HB)
          have HO := keep (show oneL bs = .error 2 by rw [HU.out, if_pos (by have := HL.out; omega)])
          clear hLd HU HB hb hd4
          go_wp2_with fail
          refine K3.out.mono ?_
          rintro e w4 ⟨rfl, rfl⟩
          clear K3
          go_wp2_with fail
          refine bodyPost_ret (results_pt rfl _ _ w.heap.size rfl _ (HS3.out.slot' _ _) rfl) rfl ?_
          exact HS3.out.fail (x := 2) HO.out (by omega)
        · have K3 := keep (bytes_some g A3 (n - 4) c3 _ (L - 4) (by omega) (by omega) w3 HB)
          clear HB
          have hnL : ¬ bs.length < L := by have := HL.out; omega
          have HU2 := HU.out
          rw [if_neg hnL] at HU2
          have HU3 := keep HU2
          have hm : (4 - (L - 4) % 4) % 4 = (4 - L % 4) % 4 := by omega
          clear HU HU2 hLd
          go_wp2_with fail
          refine K3.out.mono ?_
          rintro e w4 ⟨A4, c4, rfl, hv4, hp4, ht4⟩
          obtain ⟨A5, n5, c5, hS5, _⟩ := HS3.out.next hp4
          have hl5 : n5 = n - L := by have := hS5.rdt.1.2.len; have := HL.out; rw [List.length_drop, List.length_drop] at *; omega
          subst hl5
          clear K3 HS3 hp4 hc0 hc1 hf0 hf1 hsz
          obtain ⟨hc0, hc1, hf0, hf1, hsz⟩ := hS5.cells
          have hdL : (bs.drop 4).drop (L - 4) = bs.drop L := by rw [List.drop_drop]; congr 1; omega
          rw [hdL] at hS5
          have HS5 := keep hS5
          have HV4 := keep hv4
          have HT4 := keep ht4
          have HB := hS5.rdt.1
          clear hS5 hv4 ht4 hdL hd4
          by_cases hb5 : n - L < (4 - L % 4) % 4
          · have K5 := keep (rpad_short g A5 (n - L) c5 _ (L - 4) _ (by omega) hm.symm hb5 w4 HB)
            have HO := keep (show oneL bs = .error 2 by rw [HU3.out, if_pos (by have := HL.out; omega)])
            clear HU3 HB hb5 hm
            go_wp2_with fail
            refine K5.out.mono ?_
            rintro e w5 ⟨rfl, rfl⟩
            clear K5
            go_wp2_with fail
            refine bodyPost_ret (results_pt rfl _ _ w.heap.size rfl _ (HS5.out.slot' _ _) rfl) rfl ?_
            exact HS5.out.fail (x := 2) HO.out (by omega)
          · have K5 := keep (rpad_some g A5 (n - L) c5 _ (L - 4) _ (by omega) hm.symm (by omega) w4 HB)
            have hUU := HU3.out
            rw [if_neg (by have := HL.out; omega)] at hUU
            have HU4 := keep hUU
            clear HU3 hUU HB hb5 hm
            go_wp2_with fail
            refine K5.out.mono ?_
            rintro e w5 (⟨hz, rfl, hp5⟩ | ⟨hz, rfl, rfl⟩)
            · obtain ⟨A6, n6, c6, hS6, hg6⟩ := HS5.out.next hp5
              have hv6 := HV4.out.past HS5.out.rdt.1 hg6
              have ht6 := HT4.out.past HS5.out.rdt.1 hg6
              have HO := keep (show oneL bs = .ok (((kn : Int), (bs.drop 4).take (L - 4)), bs.drop (L + (4 - L % 4) % 4)) by rw [HU4.out, if_pos hz])
              have hdd : (bs.drop L).drop ((4 - L % 4) % 4) = bs.drop (L + (4 - L % 4) % 4) := by rw [List.drop_drop]
              rw [hdd] at hS6
              clear K5 HS5 hp5 hc0 hc1 hf0 hf1 hsz HU4 hz HV4 HT4 hg6 hdd
              obtain ⟨hc0, hc1, hf0, hf1, hsz⟩ := hS6.cells
              have HS6 := keep hS6
              have HV6 := keep hv6
              have HT6 := keep ht6
              clear hS6 hv6 ht6
              go_wp2_with fail
              refine bodyPost_ret (results_pt rfl _ _ w.heap.size rfl _ (HS6.out.slot' _ _) rfl) rfl ?_
              have hE := one_end HS6.out.rdt HS6.out.grown HS6.out.slot (Nat.le_refl _) (.int .u16 (kn : Int)) (.slice A4 (L - 4) c4)
              have hV := BS.set (BS.set HV6.out HT6.out HS6.out.slot (o := 0) (.int .u16 (kn : Int))) (HT6.out.set HS6.out.slot _) (HS6.out.slot.set0 _) (o := 1) (.slice A4 (L - 4) c4)
              have hT := (HT6.out.set HS6.out.slot (o := 0) (.int .u16 (kn : Int))).set (HS6.out.slot.set0 _) (o := 1) (.slice A4 (L - 4) c4)
              exact ⟨A6, n6, c6, _, hE.1, hE.2, .inr ⟨((kn : Int), A4, L - 4, c4, (bs.drop 4).take (L - 4)), HO.out, ⟨by simp only; omega, by simp only; omega, hV⟩, hT, rfl⟩⟩
            · have HO := keep (show oneL bs = .error 3 by rw [HU4.out, if_neg hz])
              clear K5 HU4 hz
              go_wp2_with fail
              refine bodyPost_ret (results_pt rfl _ _ w.heap.size rfl _ (HS5.out.slot' _ _) rfl) rfl ?_
              exact HS5.out.fail (x := 3) HO.out (by omega)
  · omega

theorem readOne_any (g : Nat) (A : Option Addr) (n c : Nat) (bs : List UInt8) (w : World) (hr : RDT w g A n c bs) (hbig : n ≤ 100000) :
    Calls Try.prog 37 #[.pointer (some ⟨g, 0, none⟩)] w (OnePost w g bs) := by
  by_cases hn : n < 2
  · exact readOne_short g A n c bs w hr hn
  · exact readOne_some g A n c bs w hr (by omega) hbig
end Go.Proofs.Ytaifigmbjcebeaa
