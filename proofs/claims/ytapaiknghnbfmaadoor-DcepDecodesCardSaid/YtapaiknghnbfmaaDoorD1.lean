/- Package dcep: which openings may be; the library's ValidString and Clone. -/
import Derived.Shelf.Unicode.ValidAny
import Derived.Shelf.Strconv.Clone
import Derived.Test.YtapaiknghnbfmaaDoorDL
import Derived.Test.YtapaiknghnbfmaaDoorOct2
namespace Go.Proofs.YtapaiknghnbfmaaDoor
open Go.RowKit
set_option linter.unusedVariables false

/-- The library's two tables lie as its text lays them. -/
def Tabs (w : World) : Prop := Lib.Utf8Tabs (laysValid_ren.g 3) (laysValid_ren.g 4) w
theorem Tabs.step {w w' : World} (h : Tabs w) (hb : Below w.heap.size w w') : Tabs w' := Utf8Tabs_below h hb
/-- Is a text UTF-8? -/
def okT (s : ByteArray) : Bool := Lib.validD s.data.toList
theorem valid_any (s : ByteArray) (hs : s.size ≤ 9223372036854775807) (w : World) (hT : Tabs w) : Calls Tryd.prog 62 #[.string s] w fun e w' => e = .returned (.bool (okT s)) ∧ Below w.heap.size w w' :=
  Any.utf8_ValidString laysValid s w hs hT
theorem liteClone_any (s : ByteArray) (hs : s.size ≤ 281474976710656) (w : World) : Calls Tryd.prog 76 #[.string s] w fun e w' => e = .returned (.string s) ∧ Below w.heap.size w w' :=
  Any.stringslite_Clone laysClone s w hs
theorem sclone_any (s : ByteArray) (hs : s.size ≤ 281474976710656) (w : World) : Calls Tryd.prog 72 #[.string s] w fun e w' => e = .returned (.string s) ∧ Below w.heap.size w w' := by
  have K := keep (liteClone_any s hs w)
  go_enter Tryd.func72, Tryd.ntmps72
  go_wp2_with (go_at_call 76; refine K.out.mono ?_; rintro e w' ⟨rfl, hb⟩)
  go_ret
  exact ⟨rfl, hb⟩
theorem tooLong_any (n : Int) (w : World) : Calls Tryd.prog 37 #[.int .i64 n] w fun e w' => e = .returned (.bool (decide (256 < n))) ∧ w = w' := by
  go_enter Tryd.func37, Tryd.ntmps37
  go_wp2
  go_ret
  exact ⟨rfl, rfl⟩

/-- An opening. -/
structure OV where
  k : Int
  p : Int
  l : Int
  la : ByteArray
  pr : ByteArray
def OV.cells (o : OV) : List Value := [.int .u8 o.k, .int .u16 o.p, .int .u32 o.l, .string o.la, .string o.pr]
theorem OV.len (o : OV) : o.cells.length = 5 := rfl
def oZ : OV := ⟨0, 0, 0, ⟨#[]⟩, ⟨#[]⟩⟩
structure OV.Ok (o : OV) : Prop where
  k : 0 ≤ o.k ∧ o.k < 256
  p : 0 ≤ o.p ∧ o.p < 65536
  l : 0 ≤ o.l ∧ o.l < 4294967296
  la : o.la.size ≤ 140737488351232
  pr : o.pr.size ≤ 140737488351232
theorem oZ_ok : oZ.Ok := ⟨by decide, by decide, by decide, by decide, by decide⟩
/-- Which openings may not be. -/
def wrongB (o : OV) : Bool := decide (2 < o.k % 128) || !okT o.la || !okT o.pr
set_option maxRecDepth 100000 in
theorem andNot128 : ∀ x : Fin 256, bits .andNot .u8 ((x.val : Nat) : Int) 128 = ((x.val % 128 : Nat) : Int) := by decide
theorem andNot_k (k : Int) (h : 0 ≤ k ∧ k < 256) : bits .andNot .u8 k 128 = k % 128 := by
  have := andNot128 ⟨k.toNat, by omega⟩
  dsimp only at this
  rw [show ((k.toNat : Nat) : Int) = k by omega] at this
  rw [this]
  omega
/-- A box that holds an opening. -/
structure OB (W : World) (g : Nat) (o : OV) : Prop where
  c0 : W.cell? ⟨g, 0, none⟩ = some (.int .u8 o.k)
  c1 : W.cell? ⟨g, 1, none⟩ = some (.int .u16 o.p)
  c2 : W.cell? ⟨g, 2, none⟩ = some (.int .u32 o.l)
  c3 : W.cell? ⟨g, 3, none⟩ = some (.string o.la)
  c4 : W.cell? ⟨g, 4, none⟩ = some (.string o.pr)
theorem OB.of {W : World} {g : Nat} {o : OV} {t : TypeId} {fr : Nat × Nat} (h : W.heap[g]? = some (.cells o.cells.toArray t fr)) : OB W g o := by
  refine ⟨?_, ?_, ?_, ?_, ?_⟩ <;> (rw [cell_of_row _ _ _ _ _ _ h]; rfl)
theorem OB.laid (W : World) (o : OV) (t : TypeId) : OB (W.alloc (.cells o.cells.toArray t)) W.heap.size o := OB.of (heap_alloc_new W _)
theorem OB.step {W W' : World} {g : Nat} {o : OV} (h : OB W g o) (hg : g < W.heap.size) (hb : Below W.heap.size W W') : OB W' g o := by
  have e : ∀ i, W'.cell? ⟨g, i, none⟩ = W.cell? ⟨g, i, none⟩ := fun i => hb.cell hg
  exact ⟨(e 0).trans h.c0, (e 1).trans h.c1, (e 2).trans h.c2, (e 3).trans h.c3, (e 4).trans h.c4⟩
set_option maxHeartbeats 2000000 in
theorem wrong_any (o : OV) (ho : o.Ok) (w : World) (hT : Tabs w) : Calls Tryd.prog 36 #[.agg o.cells.toArray] w fun e w' => e = .returned (.bool (wrongB o)) ∧ Below w.heap.size w w' := by
  have hl := below_lay w (.cells o.cells.toArray 25)
  have hob := OB.laid w o 25
  have hk := andNot_k o.k ho.k
  have KV := keep (fun s hs W (hb : Below w.heap.size w W) => valid_any s hs W (hT.step hb))
  have HL := keep hl
  have hla := ho.la
  have hpr := ho.pr
  have HO := keep hob
  obtain ⟨k, p, l, la, pr⟩ := o
  dsimp only [OV.cells] at *
  unfold wrongB
  dsimp only
  obtain ⟨c0, c1, c2, c3, c4⟩ := hob
  dsimp only at c0 c1 c2 c3 c4
  generalize hkk : k % 128 = kk at *
  by_cases h2 : 2 < kk
  · rw [decide_eq_true h2, Bool.true_or, Bool.true_or]
    go_enter Tryd.func36, Tryd.ntmps36
    go_wp2_with fail
    go_ret
    exact ⟨rfl, HL.out⟩
  · rw [decide_eq_false h2, Bool.false_or]
    have K1 := KV.out la (by omega) _ hl
    have hlt : w.heap.size < (w.alloc (.cells #[.int .u8 k, .int .u16 p, .int .u32 l, .string la, .string pr] 25)).heap.size := by simp
    have HLT := keep hlt
    clear hlt
    cases hv1 : okT la
    · rw [hv1] at K1
      have K1 := keep K1
      go_enter Tryd.func36, Tryd.ntmps36
      go_wp2_with (go_at_call 62; refine K1.out.mono ?_; rintro e w1 ⟨rfl, hb1⟩; replace hb1 := keep (up HL.out hb1))
      go_ret
      exact ⟨rfl, hb1.out⟩
    · rw [hv1] at K1
      have K1 := keep K1
      cases hv2 : okT pr
      all_goals
        have K2 := keep (fun W hb => KV.out pr (by omega) W hb)
        rw [hv2] at K2
        clear KV hv1 hv2
        go_enter Tryd.func36, Tryd.ntmps36
        go_wp2_with (go_at_call 62; first
          | (with_reducible refine K1.out.mono ?_; rintro e w1 ⟨rfl, hb1⟩; have q1 := (HO.out.step HLT.out hb1).c4; dsimp only at q1; replace hb1 := keep (up HL.out hb1))
          | (with_reducible refine (K2.out _ hb1.out).mono ?_; rintro e w2 ⟨rfl, hb2⟩; replace hb2 := keep (up hb1.out hb2)))
        go_ret
        exact ⟨rfl, hb2.out⟩
end Go.Proofs.YtapaiknghnbfmaaDoor
