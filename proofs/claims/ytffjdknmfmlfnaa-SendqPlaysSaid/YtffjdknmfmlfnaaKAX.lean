/- KAX of the stage: texts Q22, joined. -/
import Derived.Test.YtffjdknmfmlfnaaKAS
import Derived.Test.YtffjdknmfmlfnaaKAW
import Derived.Maps.OwnIn
set_option linter.unusedSimpArgs false
set_option linter.unusedVariables false
namespace Go.Proofs.Ytffjdknmfmlfnaa
section
open Go.RowKit Go.Maps
attribute [local go_sem] Oper.semAt_some

def toldB (bl : List (Int × Int)) (i : Nat) : Bool := decide (((i + 1 : Nat) : Int) ≤ rch bl (i + 1))
def comeE (bl : List (Int × Int)) (i : Nat) (e : En) : En := if toldB bl i = true then (if e.st = 1 ∨ e.st = 2 then { e with st := 3 } else e) else (if e.st = 3 then { e with st := 1, ms := 0 } else e)
/-- Those of the first i that became Came. -/
def camG (bl : List (Int × Int)) (es : List En) : Nat → List En
  | 0 => []
  | i + 1 => camG bl es i ++ (match es[i]? with | some e => if toldB bl i = true ∧ (e.st = 1 ∨ e.st = 2) then [{ e with st := 3 }] else [] | none => [])
theorem camG_len (bl : List (Int × Int)) (es : List En) (i : Nat) : (camG bl es i).length ≤ i := by
  induction i with
  | zero => exact Nat.le_refl _
  | succ i ih =>
    rw [camG, List.length_append]
    have : (match es[i]? with | some e => if toldB bl i = true ∧ (e.st = 1 ∨ e.st = 2) then [{ e with st := 3 }] else [] | none => []).length ≤ 1 := by
      split
      · split
        · exact Nat.le_refl _
        · exact Nat.zero_le _
      · exact Nat.zero_le _
    omega
structure CmB (w : World) (G : Gq) (q : Qm) (R : Nat → Int) (cum : Int) (m0 : Nat) (es cm : List En) (s : SL) (A : World) : Prop where
  lq : LQ w G q.nx (m0 + 1) [1, 2, 3] (q.es.map En.p) es q.mg A
  pe : Part (fun k => ∃ e ∈ q.es, e.p = k) w A
  cb : A.heap[w.heap.size]? = some (.cells #[.int .u32 cum] 22 (0, 0))
  tb : A.heap[w.heap.size + 1]? = some (.cells #[.slice s.1 s.2.1 s.2.2] 54 (0, 0))
  xb : A.heap[m0]? = some (.cells #[.slice (some ⟨w.heap.size + 2, 0, none⟩) 1025 1025] 117 (0, 0))
  rr : RB A (w.heap.size + 2) R
  row : A.ownsRow (w.heap.size + 2) 75 1 (.slice s.1 s.2.1 s.2.2) s.2.1 (cm.map En.ptr)
section
variable {w : World} {G : Gq} {q : Qm} {R : Nat → Int} {cum : Int} {m0 : Nat} {es cm : List En} {s : SL} {A B : World}
theorem CmB.st (h : CmB w G q R cum m0 es cm s A) {N : Nat} (k : StN N A B) (hN : w.heap.size ≤ N) : CmB w G q R cum m0 es cm s B :=
  ⟨h.lq.st k hN, h.pe.st k hN, k.cells h.cb, k.cells h.tb, k.cells h.xb, k.cells h.rr, k.own h.row⟩
theorem CmB.setE (h : CmB w G q R cum m0 es cm s A) (hm : w.heap.size + 3 ≤ m0) (hO : ∀ i, G.O i → i < w.heap.size) {i : Nat} {e e' : En} (he : es[i]? = some e) (j : Nat) (v : Value) (hp : e'.p = e.p) (hc : e'.c = e.c) (hmm : e'.m = e.m) (hcs : e.cells.toArray.setIfInBounds j v = e'.cells.toArray) :
    CmB w G q R cum m0 (es.set i e') cm s (A.setCell ⟨e.p, j, none⟩ v) := by
  have hlt := hO _ (h.lq.qa.en e (List.mem_of_getElem? he)).2.1
  have hin : ∃ x ∈ q.es, x.p = e.p := by
    have h1 : e.p ∈ es.map En.p := List.mem_map.2 ⟨e, List.mem_of_getElem? he, rfl⟩
    rw [h.lq.pp] at h1
    exact List.mem_map.1 h1
  refine ⟨h.lq.setE (by omega) hO he j v hp hc hmm hcs, h.pe.trans (part_set A e.p j v) fun k hk => .inl (by rw [hk]; exact hin), set_other h.cb (by omega), set_other h.tb (by omega), set_other h.xb (by omega), set_other h.rr (by omega), (part_set A e.p j v).own h.row fun g hg e' => ?_⟩
  have := (h.row.lt g hg).1
  omega
/-- One more came. -/
theorem CmB.app (h : CmB w G q R cum m0 es cm s A) (hm : w.heap.size + 3 ≤ m0) (hO : ∀ i, G.O i → i < w.heap.size) (hF : ∀ i, G.F i → i < w.heap.size) {e : En} {o : Obj} {w5 : World} {A5 : Option Addr} {c5 : Nat}
    (ho : w5.ownsRow (w.heap.size + 2) 75 1 (.slice A5 (s.2.1 + 1) c5) (s.2.1 + 1) (cm.map En.ptr ++ [e.ptr])) (hg : (A.alloc o).grownBy w5 (Value.slice s.1 s.2.1 s.2.2).ownBlock) (hl : (Value.slice A5 (s.2.1 + 1) c5).ownBlock = (Value.slice s.1 s.2.1 s.2.2).ownBlock ∨ (Value.slice A5 (s.2.1 + 1) c5).ownBlock = some (A.alloc o).heap.size) :
    CmB w G q R cum m0 es (cm ++ [e]) (A5, s.2.1 + 1, c5) (w5.setCell ⟨w.heap.size + 1, 0, none⟩ (.slice A5 (s.2.1 + 1) c5)) := by
  have hA := h.st (StN.of_below (N := w.heap.size) (below_lay A o)) (Nat.le_refl _)
  have hsz : (A.alloc o).heap.size = A.heap.size + 1 := by simp
  have hp1 : Part (fun i => (Value.slice s.1 s.2.1 s.2.2).ownBlock = some i) (A.alloc o) w5 := Part.of_grown hg fun k hk => hk
  have hge : ∀ g, (Value.slice s.1 s.2.1 s.2.2).ownBlock = some g → w.heap.size + 2 ≤ g ∧ g < A.heap.size := fun g hg' => h.row.lt g hg'
  have hp2 := part_set w5 (w.heap.size + 1) 0 (.slice A5 (s.2.1 + 1) c5)
  have hpt : Part (fun i => i = w.heap.size + 1 ∨ (Value.slice s.1 s.2.1 s.2.2).ownBlock = some i) (A.alloc o) (w5.setCell ⟨w.heap.size + 1, 0, none⟩ (.slice A5 (s.2.1 + 1) c5)) := (hp1.mono fun i hi => .inr hi).trans hp2 fun i hi => .inl (.inl hi)
  have k := Kpt.of_part (ok := fun i => ¬ (i = w.heap.size + 1 ∨ (Value.slice s.1 s.2.1 s.2.2).ownBlock = some i)) hpt fun _ h => h
  have lo : ∀ i, i < w.heap.size + 1 → ¬ (i = w.heap.size + 1 ∨ (Value.slice s.1 s.2.1 s.2.2).ownBlock = some i) := fun i h1 hc => by
    rcases hc with hc | hc
    · omega
    · have := (hge i hc).1; omega
  have ty : ∀ {g : Nat} {cs : Array Value} {t : TypeId} {fr : Nat × Nat}, (A.alloc o).heap[g]? = some (.cells cs t fr) → t ≠ 75 → g ≠ w.heap.size + 1 → ¬ (g = w.heap.size + 1 ∨ (Value.slice s.1 s.2.1 s.2.2).ownBlock = some g) := fun hg' ht hn hc => by
    rcases hc with hc | hc
    · exact hn hc
    · obtain ⟨cur, fr', hcur⟩ := own_cells hA.row hc
      exact cells_cells hg' hcur ht rfl
  have ht : w5.heap[w.heap.size + 1]? = some (.cells #[.slice s.1 s.2.1 s.2.2] 54 (0, 0)) := (hp1.block _ (Array.getElem?_eq_some_iff.1 hA.tb).1 fun hc => by have := (hge _ hc).1; omega).trans hA.tb
  have ib := hA.lq.ib
  refine ⟨⟨hA.lq.qa.apart hpt (fun i hi => lo i (by have := hO i hi; omega)) (fun i hi => lo i (by have := hF i hi; omega)), h.lq.pp, ib.kept k (ty ib.sb (by decide) (by omega)) (ty ib.db (by decide) (by omega)) (ty ib.tb (by decide) (by omega)), hA.lq.pt.trans hpt fun x hx => .inr ?_⟩, hA.pe.trans hpt fun x hx => .inr ?_, k.cells _ _ _ _ (lo _ (by omega)) hA.cb, heap_setCell_same w5 _ 0 _ _ _ ht, k.cells _ _ _ _ (ty hA.xb (by decide) (by omega)) hA.xb, k.cells _ _ _ _ (ty hA.rr (by decide) (by omega)) hA.rr, ?_⟩
  · rcases hx with rfl | hx
    · omega
    · have := (hge x hx).1; omega
  · rcases hx with rfl | hx
    · omega
    · have := (hge x hx).1; omega
  · rw [List.map_append]
    exact hp2.own ho fun g hg' e' => by
      rcases hl with hl | hl
      · rw [hl] at hg'
        have := (hge g hg').1
        omega
      · rw [hl] at hg'
        injection hg' with hg'
        have := (Array.getElem?_eq_some_iff.1 hA.tb).1
        omega
end
end
end Go.Proofs.Ytffjdknmfmlfnaa
