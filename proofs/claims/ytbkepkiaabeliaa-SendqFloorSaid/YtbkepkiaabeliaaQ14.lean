/- One more entry: the memory's part of Push. -/
import Derived.Test.YtbkepkiaabeliaaQ13
namespace Go.Proofs.Ytbkepkiaabeliaa
open Go.RowKit Go.Maps
set_option linter.unusedVariables false

/-- Where a chunk's lists lie. -/
def adB (x : CZ) (k : Nat) : Prop := ∃ A ∈ x.ads, ∃ a, A = some a ∧ a.block = k
def appG (G : Gq) (s : SL) (e : En) : Gq := { G with s := s, O := fun i => G.O i ∨ i = e.p ∨ (Value.slice s.1 s.2.1 s.2.2).ownBlock = some i, F := fun i => G.F i ∨ adB e.c i }
theorem QA.app {w : World} {G : Gq} {q : Qm} (h : QA w G q) {N : Nat} (hN : ∀ i, G.O i ∨ G.F i → i < N) {e : En} (he : w.heap[e.p]? = some (.cells e.cells.toArray 90 (0, 0))) (hz : ZV w e.c) (hs : Sm e.c) (ha : ∀ i, adB e.c i → N ≤ i ∧ i < w.heap.size ∧ i ≠ e.p) (hp : N ≤ e.p)
    (hm : G.O e.m) (hmg : MgAt w e.m (q.mg e.m)) (hle : q.es.length + 1 ≤ 1024) {w1 : World} {A' : Option Addr} {c' : Nat} (ho : w1.ownsRow 0 87 1 (.slice A' (G.s.2.1 + 1) c') (G.s.2.1 + 1) (q.es.map En.ptr ++ [e.ptr])) (hg : w.grownBy w1 (Value.slice G.s.1 G.s.2.1 G.s.2.2).ownBlock)
    (hl : (Value.slice A' (G.s.2.1 + 1) c').ownBlock = (Value.slice G.s.1 G.s.2.1 G.s.2.2).ownBlock ∨ (Value.slice A' (G.s.2.1 + 1) c').ownBlock = some w.heap.size) :
    QA (w1.setCell ⟨G.b, 0, none⟩ (.slice A' (G.s.2.1 + 1) c')) (appG G (A', G.s.2.1 + 1, c') e) { q with es := q.es ++ [e] } ∧ Part G.O w (w1.setCell ⟨G.b, 0, none⟩ (.slice A' (G.s.2.1 + 1) c')) := by
  have hp1 : Part (fun i => (Value.slice G.s.1 G.s.2.1 G.s.2.2).ownBlock = some i) w w1 := Part.of_grown hg fun k hk => hk
  have hne : ∀ {g : Nat} {cs : Array Value} {t : TypeId} {fr : Nat × Nat}, w.heap[g]? = some (.cells cs t fr) → t ≠ 87 → ¬ (Value.slice G.s.1 G.s.2.1 G.s.2.2).ownBlock = some g := fun hg' ht ee => by
    obtain ⟨cur, fr', hcur⟩ := own_cells h.row ee
    exact cells_cells hg' hcur ht rfl
  have hb1 : w1.heap[G.b]? = some (.cells #[.slice G.s.1 G.s.2.1 G.s.2.2, .int .u32 q.nx] 72 (0, 0)) := (hp1.block _ (h.olt _ h.ob) (hne h.blk (by decide))).trans h.blk
  have hp2 := part_set w1 G.b 0 (.slice A' (G.s.2.1 + 1) c')
  have hpt : Part (fun i => i = G.b ∨ (Value.slice G.s.1 G.s.2.1 G.s.2.2).ownBlock = some i) w (w1.setCell ⟨G.b, 0, none⟩ (.slice A' (G.s.2.1 + 1) c')) := (hp1.mono fun i hi => .inr hi).trans hp2 fun i hi => .inl (.inl hi)
  have hO : Part G.O w (w1.setCell ⟨G.b, 0, none⟩ (.slice A' (G.s.2.1 + 1) c')) := hpt.mono fun i hi => by
    rcases hi with rfl | hi
    · exact h.ob
    · exact h.ov i hi
  have k := Kpt.of_part (ok := fun i => ¬ (i = G.b ∨ (Value.slice G.s.1 G.s.2.1 G.s.2.2).ownBlock = some i)) hpt fun _ h => h
  have okc : ∀ {g : Nat} {cs : Array Value} {t : TypeId} {fr : Nat × Nat}, w.heap[g]? = some (.cells cs t fr) → t ≠ 87 → t ≠ 72 → ¬ (g = G.b ∨ (Value.slice G.s.1 G.s.2.1 G.s.2.2).ownBlock = some g) := fun hg' h1 h2 hc => by
    rcases hc with hc | hc
    · exact cells_cells hg' h.blk h2 hc
    · exact hne hg' h1 hc
  have okF : ∀ i, G.F i → ¬ (i = G.b ∨ (Value.slice G.s.1 G.s.2.1 G.s.2.2).ownBlock = some i) := fun i hi hc => by
    rcases hc with rfl | hc
    · exact h.dis _ h.ob hi
    · exact h.dis _ (h.ov i hc) hi
  have okA : ∀ i, adB e.c i → ¬ (i = G.b ∨ (Value.slice G.s.1 G.s.2.1 G.s.2.2).ownBlock = some i) := fun i hi hc => by
    have h1 := (ha i hi).1
    rcases hc with rfl | hc
    · have := hN _ (.inl h.ob); omega
    · have := hN _ (.inl (h.ov i hc)); omega
  have hbn : ∀ g, (Value.slice A' (G.s.2.1 + 1) c').ownBlock = some g → g ≠ G.b := fun g hg' ee => by
    rcases hl with hl | hl
    · rw [hl] at hg'
      exact hne h.blk (by decide) (by rw [← ee]; exact hg')
    · rw [hl] at hg'
      injection hg' with hg'
      have := h.olt _ h.ob
      omega
  refine ⟨⟨heap_setCell_same w1 G.b 0 _ _ _ hb1, .inl h.ob, ?_, fun g hg' => .inr (.inr hg'), ?_, ?_, h.nx, by simpa using hle, ?_, ?_, ?_⟩, hO⟩
  · show World.ownsRow _ 0 _ 1 (.slice A' (G.s.2.1 + 1) c') (G.s.2.1 + 1) ((q.es ++ [e]).map En.ptr)
    rw [List.map_append]
    exact hp2.own ho fun g hg' => hbn g hg'
  · intro x hx
    rcases List.mem_append.1 hx with hx | hx
    · obtain ⟨a1, a2, a3, a4⟩ := h.en x hx
      exact ⟨⟨k.cells _ _ _ _ (okc a1.blk (by decide) (by decide)) a1.blk, a1.zv.kept k fun A hA a ea => okF _ (a1.inf A hA a ea), a1.sm, fun A hA a ea => .inl (a1.inf A hA a ea)⟩, .inl a2, k.cells _ _ _ _ (okc a3 (by decide) (by decide)) a3, .inl a4⟩
    · rw [List.mem_singleton.1 hx]
      exact ⟨⟨k.cells _ _ _ _ (okc he (by decide) (by decide)) he, hz.kept k fun A hA a ea => okA _ ⟨A, hA, a, ea, rfl⟩, hs, fun A hA a ea => .inr ⟨A, hA, a, ea, rfl⟩⟩, .inr (.inl rfl), k.cells _ _ _ _ (okc hmg (by decide) (by decide)) hmg, .inl hm⟩
  · show ((q.es ++ [e]).map En.p).Nodup
    rw [List.map_append, List.nodup_append]
    refine ⟨h.nd, by simp, fun x hx y hy => ?_⟩
    rw [List.map_cons, List.map_nil, List.mem_singleton] at hy
    subst hy
    obtain ⟨z, hz', rfl⟩ := List.mem_map.1 hx
    have := hN _ (.inl (h.en z hz').2.1)
    omega
  · intro i hi hf
    rcases hi with hi | rfl | hi
    · rcases hf with hf | hf
      · exact h.dis i hi hf
      · have h1 := (ha i hf).1
        have := hN _ (.inl hi)
        omega
    · rcases hf with hf | hf
      · have := hN _ (.inr hf); omega
      · exact (ha _ hf).2.2 rfl
    · rcases hl with hl | hl
      · rw [show (Value.slice (A', G.s.2.1 + 1, c').1 (A', G.s.2.1 + 1, c').2.1 (A', G.s.2.1 + 1, c').2.2).ownBlock = _ from hl] at hi
        rcases hf with hf | hf
        · exact h.dis i (h.ov i hi) hf
        · have h1 := (ha i hf).1
          have := hN _ (.inl (h.ov i hi))
          omega
      · rw [show (Value.slice (A', G.s.2.1 + 1, c').1 (A', G.s.2.1 + 1, c').2.1 (A', G.s.2.1 + 1, c').2.2).ownBlock = _ from hl] at hi
        injection hi with hi
        rcases hf with hf | hf
        · have := h.flt i hf; omega
        · have := (ha i hf).2.1; omega
  · intro i hi
    rcases hi with hi | rfl | hi
    · exact Nat.lt_of_lt_of_le (h.olt i hi) hpt.size
    · exact Nat.lt_of_lt_of_le (Array.getElem?_eq_some_iff.1 he).1 hpt.size
    · exact Nat.lt_of_lt_of_le (ho.lt i hi).2 hp2.size
  · intro i hi
    rcases hi with hi | hi
    · exact Nat.lt_of_lt_of_le (h.flt i hi) hpt.size
    · exact Nat.lt_of_lt_of_le (ha i hi).2.1 hpt.size
/-- A message's block is the queue's own. -/
theorem QA.msg {w : World} {G : Gq} {q : Qm} (h : QA w G q) {m : Nat} {g : Mg} (hm : MgAt w m g) (hn : ¬ G.O m ∧ ¬ G.F m) : QA w { G with O := fun i => G.O i ∨ i = m } { q with mg := fun x => if x = m then g else q.mg x } :=
  ⟨h.blk, .inl h.ob, h.row, fun g hg => .inl (h.ov g hg), fun e he => by
    obtain ⟨a1, a2, a3, a4⟩ := h.en e he
    refine ⟨⟨a1.blk, a1.zv, a1.sm, a1.inf⟩, .inl a2, ?_, .inl a4⟩
    show MgAt w e.m (if e.m = m then g else q.mg e.m)
    rw [if_neg (fun ee => hn.1 (by rw [← ee]; exact a4))]
    exact a3, h.nd, h.nx, h.le, fun i hi hf => by
    rcases hi with hi | rfl
    · exact h.dis i hi hf
    · exact hn.2 hf, fun i hi => by
    rcases hi with hi | rfl
    · exact h.olt i hi
    · exact (Array.getElem?_eq_some_iff.1 hm).1, h.flt⟩
/-- What Push leaves of l's first j chunks. -/
structure PushN (q : Qm) (l : List CZ) (m j : Nat) (new : List En) : Prop where
  len : new.length = j
  all : ∀ (i : Nat) (c : CZ) (e : En), l[i]? = some c → new[i]? = some e → e.c.ct = { c.ct with a := (q.nx + (i : Int)) % 4294967296 } ∧ e.c.da.2.1 = c.da.2.1 ∧ e.m = m ∧ e.st = 0 ∧ e.sn = 0 ∧ e.la = 0 ∧ e.ms = 0
def pushQ (q : Qm) (new : List En) (m : Nat) (un tr : Int) : Qm := ⟨q.es ++ new, (q.nx + (new.length : Int)) % 4294967296, fun x => if x = m then ⟨un, tr, false⟩ else q.mg x⟩
/-- What it answers. -/
def pushE (q : Qm) (l : List CZ) : Int := if l = [] ∨ l.any unfitB = true then 1 else if 1024 < q.es.length + l.length then 9 else 0
end Go.Proofs.Ytbkepkiaabeliaa
