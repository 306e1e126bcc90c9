/- KAR of the stage: texts Q14, Q20, joined. -/
import Derived.Test.YtffjdknmfmlfnaaKAQ
set_option linter.unusedSimpArgs false
set_option linter.unusedVariables false
namespace Go.Proofs.Ytffjdknmfmlfnaa
section
open Go.RowKit Go.Maps

/-- Where a chunk's lists lie. -/
def adB (x : CZ) (k : Nat) : Prop := ∃ A ∈ x.ads, ∃ a, A = some a ∧ a.block = k
def appG (G : Gq) (s : SL) (e : En) : Gq := { G with s := s, O := fun i => G.O i ∨ i = e.p ∨ (Value.slice s.1 s.2.1 s.2.2).ownBlock = some i, F := fun i => G.F i ∨ adB e.c i }
theorem QA.app {w : World} {G : Gq} {q : Qm} (h : QA w G q) {N : Nat} (hN : ∀ i, G.O i ∨ G.F i → i < N) {e : En} (he : w.heap[e.p]? = some (.cells e.cells.toArray 78 (0, 0))) (hz : ZV w e.c) (hs : Sm e.c) (ha : ∀ i, adB e.c i → N ≤ i ∧ i < w.heap.size ∧ i ≠ e.p) (hp : N ≤ e.p)
    (hm : G.O e.m) (hmg : MgAt w e.m (q.mg e.m)) (hle : q.es.length + 1 ≤ 1024) {w1 : World} {A' : Option Addr} {c' : Nat} (ho : w1.ownsRow 0 75 1 (.slice A' (G.s.2.1 + 1) c') (G.s.2.1 + 1) (q.es.map En.ptr ++ [e.ptr])) (hg : w.grownBy w1 (Value.slice G.s.1 G.s.2.1 G.s.2.2).ownBlock)
    (hl : (Value.slice A' (G.s.2.1 + 1) c').ownBlock = (Value.slice G.s.1 G.s.2.1 G.s.2.2).ownBlock ∨ (Value.slice A' (G.s.2.1 + 1) c').ownBlock = some w.heap.size) :
    QA (w1.setCell ⟨G.b, 0, none⟩ (.slice A' (G.s.2.1 + 1) c')) (appG G (A', G.s.2.1 + 1, c') e) { q with es := q.es ++ [e] } ∧ Part G.O w (w1.setCell ⟨G.b, 0, none⟩ (.slice A' (G.s.2.1 + 1) c')) := by
  have hp1 : Part (fun i => (Value.slice G.s.1 G.s.2.1 G.s.2.2).ownBlock = some i) w w1 := Part.of_grown hg fun k hk => hk
  have hne : ∀ {g : Nat} {cs : Array Value} {t : TypeId} {fr : Nat × Nat}, w.heap[g]? = some (.cells cs t fr) → t ≠ 75 → ¬ (Value.slice G.s.1 G.s.2.1 G.s.2.2).ownBlock = some g := fun hg' ht ee => by
    obtain ⟨cur, fr', hcur⟩ := own_cells h.row ee
    exact cells_cells hg' hcur ht rfl
  have hb1 : w1.heap[G.b]? = some (.cells #[.slice G.s.1 G.s.2.1 G.s.2.2, .int .u32 q.nx] 56 (0, 0)) := (hp1.block _ (h.olt _ h.ob) (hne h.blk (by decide))).trans h.blk
  have hp2 := part_set w1 G.b 0 (.slice A' (G.s.2.1 + 1) c')
  have hpt : Part (fun i => i = G.b ∨ (Value.slice G.s.1 G.s.2.1 G.s.2.2).ownBlock = some i) w (w1.setCell ⟨G.b, 0, none⟩ (.slice A' (G.s.2.1 + 1) c')) := (hp1.mono fun i hi => .inr hi).trans hp2 fun i hi => .inl (.inl hi)
  have hO : Part G.O w (w1.setCell ⟨G.b, 0, none⟩ (.slice A' (G.s.2.1 + 1) c')) := hpt.mono fun i hi => by
    rcases hi with rfl | hi
    · exact h.ob
    · exact h.ov i hi
  have k := Kpt.of_part (ok := fun i => ¬ (i = G.b ∨ (Value.slice G.s.1 G.s.2.1 G.s.2.2).ownBlock = some i)) hpt fun _ h => h
  have okc : ∀ {g : Nat} {cs : Array Value} {t : TypeId} {fr : Nat × Nat}, w.heap[g]? = some (.cells cs t fr) → t ≠ 75 → t ≠ 56 → ¬ (g = G.b ∨ (Value.slice G.s.1 G.s.2.1 G.s.2.2).ownBlock = some g) := fun hg' h1 h2 hc => by
    rcases hc with hc | hc
    · exact cells_cells hg' h.blk h2 hc
    · exact hne hg' h1 hc
  have okF : ∀ i, G.F i → ¬ (i = G.b ∨ (Value.slice G.s.1 G.s.2.1 G.s.2.2).ownBlock = some i) := fun i hi hc => by
    rcases hc with rfl | hc
    · exact h.dis _ h.ob hi
    · exact h.dis _ (h.ov i hc) hi
  have okA : ∀ i, adB e.c i → ¬ (i = G.b ∨ (Value.slice G.s.1 G.s.2.1 G.s.2.2).ownBlock = some i) := fun i hi hc => by
    have h1 := (ha i hi).1
    rcases hc with rfl | hc
    · have := hN _ (.inl h.ob); omega
    · have := hN _ (.inl (h.ov i hc)); omega
  have hbn : ∀ g, (Value.slice A' (G.s.2.1 + 1) c').ownBlock = some g → g ≠ G.b := fun g hg' ee => by
    rcases hl with hl | hl
    · rw [hl] at hg'
      exact hne h.blk (by decide) (by rw [← ee]; exact hg')
    · rw [hl] at hg'
      injection hg' with hg'
      have := h.olt _ h.ob
      omega
  refine ⟨⟨heap_setCell_same w1 G.b 0 _ _ _ hb1, .inl h.ob, ?_, fun g hg' => .inr (.inr hg'), ?_, ?_, h.nx, by simpa using hle, ?_, ?_, ?_⟩, hO⟩
  · show World.ownsRow _ 0 _ 1 (.slice A' (G.s.2.1 + 1) c') (G.s.2.1 + 1) ((q.es ++ [e]).map En.ptr)
    rw [List.map_append]
    exact hp2.own ho fun g hg' => hbn g hg'
  · intro x hx
    rcases List.mem_append.1 hx with hx | hx
    · obtain ⟨a1, a2, a3, a4⟩ := h.en x hx
      exact ⟨⟨k.cells _ _ _ _ (okc a1.blk (by decide) (by decide)) a1.blk, a1.zv.kept k fun A hA a ea => okF _ (a1.inf A hA a ea), a1.sm, fun A hA a ea => .inl (a1.inf A hA a ea)⟩, .inl a2, k.cells _ _ _ _ (okc a3 (by decide) (by decide)) a3, .inl a4⟩
    · rw [List.mem_singleton.1 hx]
      exact ⟨⟨k.cells _ _ _ _ (okc he (by decide) (by decide)) he, hz.kept k fun A hA a ea => okA _ ⟨A, hA, a, ea, rfl⟩, hs, fun A hA a ea => .inr ⟨A, hA, a, ea, rfl⟩⟩, .inr (.inl rfl), k.cells _ _ _ _ (okc hmg (by decide) (by decide)) hmg, .inl hm⟩
  · show ((q.es ++ [e]).map En.p).Nodup
    rw [List.map_append, List.nodup_append]
    refine ⟨h.nd, by simp, fun x hx y hy => ?_⟩
    rw [List.map_cons, List.map_nil, List.mem_singleton] at hy
    subst hy
    obtain ⟨z, hz', rfl⟩ := List.mem_map.1 hx
    have := hN _ (.inl (h.en z hz').2.1)
    omega
  · intro i hi hf
    rcases hi with hi | rfl | hi
    · rcases hf with hf | hf
      · exact h.dis i hi hf
      · have h1 := (ha i hf).1
        have := hN _ (.inl hi)
        omega
    · rcases hf with hf | hf
      · have := hN _ (.inr hf); omega
      · exact (ha _ hf).2.2 rfl
    · rcases hl with hl | hl
      · rw [show (Value.slice (A', G.s.2.1 + 1, c').1 (A', G.s.2.1 + 1, c').2.1 (A', G.s.2.1 + 1, c').2.2).ownBlock = _ from hl] at hi
        rcases hf with hf | hf
        · exact h.dis i (h.ov i hi) hf
        · have h1 := (ha i hf).1
          have := hN _ (.inl (h.ov i hi))
          omega
      · rw [show (Value.slice (A', G.s.2.1 + 1, c').1 (A', G.s.2.1 + 1, c').2.1 (A', G.s.2.1 + 1, c').2.2).ownBlock = _ from hl] at hi
        injection hi with hi
        rcases hf with hf | hf
        · have := h.flt i hf; omega
        · have := (ha i hf).2.1; omega
  · intro i hi
    rcases hi with hi | rfl | hi
    · exact Nat.lt_of_lt_of_le (h.olt i hi) hpt.size
    · exact Nat.lt_of_lt_of_le (Array.getElem?_eq_some_iff.1 he).1 hpt.size
    · exact Nat.lt_of_lt_of_le (ho.lt i hi).2 hp2.size
  · intro i hi
    rcases hi with hi | hi
    · exact Nat.lt_of_lt_of_le (h.flt i hi) hpt.size
    · exact Nat.lt_of_lt_of_le (ha i hi).2.1 hpt.size
/-- A message's block is the queue's own. -/
theorem QA.msg {w : World} {G : Gq} {q : Qm} (h : QA w G q) {m : Nat} {g : Mg} (hm : MgAt w m g) (hn : ¬ G.O m ∧ ¬ G.F m) : QA w { G with O := fun i => G.O i ∨ i = m } { q with mg := fun x => if x = m then g else q.mg x } :=
  ⟨h.blk, .inl h.ob, h.row, fun g hg => .inl (h.ov g hg), fun e he => by
    obtain ⟨a1, a2, a3, a4⟩ := h.en e he
    refine ⟨⟨a1.blk, a1.zv, a1.sm, a1.inf⟩, .inl a2, ?_, .inl a4⟩
    show MgAt w e.m (if e.m = m then g else q.mg e.m)
    rw [if_neg (fun ee => hn.1 (by rw [← ee]; exact a4))]
    exact a3, h.nd, h.nx, h.le, fun i hi hf => by
    rcases hi with hi | rfl
    · exact h.dis i hi hf
    · exact hn.2 hf, fun i hi => by
    rcases hi with hi | rfl
    · exact h.olt i hi
    · exact (Array.getElem?_eq_some_iff.1 hm).1, h.flt⟩
/-- What Push leaves of l's first j chunks. -/
structure PushN (q : Qm) (l : List CZ) (m j : Nat) (new : List En) : Prop where
  len : new.length = j
  all : ∀ (i : Nat) (c : CZ) (e : En), l[i]? = some c → new[i]? = some e → e.c.ct = { c.ct with a := (q.nx + (i : Int)) % 4294967296 } ∧ e.c.da.2.1 = c.da.2.1 ∧ e.m = m ∧ e.st = 0 ∧ e.sn = 0 ∧ e.la = 0 ∧ e.ms = 0
def pushQ (q : Qm) (new : List En) (m : Nat) (un tr : Int) : Qm := ⟨q.es ++ new, (q.nx + (new.length : Int)) % 4294967296, fun x => if x = m then ⟨un, tr, false⟩ else q.mg x⟩
/-- What it answers. -/
def pushE (q : Qm) (l : List CZ) : Int := if l = [] ∨ l.any unfitB = true then 1 else if 1024 < q.es.length + l.length then 9 else 0
end
section
open Go.RowKit Go.Maps

theorem flat_ptr (es : List En) : flatF ptC (es.map En.p) = es.map En.ptr := by
  unfold flatF
  induction es with
  | nil => rfl
  | cons e r ih =>
    rw [List.map_cons, List.flatMap_cons, ih]
    rfl
def cutG (G : Gq) (k : Nat) : Gq := { G with s := (G.s.1, G.s.2.1 - k, G.s.2.2) }
def cutQ (q : Qm) (k : Nat) : Qm := { q with es := q.es.drop k }
theorem own_blk (A : Option Addr) (n n' c c' : Nat) : (Value.slice A n c).ownBlock = (Value.slice A n' c').ownBlock := by cases A <;> rfl
theorem QA.cut {w : World} {G : Gq} {q : Qm} (h : QA w G q) {k : Nat} (hk : k ≤ q.es.length) {w1 : World} (ho : w1.ownsRow 0 75 1 (.slice G.s.1 (G.s.2.1 - k) G.s.2.2) (G.s.2.1 - k) ((q.es.drop k).map En.ptr)) (hp1 : Part (fun i => (Value.slice G.s.1 G.s.2.1 G.s.2.2).ownBlock = some i) w w1) :
    QA (w1.setCell ⟨G.b, 0, none⟩ (.slice G.s.1 (G.s.2.1 - k) G.s.2.2)) (cutG G k) (cutQ q k) ∧ Part (fun i => i = G.b ∨ (Value.slice G.s.1 G.s.2.1 G.s.2.2).ownBlock = some i) w (w1.setCell ⟨G.b, 0, none⟩ (.slice G.s.1 (G.s.2.1 - k) G.s.2.2)) := by
  have hne : ∀ {g : Nat} {cs : Array Value} {t : TypeId} {fr : Nat × Nat}, w.heap[g]? = some (.cells cs t fr) → t ≠ 75 → ¬ (Value.slice G.s.1 G.s.2.1 G.s.2.2).ownBlock = some g := fun hg' ht ee => by
    obtain ⟨cur, fr', hcur⟩ := own_cells h.row ee
    exact cells_cells hg' hcur ht rfl
  have hb1 : w1.heap[G.b]? = some (.cells #[.slice G.s.1 G.s.2.1 G.s.2.2, .int .u32 q.nx] 56 (0, 0)) := (hp1.block _ (h.olt _ h.ob) (hne h.blk (by decide))).trans h.blk
  have hp2 := part_set w1 G.b 0 (.slice G.s.1 (G.s.2.1 - k) G.s.2.2)
  have hpt : Part (fun i => i = G.b ∨ (Value.slice G.s.1 G.s.2.1 G.s.2.2).ownBlock = some i) w (w1.setCell ⟨G.b, 0, none⟩ (.slice G.s.1 (G.s.2.1 - k) G.s.2.2)) := (hp1.mono fun i hi => .inr hi).trans hp2 fun i hi => .inl (.inl hi)
  have kk := Kpt.of_part (ok := fun i => ¬ (i = G.b ∨ (Value.slice G.s.1 G.s.2.1 G.s.2.2).ownBlock = some i)) hpt fun _ h => h
  have okc : ∀ {g : Nat} {cs : Array Value} {t : TypeId} {fr : Nat × Nat}, w.heap[g]? = some (.cells cs t fr) → t ≠ 75 → t ≠ 56 → ¬ (g = G.b ∨ (Value.slice G.s.1 G.s.2.1 G.s.2.2).ownBlock = some g) := fun hg' h1 h2 hc => by
    rcases hc with hc | hc
    · exact cells_cells hg' h.blk h2 hc
    · exact hne hg' h1 hc
  have okF : ∀ i, G.F i → ¬ (i = G.b ∨ (Value.slice G.s.1 G.s.2.1 G.s.2.2).ownBlock = some i) := fun i hi hc => by
    rcases hc with rfl | hc
    · exact h.dis _ h.ob hi
    · exact h.dis _ (h.ov i hc) hi
  have hbn : ∀ g, (Value.slice G.s.1 (G.s.2.1 - k) G.s.2.2).ownBlock = some g → g ≠ G.b := fun g hg' ee => by
    rw [own_blk _ _ G.s.2.1 _ G.s.2.2] at hg'
    exact hne h.blk (by decide) (by rw [← ee]; exact hg')
  refine ⟨⟨heap_setCell_same w1 G.b 0 _ _ _ hb1, h.ob, ?_, fun g hg' => h.ov g (by rw [own_blk _ _ (G.s.2.1 - k) _ G.s.2.2]; exact hg'), ?_, ?_, h.nx, ?_, h.dis, fun i hi => Nat.lt_of_lt_of_le (h.olt i hi) hpt.size, fun i hi => Nat.lt_of_lt_of_le (h.flt i hi) hpt.size⟩, hpt⟩
  · exact hp2.own ho fun g hg' => hbn g hg'
  · intro x hx
    have hx : x ∈ q.es.drop k := hx
    obtain ⟨a1, a2, a3, a4⟩ := h.en x (List.mem_of_mem_drop hx)
    exact ⟨⟨kk.cells _ _ _ _ (okc a1.blk (by decide) (by decide)) a1.blk, a1.zv.kept kk fun A hA a ea => okF _ (a1.inf A hA a ea), a1.sm, fun A hA a ea => a1.inf A hA a ea⟩, a2, kk.cells _ _ _ _ (okc a3 (by decide) (by decide)) a3, a4⟩
  · show ((q.es.drop k).map En.p).Nodup
    rw [List.map_drop]
    exact h.nd.sublist (List.drop_sublist k _)
  · show (q.es.drop k).length ≤ 1024
    have := h.le
    rw [List.length_drop]
    omega
/-- What goes away lies in a row of its own, as it was. -/
def Gone (w w' : World) (q : Qm) (k : Nat) (A : Option Addr) (c : Nat) : Prop :=
  w'.ownsRow w.heap.size 75 1 (.slice A k c) k ((q.es.take k).map En.ptr) ∧ ES w' (A, k, c) (q.es.take k)
set_option maxRecDepth 100000 in
set_option maxHeartbeats 400000 in
theorem cut_any {w : World} {G : Gq} {q : Qm} (h : QA w G q) (n : Int) :
    Calls Try.prog 43 #[.pointer (some ⟨G.b, 0, none⟩), .int .u32 n] w fun e w' => ∃ A c, e = .returned (.slice A (stp q n) c) ∧ Gone w w' q (stp q n) A c ∧ QA w' (cutG G (stp q n)) (cutQ q (stp q n)) ∧ Part (fun i => i = G.b ∨ (Value.slice G.s.1 G.s.2.1 G.s.2.2).ownBlock = some i) w w' := by
  have K1 := keep (upTo_any h n)
  have hsl := stp_le q n
  have hle := h.le
  have hqn := h.n
  have HQ := keep h
  have hkl : ((q.es.take (stp q n)).map En.p).length = stp q n := by rw [List.length_map, List.length_take]; omega
  have K2 := keep (fun A c j (hc : stp q n ≤ c) (hA : stp q n ≠ 0 → A = G.s.1) => (cPtr_any A (stp q n) c ((q.es.take (stp q n)).map En.p) (w.drewN j) ⟨hkl.symm, hc, by rw [flat_ptr]; exact ((HQ.out.st (StN.drewN w.heap.size w j)).es_take hsl c hA).rd⟩ (by omega)).mono
    (fun e w' hh => show ∃ A c, e = .returned (.slice A (stp q n) c) ∧ Below w.heap.size w w' ∧ w'.ownsRow w.heap.size 75 1 (.slice A (stp q n) c) (stp q n) ((q.es.take (stp q n)).map En.ptr) by
      obtain ⟨A, c, e1, e2, e3⟩ := hh
      rw [hkl] at e1 e3
      rw [flat_ptr] at e3
      exact ⟨A, c, e1, (below_drewN (Below.refl _ w) j).trans e2, e3⟩))
  have fin : ∀ (w1 w2 : World) (A : Option Addr) (c : Nat), Below w.heap.size w w1 → w1.ownsRow w.heap.size 75 1 (.slice A (stp q n) c) (stp q n) ((q.es.take (stp q n)).map En.ptr) → w2.ownsRow 0 75 1 (.slice G.s.1 (G.s.2.1 - stp q n) G.s.2.2) (G.s.2.1 - stp q n) ((q.es.drop (stp q n)).map En.ptr) → Part (fun i => (Value.slice G.s.1 G.s.2.1 G.s.2.2).ownBlock = some i) w1 w2 →
      Gone w (w2.setCell ⟨G.b, 0, none⟩ (.slice G.s.1 (G.s.2.1 - stp q n) G.s.2.2)) q (stp q n) A c ∧ QA (w2.setCell ⟨G.b, 0, none⟩ (.slice G.s.1 (G.s.2.1 - stp q n) G.s.2.2)) (cutG G (stp q n)) (cutQ q (stp q n)) ∧ Part (fun i => i = G.b ∨ (Value.slice G.s.1 G.s.2.1 G.s.2.2).ownBlock = some i) w (w2.setCell ⟨G.b, 0, none⟩ (.slice G.s.1 (G.s.2.1 - stp q n) G.s.2.2)) := by
    intro w1 w2 A c hb ho hr hp
    have hq1 := HQ.out.step hb
    obtain ⟨c1, c2⟩ := hq1.cut hsl hr hp
    have hlow : ∀ i, (i = G.b ∨ (Value.slice G.s.1 G.s.2.1 G.s.2.2).ownBlock = some i) → i < w.heap.size := fun i hi => by
      rcases hi with rfl | hi
      · exact HQ.out.olt _ HQ.out.ob
      · exact HQ.out.olt _ (HQ.out.ov i hi)
    have ho' := c2.own ho fun g hg hc => by
      have := (ho.lt g hg).1
      have := hlow g hc
      omega
    have hnl : ∀ e ∈ q.es.take (stp q n), ¬ (e.p = G.b ∨ (Value.slice G.s.1 G.s.2.1 G.s.2.2).ownBlock = some e.p) := fun e he hc => by
      have hb := (hq1.en e (List.mem_of_mem_take he)).1.blk
      rcases hc with hc | hc
      · exact cells_cells hb hq1.blk (by decide) hc
      · obtain ⟨cur, fr', hcur⟩ := own_cells hq1.row hc
        exact cells_cells hb hcur (by decide) rfl
    refine ⟨⟨ho', ⟨by show stp q n = _; rw [List.length_take]; omega, ?_, fun e he => ?_⟩⟩, c1, (Part.of_below _ hb).trans c2 fun i hi => .inl hi⟩
    · have := (LR.of_own (f := ptC) (K := 1) ptC_len (by decide) (l := (q.es.take (stp q n)).map En.p) (by rw [flat_ptr]; exact ho')).2.2
      rwa [flat_ptr] at this
    · have he1 := (hq1.en e (List.mem_of_mem_take he)).1
      exact ⟨(c2.block _ (hq1.olt _ (hq1.en e (List.mem_of_mem_take he)).2.1) (hnl e he)).trans he1.blk, he1.sm⟩
  have hnc : G.s.2.1 ≤ G.s.2.2 ∧ G.s.2.2 ≤ 9223372036854775807 := by
    rcases h.row.2 with ⟨h0, _⟩ | ⟨g', cap, cur, hv, hb, hg, hnc, hm, hsz, ht⟩
    · injection h0 with _ h1 h2
      omega
    · injection hv with _ h1 h2
      unfold maxLen at hm
      omega
  have FIN := keep fin
  have hrow := keep (fun (w1 : World) (hb : Below w.heap.size w w1) => (HQ.out.step hb).row)
  have HB0 := keep (fun (w1 : World) (hb : Below w.heap.size w w1) => (HQ.out.step hb).b0)
  clear h fin hkl
  generalize stp q n = k at *
  obtain ⟨b, ⟨s1, s2, s3⟩, O, F⟩ := G
  dsimp only at *
  have hks : k ≤ s2 := by omega
  clear hqn
  by_cases hk0 : k = 0
  · subst hk0
    rw [Nat.sub_zero] at FIN
    go_enter Try.func43, Try.ntmps43
    go_wp2_with (first
      | (go_at_call 56; refine K1.out.mono ?_; rintro e w0 ⟨⟨A0, c0, rfl, hc0, hA0⟩, j, rfl⟩; replace hA0 := keep hA0)
      | (go_at_call 66; refine (K2.out A0 c0 j hc0 hA0.out).mono ?_; rintro e w1 ⟨A1, c1, rfl, hb1, ho1⟩; replace hb1 := keep hb1; replace ho1 := keep ho1; obtain ⟨q0, q1, f0, f1⟩ := HB0.out _ hb1.out)
      | (go_at_call 67; refine (Delete_zero _ s1 s2 s3 _ rfl hnc.1 hnc.2).mono ?_; rintro e w2 ⟨rfl, rfl⟩))
    go_ret
    exact ⟨A1, c1, rfl, FIN.out _ _ A1 c1 hb1.out ho1.out (by have := hrow.out _ hb1.out; simpa using this) (Part.refl _ _)⟩
  · have hk1 : 0 < k := Nat.pos_of_ne_zero hk0
    have hne : q.es.map En.ptr ≠ [] := by
      intro h0
      rw [List.map_eq_nil_iff] at h0
      rw [h0] at hsl
      simp at hsl
      exact hk0 hsl
    obtain ⟨g, e1, _⟩ := own_row_at HQ.out.row hne
    dsimp only at e1
    subst e1
    have HBB := keep (fun w1 w2 (hb : Below w.heap.size w w1) (hp : Part (fun i => i = g) w1 w2) => by
      have hq1 := HQ.out.step hb
      obtain ⟨cur, fr, hcur⟩ := own_cells hq1.row rfl
      have hbg : b ≠ g := cells_cells hq1.blk hcur (by decide)
      have hblk := (hp.block b (hq1.olt _ hq1.ob) hbg).trans hq1.blk
      exact (show w2.cell? ⟨b, 0, none⟩ = some (.slice (some ⟨g, 0, none⟩) s2 s3) ∧ w2.frozen? ⟨b, 0, none⟩ = false from ⟨upd_cell hblk 0 _ rfl, upd_fz hblk 0⟩))
    have KD := keep (fun w1 (hb : Below w.heap.size w w1) => Delete_some g s2 s3 k _ w1 (hrow.out w1 hb) (fun u hu => by
      obtain ⟨e, _, rfl⟩ := List.mem_map.1 hu
      rfl) hks hk1)
    go_enter Try.func43, Try.ntmps43
    go_wp2_with (first
      | (go_at_call 56; refine K1.out.mono ?_; rintro e w0 ⟨⟨A0, c0, rfl, hc0, hA0⟩, j, rfl⟩; replace hA0 := keep hA0)
      | (go_at_call 66; refine (K2.out A0 c0 j hc0 hA0.out).mono ?_; rintro e w1 ⟨A1, c1, rfl, hb1, ho1⟩; replace hb1 := keep hb1; replace ho1 := keep ho1; obtain ⟨q0, q1, f0, f1⟩ := HB0.out _ hb1.out)
      | (go_at_call 67; refine (KD.out _ hb1.out).mono ?_; rintro e w2 ⟨rfl, ho2, hp2⟩; replace ho2 := keep ho2; replace hp2 := keep hp2; obtain ⟨z2, f2⟩ := HBB.out _ _ hb1.out hp2.out))
    go_ret
    rw [List.map_drop] at FIN
    exact ⟨A1, c1, rfl, FIN.out _ _ A1 c1 hb1.out ho1.out ho2.out (hp2.out.mono fun i hi => by rw [hi]; rfl)⟩
end
end Go.Proofs.Ytffjdknmfmlfnaa
