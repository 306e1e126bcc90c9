/- KAF of the stage: texts Q19, Q14, Q20, Q21, joined. -/
import Derived.Test.YtnlkdlnmffibhaaGreatKAE
import Derived.Sort.EncStr
import Derived.Shelf.RegionOpenPlain
import Derived.Deep.LoopGhost
import Derived.Deep.RegionLaw
import Derived.Lib.SliceRun
import Derived.Lib.SlicesDelete
set_option linter.unusedSimpArgs false
set_option linter.unusedVariables false
set_option maxRecDepth 8000
namespace Go.Proofs.YtnlkdlnmffibhaaGreat
open List renaming setIfInBounds_toArray → lA
open Go.Act renaming put → aP
section
open Go.RowKit Go.Maps
def setM : List Value → Nat → List Value → List Value
  | xs, _, [] => xs
  | xs, o, v :: r => setM (xs.set o v) (o + 1) r
theorem setM_get : ∀ (vs : List Value) (o : Nat) (xs : List Value) (t : Nat), (setM xs o vs)[t]? = if o ≤ t ∧ t < o + vs.length ∧ t < xs.length then vs[t - o]? else xs[t]?
  | [], o, xs, t => by
    rw [setM, if_neg (by rintro ⟨h1, h2, _⟩; simp at h2; omega)]
  | v :: r, o, xs, t => by
    rw [setM, setM_get r, List.length_set, List.getElem?_set]
    simp only [List.length_cons]
    by_cases h : o = t
    · subst h
      rw [if_neg (by omega), if_pos rfl]
      by_cases hl : o < xs.length
      · rw [if_pos hl, if_pos (by omega), Nat.sub_self]
        rfl
      · rw [if_neg hl, if_neg (by omega), List.getElem?_eq_none (by omega)]
    · rw [if_neg h]
      by_cases h2 : o ≤ t ∧ t < o + (r.length + 1) ∧ t < xs.length
      · rw [if_pos (by omega), if_pos h2, show t - o = (t - (o + 1)) + 1 by omega]
        rfl
      · rw [if_neg (by omega), if_neg h2]
theorem own_setCells {base : Nat} {e : TypeId} {K g n c : Nat} : ∀ (vs : List Value) (o : Nat) (xs : List Value) (W : World), W.ownsRow base e K (.slice (some ⟨g, 0, none⟩) n c) n xs → (W.setCells g o vs).ownsRow base e K (.slice (some ⟨g, 0, none⟩) n c) n (setM xs o vs)
  | [], _, _, _, h => h
  | v :: r, o, xs, W, h => own_setCells r (o + 1) (xs.set o v) (W.setCell ⟨g, o, none⟩ v) (own_set h o v)
theorem part_setCells (g : Nat) : ∀ (vs : List Value) (o : Nat) (W : World), Part (fun i => i = g) W (W.setCells g o vs)
  | [], _, W => Part.refl _ W
  | v :: r, o, W => (part_set W g o v).trans (part_setCells g r (o + 1) _) fun i hi => .inl hi
theorem own_take {W : World} {base : Nat} {e : TypeId} {g n c m : Nat} {xs : List Value} (h : W.ownsRow base e 1 (.slice (some ⟨g, 0, none⟩) n c) n xs) (hm : m ≤ n) : W.ownsRow base e 1 (.slice (some ⟨g, 0, none⟩) m c) m (xs.take m) := by
  have h1 := h.1
  refine ⟨by rw [List.length_take]; omega, ?_⟩
  rcases h.2 with ⟨h0, _⟩ | ⟨g', cap, cur, hv, hb, hg, hnc, hmx, hsz, ht⟩
  · cases h0
  · injection hv with hv _ hc
    injection hv with hv
    injection hv with hv
    subst hv hc
    refine .inr ⟨g, c, cur, rfl, hb, hg, by omega, hmx, hsz, ?_⟩
    rw [← ht, List.take_take, Nat.mul_one, Nat.mul_one, Nat.min_eq_left hm]
theorem del_list (xs : List Value) (k n : Nat) (hn : xs.length = n) (hk : k ≤ n) (z : Value) : (setM (setM xs 0 (xs.drop k)) (n - k) (List.replicate k z)).take (n - k) = xs.drop k := by
  apply List.ext_getElem?
  intro t
  rw [List.getElem?_take]
  by_cases h : t < n - k
  · rw [if_pos h, setM_get, if_neg (by omega), setM_get, List.length_drop, if_pos (by omega), Nat.sub_zero]
  · rw [if_neg h, List.getElem?_drop, List.getElem?_eq_none (by omega)]
theorem del_info : (Tryz.prog.info? 91).map (fun i => (i.zero, i.size, i.bytes)) = some (some (.pointer none), 1, 8) := by kernel_rfl
theorem del_zero : ∀ w, (zeroValue 91).run Tryz.prog w = .ok (.pointer none) w := fun w => by first | kernel_rfl | rfl
theorem Delete_zero (v : Value) (A : Option Addr) (n c : Nat) (w : World) (hv : v = .slice A n c) (hnc : n ≤ c) (hc : c ≤ 9223372036854775807) :
    Calls Tryz.prog 122 #[v, .int .i64 0, .int .i64 0] w fun e w' => e = .returned v ∧ w = w' := by
  subst hv
  go_enter Tryz.func122, Tryz.ntmps122
  go_wp2
  all_goals (go_ret; exact ⟨rfl, rfl⟩)
set_option maxHeartbeats 4000000 in
set_option maxRecDepth 1000000 in
theorem Delete_some (g n c k : Nat) (xs : List Value) (w : World) (h : w.ownsRow 0 91 1 (.slice (some ⟨g, 0, none⟩) n c) n xs) (h1 : ∀ u ∈ xs, u.oneCell' = true) (hk : k ≤ n) (hk0 : 0 < k) :
    Calls Tryz.prog 122 #[.slice (some ⟨g, 0, none⟩) n c, .int .i64 0, .int .i64 k] w fun e w' => e = .returned (.slice (some ⟨g, 0, none⟩) (n - k) c) ∧ w'.ownsRow 0 91 1 (.slice (some ⟨g, 0, none⟩) (n - k) c) (n - k) (xs.drop k) ∧ Part (fun i => i = g) w w' := by
  have mixed : Tryz.prog.follows .mixedOrders = true := by kernel_rfl
  obtain ⟨i0, hi0, hz0, hz1, hz2⟩ := info_parts del_info
  have hxl : xs.length = n := by have := h.1; omega
  obtain ⟨cur, hcur, hsz, hnc, hmx⟩ : ∃ cur, w.heap[g]? = some (.cells cur 91 (0, 0)) ∧ cur.size = c ∧ n ≤ c ∧ c ≤ 9223372036854775807 := by
    rcases h.2 with ⟨h0, _⟩ | ⟨g', cap, cur, hv, hb, hg, hnc, hm, hsz, ht⟩
    · cases h0
    · injection hv with hv _ hc
      injection hv with hv
      injection hv with hv
      subst hv hc
      exact ⟨cur, hg, by omega, hnc, by unfold maxLen at hm; omega⟩
  have some_ : ∀ (W : World) (cs : Array Value) (j : Nat), W.heap[g]? = some (.cells cs 91 (0, 0)) → cs.size = c → j < c → (W.cell? ⟨g, j, none⟩).isSome = true ∧ W.frozen? ⟨g, j, none⟩ = false := fun W cs j hW hs hj => ⟨by rw [cell_of_row _ _ _ _ _ _ hW, Array.getElem?_eq_getElem (by omega)]; rfl, upd_fz hW j⟩
  have at_ : ∀ j v, xs[j]? = some v → w.cell? ⟨g, j, none⟩ = some v := by
    intro j v hj
    have hne : xs ≠ [] := by rintro rfl; simp at hj
    obtain ⟨g', e1, _, h3, _⟩ := own_row_at h hne
    injection e1 with e1
    injection e1 with e1
    subst e1
    exact h3 j v hj
  obtain ⟨news, hnews⟩ : ∃ news, news = xs.drop k := ⟨_, rfl⟩
  have hlen : news.length = n - k := by rw [hnews, List.length_drop, hxl]
  obtain ⟨A, hA, hsrc⟩ : ∃ A : Addr, (if c = k then some (⟨g, 0, none⟩ : Addr) else some ⟨g, k, none⟩) = some A ∧ Hid (∀ t u, news[t]? = some u → w.drew.cell? (A.add t) = some u) := by
    by_cases h : c = k
    · refine ⟨⟨g, 0, none⟩, by simp [h], fun t u hu => ?_⟩
      have h0 : news.length = 0 := by rw [hlen]; omega
      rw [List.length_eq_zero_iff.1 h0] at hu
      simp at hu
    · refine ⟨⟨g, k, none⟩, by simp [h], fun t u hu => ?_⟩
      rw [hnews, List.getElem?_drop] at hu
      rw [Addr.add_lit]
      exact at_ (k + t) u hu
  have s1 : Hid (news.length = (n - k) * 1) := by rw [Nat.mul_one]; exact hlen
  have s2 : Hid (∀ u ∈ news, u.oneCell' = true) := fun u hu => h1 u (by rw [hnews] at hu; exact List.mem_of_mem_drop hu)
  have s3 : Hid (∀ t, t < news.length → (w.drew.cell? ⟨g, 0 + 0 * 1 + t, none⟩).isSome = true ∧ w.drew.frozen? ⟨g, 0 + 0 * 1 + t, none⟩ = false) := fun t ht => some_ w.drew cur _ hcur hsz (by omega)
  obtain ⟨W1, hW1⟩ : ∃ W1, W1 = w.drew.setCells g (0 + 0 * 1) news := ⟨_, rfl⟩
  have hO1 : W1.ownsRow 0 91 1 (.slice (some ⟨g, 0, none⟩) n c) n (setM xs 0 news) := by
    rw [hW1]
    exact own_setCells news _ xs w.drew h
  obtain ⟨cur1, hcur1, hsz1⟩ : ∃ cur, W1.heap[g]? = some (.cells cur 91 (0, 0)) ∧ cur.size = c := by
    rcases hO1.2 with ⟨h0, _⟩ | ⟨g', cap, cur, hv, hb, hg, hnc, hm, hsz, ht⟩
    · cases h0
    · injection hv with hv _ hc
      injection hv with hv
      injection hv with hv
      subst hv hc
      exact ⟨cur, hg, by omega⟩
  have hcl : ∀ ty, (Builtin.clear_ #[89] ty #[.slice (some ⟨g, n - k, none⟩) k (c - (n - k))]).run Tryz.prog W1 = .ok (.tuple #[]) (W1.setCells g (n - k) (List.replicate k (.pointer none))) :=
    fun ty => Lib.run_clear_slice W1 _ _ ty _ Tryz.underlying89 del_zero rfl rfl g (n - k) _ _ hk0 (fun t ht => (some_ W1 cur1 _ hcur1 hsz1 (by omega)).1) (fun t ht => (some_ W1 cur1 _ hcur1 hsz1 (by omega)).2)
  have hkk : n - (n - k) = k := by omega
  have hP : Part (fun i => i = g) w (W1.setCells g (n - k) (List.replicate k (.pointer none))) := by
    rw [hW1]
    exact ((show Part (fun i => i = g) w w.drew from Part.of_below _ (Below.refl _ w).drew).trans (part_setCells g news _ w.drew) fun i hi => .inl hi).trans (part_setCells g _ _ _) fun i hi => .inl hi
  have hF := own_take (m := n - k) (own_setCells (List.replicate k (.pointer none)) (n - k) _ W1 hO1) (by omega)
  rw [hnews, del_list xs k n hxl hk] at hF
  have HFI := keep (And.intro hF hP)
  have hW : Hid (W1 = w.drew.setCells g (0 + 0 * 1) news) := hW1
  have hnk : ((n - k : Nat) : Int) = (n : Int) - k := by omega
  clear hW1 hF hP hO1 hcur1 hsz1 hcur hsz at_ some_ hnews hlen h h1 hxl
  go_enter Tryz.func122, Tryz.ntmps122
  go_wp2_with fail
  go_region_law_o (refine step_append_room rfl (.tmp 22) (.tmp 25) 89 rfl 91 i0 1 Tryz.underlying89 hi0 hz1 g 0 0 c (by simp [Act.eval, aP]) A (n - k) (c - k) news (by simp [Act.eval, aP, hA]) s1.out hsrc.out s2.out (by omega) s3.out ?_; rw [← hW.out])
  go_wp2
  go_ret
  exact ⟨rfl, HFI.out.1, HFI.out.2⟩
end
section
open Go.RowKit Go.Maps
def adB (x : CZ) (k : Nat) : Prop := ∃ A ∈ x.ads, ∃ a, A = some a ∧ a.block = k
def appG (G : Gq) (s : SL) (e : En) : Gq := { G with s := s, O := fun i => G.O i ∨ i = e.p ∨ (Value.slice s.1 s.2.1 s.2.2).ownBlock = some i, F := fun i => G.F i ∨ adB e.c i }
theorem QA.app {w : World} {G : Gq} {q : Qm} (h : QA w G q) {N : Nat} (hN : ∀ i, G.O i ∨ G.F i → i < N) {e : En} (he : w.heap[e.p]? = some (.cells e.cells.toArray 96 (0, 0))) (hz : ZV w e.c) (hs : Sm e.c) (ha : ∀ i, adB e.c i → N ≤ i ∧ i < w.heap.size ∧ i ≠ e.p) (hp : N ≤ e.p)
    (hm : G.O e.m) (hmg : MgAt w e.m (q.mg e.m)) (hle : q.es.length + 1 ≤ 1024) {w1 : World} {A' : Option Addr} {c' : Nat} (ho : w1.ownsRow 0 91 1 (.slice A' (G.s.2.1 + 1) c') (G.s.2.1 + 1) (q.es.map En.ptr ++ [e.ptr])) (hg : w.grownBy w1 (Value.slice G.s.1 G.s.2.1 G.s.2.2).ownBlock)
    (hl : (Value.slice A' (G.s.2.1 + 1) c').ownBlock = (Value.slice G.s.1 G.s.2.1 G.s.2.2).ownBlock ∨ (Value.slice A' (G.s.2.1 + 1) c').ownBlock = some w.heap.size) :
    QA (w1.setCell ⟨G.b, 0, none⟩ (.slice A' (G.s.2.1 + 1) c')) (appG G (A', G.s.2.1 + 1, c') e) { q with es := q.es ++ [e] } ∧ Part G.O w (w1.setCell ⟨G.b, 0, none⟩ (.slice A' (G.s.2.1 + 1) c')) := by
  have hp1 : Part (fun i => (Value.slice G.s.1 G.s.2.1 G.s.2.2).ownBlock = some i) w w1 := Part.of_grown hg fun k hk => hk
  have hne : ∀ {g : Nat} {cs : Array Value} {t : TypeId} {fr : Nat × Nat}, w.heap[g]? = some (.cells cs t fr) → t ≠ 91 → ¬ (Value.slice G.s.1 G.s.2.1 G.s.2.2).ownBlock = some g := fun hg' ht ee => by
    obtain ⟨cur, fr', hcur⟩ := own_cells h.row ee
    exact cells_cells hg' hcur ht rfl
  have hb1 : w1.heap[G.b]? = some (.cells #[.slice G.s.1 G.s.2.1 G.s.2.2, .int .u32 q.nx] 104 (0, 0)) := (hp1.block _ (h.olt _ h.ob) (hne h.blk (by decide))).trans h.blk
  have hp2 := part_set w1 G.b 0 (.slice A' (G.s.2.1 + 1) c')
  have hpt : Part (fun i => i = G.b ∨ (Value.slice G.s.1 G.s.2.1 G.s.2.2).ownBlock = some i) w (w1.setCell ⟨G.b, 0, none⟩ (.slice A' (G.s.2.1 + 1) c')) := (hp1.mono fun i hi => .inr hi).trans hp2 fun i hi => .inl (.inl hi)
  have hO : Part G.O w (w1.setCell ⟨G.b, 0, none⟩ (.slice A' (G.s.2.1 + 1) c')) := hpt.mono fun i hi => by
    rcases hi with rfl | hi
    · exact h.ob
    · exact h.ov i hi
  have k := Kpt.of_part (ok := fun i => ¬ (i = G.b ∨ (Value.slice G.s.1 G.s.2.1 G.s.2.2).ownBlock = some i)) hpt fun _ h => h
  have okc : ∀ {g : Nat} {cs : Array Value} {t : TypeId} {fr : Nat × Nat}, w.heap[g]? = some (.cells cs t fr) → t ≠ 91 → t ≠ 104 → ¬ (g = G.b ∨ (Value.slice G.s.1 G.s.2.1 G.s.2.2).ownBlock = some g) := fun hg' h1 h2 hc => by
    rcases hc with hc | hc
    · exact cells_cells hg' h.blk h2 hc
    · exact hne hg' h1 hc
  have okF : ∀ i, G.F i → ¬ (i = G.b ∨ (Value.slice G.s.1 G.s.2.1 G.s.2.2).ownBlock = some i) := fun i hi hc => by
    rcases hc with rfl | hc
    · exact h.dis _ h.ob hi
    · exact h.dis _ (h.ov i hc) hi
  have okA : ∀ i, adB e.c i → ¬ (i = G.b ∨ (Value.slice G.s.1 G.s.2.1 G.s.2.2).ownBlock = some i) := fun i hi hc => by
    have h1 := (ha i hi).1
    rcases hc with rfl | hc
    · have := hN _ (.inl h.ob); omega
    · have := hN _ (.inl (h.ov i hc)); omega
  have hbn : ∀ g, (Value.slice A' (G.s.2.1 + 1) c').ownBlock = some g → g ≠ G.b := fun g hg' ee => by
    rcases hl with hl | hl
    · rw [hl] at hg'
      exact hne h.blk (by decide) (by rw [← ee]; exact hg')
    · rw [hl] at hg'
      injection hg' with hg'
      have := h.olt _ h.ob
      omega
  refine ⟨⟨heap_setCell_same w1 G.b 0 _ _ _ hb1, .inl h.ob, ?_, fun g hg' => .inr (.inr hg'), ?_, ?_, h.nx, by simpa using hle, ?_, ?_, ?_⟩, hO⟩
  · show World.ownsRow _ 0 _ 1 (.slice A' (G.s.2.1 + 1) c') (G.s.2.1 + 1) ((q.es ++ [e]).map En.ptr)
    rw [List.map_append]
    exact hp2.own ho fun g hg' => hbn g hg'
  · intro x hx
    rcases List.mem_append.1 hx with hx | hx
    · obtain ⟨a1, a2, a3, a4⟩ := h.en x hx
      exact ⟨⟨k.cells _ _ _ _ (okc a1.blk (by decide) (by decide)) a1.blk, a1.zv.kept k fun A hA a ea => okF _ (a1.inf A hA a ea), a1.sm, fun A hA a ea => .inl (a1.inf A hA a ea)⟩, .inl a2, k.cells _ _ _ _ (okc a3 (by decide) (by decide)) a3, .inl a4⟩
    · rw [List.mem_singleton.1 hx]
      exact ⟨⟨k.cells _ _ _ _ (okc he (by decide) (by decide)) he, hz.kept k fun A hA a ea => okA _ ⟨A, hA, a, ea, rfl⟩, hs, fun A hA a ea => .inr ⟨A, hA, a, ea, rfl⟩⟩, .inr (.inl rfl), k.cells _ _ _ _ (okc hmg (by decide) (by decide)) hmg, .inl hm⟩
  · show ((q.es ++ [e]).map En.p).Nodup
    rw [List.map_append, List.nodup_append]
    refine ⟨h.nd, by simp, fun x hx y hy => ?_⟩
    rw [List.map_cons, List.map_nil, List.mem_singleton] at hy
    subst hy
    obtain ⟨z, hz', rfl⟩ := List.mem_map.1 hx
    have := hN _ (.inl (h.en z hz').2.1)
    omega
  · intro i hi hf
    rcases hi with hi | rfl | hi
    · rcases hf with hf | hf
      · exact h.dis i hi hf
      · have h1 := (ha i hf).1
        have := hN _ (.inl hi)
        omega
    · rcases hf with hf | hf
      · have := hN _ (.inr hf); omega
      · exact (ha _ hf).2.2 rfl
    · rcases hl with hl | hl
      · rw [show (Value.slice (A', G.s.2.1 + 1, c').1 (A', G.s.2.1 + 1, c').2.1 (A', G.s.2.1 + 1, c').2.2).ownBlock = _ from hl] at hi
        rcases hf with hf | hf
        · exact h.dis i (h.ov i hi) hf
        · have h1 := (ha i hf).1
          have := hN _ (.inl (h.ov i hi))
          omega
      · rw [show (Value.slice (A', G.s.2.1 + 1, c').1 (A', G.s.2.1 + 1, c').2.1 (A', G.s.2.1 + 1, c').2.2).ownBlock = _ from hl] at hi
        injection hi with hi
        rcases hf with hf | hf
        · have := h.flt i hf; omega
        · have := (ha i hf).2.1; omega
  · intro i hi
    rcases hi with hi | rfl | hi
    · exact Nat.lt_of_lt_of_le (h.olt i hi) hpt.size
    · exact Nat.lt_of_lt_of_le (Array.getElem?_eq_some_iff.1 he).1 hpt.size
    · exact Nat.lt_of_lt_of_le (ho.lt i hi).2 hp2.size
  · intro i hi
    rcases hi with hi | hi
    · exact Nat.lt_of_lt_of_le (h.flt i hi) hpt.size
    · exact Nat.lt_of_lt_of_le (ha i hi).2.1 hpt.size
theorem QA.msg {w : World} {G : Gq} {q : Qm} (h : QA w G q) {m : Nat} {g : Mg} (hm : MgAt w m g) (hn : ¬ G.O m ∧ ¬ G.F m) : QA w { G with O := fun i => G.O i ∨ i = m } { q with mg := fun x => if x = m then g else q.mg x } :=
  ⟨h.blk, .inl h.ob, h.row, fun g hg => .inl (h.ov g hg), fun e he => by
    obtain ⟨a1, a2, a3, a4⟩ := h.en e he
    refine ⟨⟨a1.blk, a1.zv, a1.sm, a1.inf⟩, .inl a2, ?_, .inl a4⟩
    show MgAt w e.m (if e.m = m then g else q.mg e.m)
    rw [if_neg (fun ee => hn.1 (by rw [← ee]; exact a4))]
    exact a3, h.nd, h.nx, h.le, fun i hi hf => by
    rcases hi with hi | rfl
    · exact h.dis i hi hf
    · exact hn.2 hf, fun i hi => by
    rcases hi with hi | rfl
    · exact h.olt i hi
    · exact (Array.getElem?_eq_some_iff.1 hm).1, h.flt⟩
structure PushN (q : Qm) (l : List CZ) (m j : Nat) (new : List En) : Prop where
  len : new.length = j
  all : ∀ (i : Nat) (c : CZ) (e : En), l[i]? = some c → new[i]? = some e → e.c.ct = { c.ct with a := (q.nx + (i : Int)) % 4294967296 } ∧ e.c.da.2.1 = c.da.2.1 ∧ e.m = m ∧ e.st = 0 ∧ e.sn = 0 ∧ e.la = 0 ∧ e.ms = 0
def pushQ (q : Qm) (new : List En) (m : Nat) (un tr : Int) : Qm := ⟨q.es ++ new, (q.nx + (new.length : Int)) % 4294967296, fun x => if x = m then ⟨un, tr, false⟩ else q.mg x⟩
end
section
open Go.RowKit Go.Maps
theorem flat_ptr (es : List En) : flatF ptC (es.map En.p) = es.map En.ptr := by
  unfold flatF
  induction es with
  | nil => rfl
  | cons e r ih =>
    rw [List.map_cons, List.flatMap_cons, ih]
    rfl
def cutG (G : Gq) (k : Nat) : Gq := { G with s := (G.s.1, G.s.2.1 - k, G.s.2.2) }
def cutQ (q : Qm) (k : Nat) : Qm := { q with es := q.es.drop k }
theorem own_blk (A : Option Addr) (n n' c c' : Nat) : (Value.slice A n c).ownBlock = (Value.slice A n' c').ownBlock := by cases A <;> rfl
theorem QA.cut {w : World} {G : Gq} {q : Qm} (h : QA w G q) {k : Nat} (hk : k ≤ q.es.length) {w1 : World} (ho : w1.ownsRow 0 91 1 (.slice G.s.1 (G.s.2.1 - k) G.s.2.2) (G.s.2.1 - k) ((q.es.drop k).map En.ptr)) (hp1 : Part (fun i => (Value.slice G.s.1 G.s.2.1 G.s.2.2).ownBlock = some i) w w1) :
    QA (w1.setCell ⟨G.b, 0, none⟩ (.slice G.s.1 (G.s.2.1 - k) G.s.2.2)) (cutG G k) (cutQ q k) ∧ Part (fun i => i = G.b ∨ (Value.slice G.s.1 G.s.2.1 G.s.2.2).ownBlock = some i) w (w1.setCell ⟨G.b, 0, none⟩ (.slice G.s.1 (G.s.2.1 - k) G.s.2.2)) := by
  have hne : ∀ {g : Nat} {cs : Array Value} {t : TypeId} {fr : Nat × Nat}, w.heap[g]? = some (.cells cs t fr) → t ≠ 91 → ¬ (Value.slice G.s.1 G.s.2.1 G.s.2.2).ownBlock = some g := fun hg' ht ee => by
    obtain ⟨cur, fr', hcur⟩ := own_cells h.row ee
    exact cells_cells hg' hcur ht rfl
  have hb1 : w1.heap[G.b]? = some (.cells #[.slice G.s.1 G.s.2.1 G.s.2.2, .int .u32 q.nx] 104 (0, 0)) := (hp1.block _ (h.olt _ h.ob) (hne h.blk (by decide))).trans h.blk
  have hp2 := part_set w1 G.b 0 (.slice G.s.1 (G.s.2.1 - k) G.s.2.2)
  have hpt : Part (fun i => i = G.b ∨ (Value.slice G.s.1 G.s.2.1 G.s.2.2).ownBlock = some i) w (w1.setCell ⟨G.b, 0, none⟩ (.slice G.s.1 (G.s.2.1 - k) G.s.2.2)) := (hp1.mono fun i hi => .inr hi).trans hp2 fun i hi => .inl (.inl hi)
  have kk := Kpt.of_part (ok := fun i => ¬ (i = G.b ∨ (Value.slice G.s.1 G.s.2.1 G.s.2.2).ownBlock = some i)) hpt fun _ h => h
  have okc : ∀ {g : Nat} {cs : Array Value} {t : TypeId} {fr : Nat × Nat}, w.heap[g]? = some (.cells cs t fr) → t ≠ 91 → t ≠ 104 → ¬ (g = G.b ∨ (Value.slice G.s.1 G.s.2.1 G.s.2.2).ownBlock = some g) := fun hg' h1 h2 hc => by
    rcases hc with hc | hc
    · exact cells_cells hg' h.blk h2 hc
    · exact hne hg' h1 hc
  have okF : ∀ i, G.F i → ¬ (i = G.b ∨ (Value.slice G.s.1 G.s.2.1 G.s.2.2).ownBlock = some i) := fun i hi hc => by
    rcases hc with rfl | hc
    · exact h.dis _ h.ob hi
    · exact h.dis _ (h.ov i hc) hi
  have hbn : ∀ g, (Value.slice G.s.1 (G.s.2.1 - k) G.s.2.2).ownBlock = some g → g ≠ G.b := fun g hg' ee => by
    rw [own_blk _ _ G.s.2.1 _ G.s.2.2] at hg'
    exact hne h.blk (by decide) (by rw [← ee]; exact hg')
  refine ⟨⟨heap_setCell_same w1 G.b 0 _ _ _ hb1, h.ob, ?_, fun g hg' => h.ov g (by rw [own_blk _ _ (G.s.2.1 - k) _ G.s.2.2]; exact hg'), ?_, ?_, h.nx, ?_, h.dis, fun i hi => Nat.lt_of_lt_of_le (h.olt i hi) hpt.size, fun i hi => Nat.lt_of_lt_of_le (h.flt i hi) hpt.size⟩, hpt⟩
  · exact hp2.own ho fun g hg' => hbn g hg'
  · intro x hx
    have hx : x ∈ q.es.drop k := hx
    obtain ⟨a1, a2, a3, a4⟩ := h.en x (List.mem_of_mem_drop hx)
    exact ⟨⟨kk.cells _ _ _ _ (okc a1.blk (by decide) (by decide)) a1.blk, a1.zv.kept kk fun A hA a ea => okF _ (a1.inf A hA a ea), a1.sm, fun A hA a ea => a1.inf A hA a ea⟩, a2, kk.cells _ _ _ _ (okc a3 (by decide) (by decide)) a3, a4⟩
  · show ((q.es.drop k).map En.p).Nodup
    rw [List.map_drop]
    exact h.nd.sublist (List.drop_sublist k _)
  · show (q.es.drop k).length ≤ 1024
    have := h.le
    rw [List.length_drop]
    omega
def Gone (w w' : World) (q : Qm) (k : Nat) (A : Option Addr) (c : Nat) : Prop :=
  w'.ownsRow w.heap.size 91 1 (.slice A k c) k ((q.es.take k).map En.ptr) ∧ ES w' (A, k, c) (q.es.take k)
set_option maxRecDepth 100000 in
set_option maxHeartbeats 400000 in
theorem cut_any {w : World} {G : Gq} {q : Qm} (h : QA w G q) (n : Int) :
    Calls Tryz.prog 85 #[.pointer (some ⟨G.b, 0, none⟩), .int .u32 n] w fun e w' => ∃ A c, e = .returned (.slice A (stp q n) c) ∧ Gone w w' q (stp q n) A c ∧ QA w' (cutG G (stp q n)) (cutQ q (stp q n)) ∧ Part (fun i => i = G.b ∨ (Value.slice G.s.1 G.s.2.1 G.s.2.2).ownBlock = some i) w w' := by
  have K1 := keep (upTo_any h n)
  have hsl := stp_le q n
  have hle := h.le
  have hqn := h.n
  have HQ := keep h
  have hkl : ((q.es.take (stp q n)).map En.p).length = stp q n := by rw [List.length_map, List.length_take]; omega
  have K2 := keep (fun A c j (hc : stp q n ≤ c) (hA : stp q n ≠ 0 → A = G.s.1) => (cPtr_any A (stp q n) c ((q.es.take (stp q n)).map En.p) (w.drewN j) ⟨hkl.symm, hc, by rw [flat_ptr]; exact ((HQ.out.st (StN.drewN w.heap.size w j)).es_take hsl c hA).rd⟩ (by omega)).mono
    (fun e w' hh => show ∃ A c, e = .returned (.slice A (stp q n) c) ∧ Below w.heap.size w w' ∧ w'.ownsRow w.heap.size 91 1 (.slice A (stp q n) c) (stp q n) ((q.es.take (stp q n)).map En.ptr) by
      obtain ⟨A, c, e1, e2, e3⟩ := hh
      rw [hkl] at e1 e3
      rw [flat_ptr] at e3
      exact ⟨A, c, e1, (below_drewN_sq (Below.refl _ w) j).trans e2, e3⟩))
  have fin : ∀ (w1 w2 : World) (A : Option Addr) (c : Nat), Below w.heap.size w w1 → w1.ownsRow w.heap.size 91 1 (.slice A (stp q n) c) (stp q n) ((q.es.take (stp q n)).map En.ptr) → w2.ownsRow 0 91 1 (.slice G.s.1 (G.s.2.1 - stp q n) G.s.2.2) (G.s.2.1 - stp q n) ((q.es.drop (stp q n)).map En.ptr) → Part (fun i => (Value.slice G.s.1 G.s.2.1 G.s.2.2).ownBlock = some i) w1 w2 →
      Gone w (w2.setCell ⟨G.b, 0, none⟩ (.slice G.s.1 (G.s.2.1 - stp q n) G.s.2.2)) q (stp q n) A c ∧ QA (w2.setCell ⟨G.b, 0, none⟩ (.slice G.s.1 (G.s.2.1 - stp q n) G.s.2.2)) (cutG G (stp q n)) (cutQ q (stp q n)) ∧ Part (fun i => i = G.b ∨ (Value.slice G.s.1 G.s.2.1 G.s.2.2).ownBlock = some i) w (w2.setCell ⟨G.b, 0, none⟩ (.slice G.s.1 (G.s.2.1 - stp q n) G.s.2.2)) := by
    intro w1 w2 A c hb ho hr hp
    have hq1 := HQ.out.step hb
    obtain ⟨c1, c2⟩ := hq1.cut hsl hr hp
    have hlow : ∀ i, (i = G.b ∨ (Value.slice G.s.1 G.s.2.1 G.s.2.2).ownBlock = some i) → i < w.heap.size := fun i hi => by
      rcases hi with rfl | hi
      · exact HQ.out.olt _ HQ.out.ob
      · exact HQ.out.olt _ (HQ.out.ov i hi)
    have ho' := c2.own ho fun g hg hc => by
      have := (ho.lt g hg).1
      have := hlow g hc
      omega
    have hnl : ∀ e ∈ q.es.take (stp q n), ¬ (e.p = G.b ∨ (Value.slice G.s.1 G.s.2.1 G.s.2.2).ownBlock = some e.p) := fun e he hc => by
      have hb := (hq1.en e (List.mem_of_mem_take he)).1.blk
      rcases hc with hc | hc
      · exact cells_cells hb hq1.blk (by decide) hc
      · obtain ⟨cur, fr', hcur⟩ := own_cells hq1.row hc
        exact cells_cells hb hcur (by decide) rfl
    refine ⟨⟨ho', ⟨by show stp q n = _; rw [List.length_take]; omega, ?_, fun e he => ?_⟩⟩, c1, (Part.of_below _ hb).trans c2 fun i hi => .inl hi⟩
    · have := (LR.of_own (f := ptC) (K := 1) ptC_len (by decide) (l := (q.es.take (stp q n)).map En.p) (by rw [flat_ptr]; exact ho')).2.2
      rwa [flat_ptr] at this
    · have he1 := (hq1.en e (List.mem_of_mem_take he)).1
      exact ⟨(c2.block _ (hq1.olt _ (hq1.en e (List.mem_of_mem_take he)).2.1) (hnl e he)).trans he1.blk, he1.sm⟩
  have hnc : G.s.2.1 ≤ G.s.2.2 ∧ G.s.2.2 ≤ 9223372036854775807 := by
    rcases h.row.2 with ⟨h0, _⟩ | ⟨g', cap, cur, hv, hb, hg, hnc, hm, hsz, ht⟩
    · injection h0 with _ h1 h2
      omega
    · injection hv with _ h1 h2
      unfold maxLen at hm
      omega
  have FIN := keep fin
  have hrow := keep (fun (w1 : World) (hb : Below w.heap.size w w1) => (HQ.out.step hb).row)
  have HB0 := keep (fun (w1 : World) (hb : Below w.heap.size w w1) => (HQ.out.step hb).b0)
  clear h fin hkl
  generalize stp q n = k at *
  obtain ⟨b, ⟨s1, s2, s3⟩, O, F⟩ := G
  dsimp only at *
  have hks : k ≤ s2 := by omega
  clear hqn
  by_cases hk0 : k = 0
  · subst hk0
    rw [Nat.sub_zero] at FIN
    go_enter Tryz.func85, Tryz.ntmps85
    go_wp2_with (first
      | (go_at_call 118; refine K1.out.mono ?_; rintro e w0 ⟨⟨A0, c0, rfl, hc0, hA0⟩, j, rfl⟩; replace hA0 := keep hA0)
      | (go_at_call 121; refine (K2.out A0 c0 j hc0 hA0.out).mono ?_; rintro e w1 ⟨A1, c1, rfl, hb1, ho1⟩; replace hb1 := keep hb1; replace ho1 := keep ho1; obtain ⟨q0, q1, f0, f1⟩ := HB0.out _ hb1.out)
      | (go_at_call 122; refine (Delete_zero _ s1 s2 s3 _ rfl hnc.1 hnc.2).mono ?_; rintro e w2 ⟨rfl, rfl⟩))
    go_ret
    exact ⟨A1, c1, rfl, FIN.out _ _ A1 c1 hb1.out ho1.out (by have := hrow.out _ hb1.out; simpa using this) (Part.refl _ _)⟩
  · have hk1 : 0 < k := Nat.pos_of_ne_zero hk0
    have hne : q.es.map En.ptr ≠ [] := by
      intro h0
      rw [List.map_eq_nil_iff] at h0
      rw [h0] at hsl
      simp at hsl
      exact hk0 hsl
    obtain ⟨g, e1, _⟩ := own_row_at HQ.out.row hne
    dsimp only at e1
    subst e1
    have HBB := keep (fun w1 w2 (hb : Below w.heap.size w w1) (hp : Part (fun i => i = g) w1 w2) => by
      have hq1 := HQ.out.step hb
      obtain ⟨cur, fr, hcur⟩ := own_cells hq1.row rfl
      have hbg : b ≠ g := cells_cells hq1.blk hcur (by decide)
      have hblk := (hp.block b (hq1.olt _ hq1.ob) hbg).trans hq1.blk
      exact (show w2.cell? ⟨b, 0, none⟩ = some (.slice (some ⟨g, 0, none⟩) s2 s3) ∧ w2.frozen? ⟨b, 0, none⟩ = false from ⟨upd_cell hblk 0 _ rfl, upd_fz hblk 0⟩))
    have KD := keep (fun w1 (hb : Below w.heap.size w w1) => Delete_some g s2 s3 k _ w1 (hrow.out w1 hb) (fun u hu => by
      obtain ⟨e, _, rfl⟩ := List.mem_map.1 hu
      rfl) hks hk1)
    go_enter Tryz.func85, Tryz.ntmps85
    go_wp2_with (first
      | (go_at_call 118; refine K1.out.mono ?_; rintro e w0 ⟨⟨A0, c0, rfl, hc0, hA0⟩, j, rfl⟩; replace hA0 := keep hA0)
      | (go_at_call 121; refine (K2.out A0 c0 j hc0 hA0.out).mono ?_; rintro e w1 ⟨A1, c1, rfl, hb1, ho1⟩; replace hb1 := keep hb1; replace ho1 := keep ho1; obtain ⟨q0, q1, f0, f1⟩ := HB0.out _ hb1.out)
      | (go_at_call 122; refine (KD.out _ hb1.out).mono ?_; rintro e w2 ⟨rfl, ho2, hp2⟩; replace ho2 := keep ho2; replace hp2 := keep hp2; obtain ⟨z2, f2⟩ := HBB.out _ _ hb1.out hp2.out))
    go_ret
    rw [List.map_drop] at FIN
    exact ⟨A1, c1, rfl, FIN.out _ _ A1 c1 hb1.out ho1.out ho2.out (hp2.out.mono fun i hi => by rw [hi]; rfl)⟩
end
section
open Go.RowKit Go.Maps
def rmx (f : Int → Bool) (bl : List (Int × Int)) : Int := (bl.filter fun b => f b.1).foldl (fun m b => max m b.2) 0
def rch (bl : List (Int × Int)) (h : Nat) : Int := rmx (fun x => decide (x ≤ (h : Int))) bl
def BlOK (bl : List (Int × Int)) : Prop := ∀ b ∈ bl, 0 ≤ b.1 ∧ b.1 < 65536 ∧ 0 ≤ b.2 ∧ b.2 < 65536
theorem rmx_nn (f : Int → Bool) (bl : List (Int × Int)) : 0 ≤ rmx f bl := by
  unfold rmx
  generalize bl.filter (fun b => f b.1) = l
  have : ∀ (l : List (Int × Int)) (z : Int), 0 ≤ z → 0 ≤ l.foldl (fun m b => max m b.2) z := by
    intro l
    induction l with
    | nil => intro z hz; exact hz
    | cons b r ih => intro z hz; exact ih _ (by show (0 : Int) ≤ max z b.2; omega)
  exact this l 0 (Int.le_refl _)
theorem rmx_snoc (f : Int → Bool) (bl : List (Int × Int)) (b : Int × Int) : rmx f (bl ++ [b]) = if f b.1 = true then max (rmx f bl) b.2 else rmx f bl := by
  unfold rmx
  rw [List.filter_append, List.foldl_append, List.filter_cons]
  by_cases h : f b.1 = true
  · rw [if_pos h, if_pos h]
    rfl
  · rw [if_neg h, if_neg h]
    rfl
theorem rmx_lt {f : Int → Bool} {bl : List (Int × Int)} (h : BlOK bl) : rmx f bl < 65536 := by
  unfold rmx
  have : ∀ (l : List (Int × Int)) (z : Int), (∀ b ∈ l, b.2 < 65536) → z < 65536 → l.foldl (fun m b => max m b.2) z < 65536 := by
    intro l
    induction l with
    | nil => intro z _ hz; exact hz
    | cons b r ih => intro z hb hz; exact ih _ (fun x hx => hb x (List.mem_cons_of_mem _ hx)) (by have := hb b (List.mem_cons_self ..); show max z b.2 < 65536; omega)
  exact this _ 0 (fun b hb => (h b (List.mem_filter.1 hb).1).2.2.2) (by decide)
theorem rch_next (bl : List (Int × Int)) (h : Nat) : rch bl (h + 1) = max (rmx (fun x => x == ((h + 1 : Nat) : Int)) bl) (rch bl h) := by
  unfold rch
  have key : ∀ l : List (Int × Int), rmx (fun x => decide (x ≤ ((h + 1 : Nat) : Int))) l.reverse = max (rmx (fun x => x == ((h + 1 : Nat) : Int)) l.reverse) (rmx (fun x => decide (x ≤ (h : Int))) l.reverse) := by
    intro l
    induction l with
    | nil => rfl
    | cons b r ih =>
      rw [List.reverse_cons, rmx_snoc, rmx_snoc, rmx_snoc, ih]
      by_cases h1 : b.1 ≤ (h : Int)
      · rw [if_pos (by simp; omega), if_neg (by simp; omega), if_pos (by simpa using h1)]
        omega
      · by_cases h2 : b.1 = ((h + 1 : Nat) : Int)
        · rw [if_pos (by simp; omega), if_pos (by simpa using h2), if_neg (by simpa using h1)]
          omega
        · rw [if_neg (by simp; omega), if_neg (by simpa using h2), if_neg (by simpa using h1)]
  have := key bl.reverse
  rwa [List.reverse_reverse] at this
theorem rch_zero (bl : List (Int × Int)) (hb : BlOK bl) : rch bl 0 = rmx (fun x => x == (0 : Int)) bl := by
  unfold rch rmx
  congr 1
  apply List.filter_congr
  intro b hbm
  have := (hb b hbm).1
  rw [Bool.eq_iff_iff, decide_eq_true_eq, beq_iff_eq]
  omega
def rowV (n : Nat) (R : Nat → Int) : List Value := (List.range n).map fun h => .int .u16 (R h)
theorem rowV_get (n : Nat) (R : Nat → Int) (h : Nat) (hh : h < n) : (rowV n R)[h]? = some (.int .u16 (R h)) := by
  unfold rowV
  rw [List.getElem?_map, List.getElem?_range hh]
  rfl
theorem rowV_set (n : Nat) (R R' : Nat → Int) (h : Nat) (hh : h < n) (ho : ∀ i, i ≠ h → i < n → R' i = R i) : (rowV n R).toArray.setIfInBounds h (.int .u16 (R' h)) = (rowV n R').toArray := by
  rw [lA]
  congr 1
  apply List.ext_getElem?
  intro t
  rw [List.getElem?_set]
  unfold rowV
  by_cases ht : t < n
  · rw [List.getElem?_map, List.getElem?_map, List.getElem?_range ht, List.length_map, List.length_range]
    by_cases e : h = t
    · subst e
      rw [if_pos rfl, if_pos hh]
      rfl
    · rw [if_neg e]
      simp only [Option.map_some]
      rw [ho t (fun x => e x.symm) ht]
  · rw [if_neg (by omega), List.getElem?_eq_none (by simp; omega), List.getElem?_eq_none (by simp; omega)]
theorem rowV_rep (n : Nat) : (List.replicate n (Value.int .u16 0)) = rowV n fun _ => 0 := by
  apply List.ext_getElem?
  intro t
  unfold rowV
  rw [List.getElem?_replicate]
  by_cases ht : t < n
  · rw [if_pos ht, List.getElem?_map, List.getElem?_range ht]; rfl
  · rw [if_neg ht, List.getElem?_eq_none (by simp; omega)]
theorem rowV_at (n : Nat) (R : Nat → Int) (i : Nat) (hi : i < n) : (rowV n R).toArray[i]? = some (.int .u16 (R i)) := by
  have := rowV_get n R i hi
  simpa using this
def RB (W : World) (N : Nat) (R : Nat → Int) : Prop := W.heap[N]? = some (.cells (rowV 1025 R).toArray 30 (0, 0))
theorem RB.at_ {W : World} {N : Nat} {R : Nat → Int} (h : RB W N R) (i : Nat) (hi : i < 1025) : W.cell? ⟨N, i, none⟩ = some (Value.int .u16 (R i)) := by
  rw [cell_of_row _ _ _ _ _ _ h]
  exact rowV_at 1025 R i hi
theorem RB.fz {W : World} {N : Nat} {R : Nat → Int} (h : RB W N R) (i : Nat) : W.frozen? ⟨N, i, none⟩ = false := upd_fz h i
theorem RB.step {W W' : World} {N : Nat} {R : Nat → Int} (h : RB W N R) (hb : Below W.heap.size W W') : RB W' N R := (hb.block _ (Array.getElem?_eq_some_iff.1 h).1).trans h
theorem RB.set {W : World} {N : Nat} {R R' : Nat → Int} (h : RB W N R) (i : Nat) (hi : i < 1025) (v : Int) (hv : v = R' i) (ho : ∀ j, j ≠ i → j < 1025 → R' j = R j) : RB (W.setCell ⟨N, i, none⟩ (.int .u16 v)) N R' := by
  subst hv
  have : (W.setCell ⟨N, i, none⟩ (.int .u16 (R' i))).heap[N]? = some (.cells ((rowV 1025 R).toArray.setIfInBounds i (.int .u16 (R' i))) 30 (0, 0)) := heap_setCell_same W N i _ _ _ h
  rwa [rowV_set 1025 R R' i hi ho] at this
theorem RB.congr {W : World} {N : Nat} {R R' : Nat → Int} (h : RB W N R) (he : ∀ j, j < 1025 → R' j = R j) : RB W N R' := by
  have : rowV 1025 R' = rowV 1025 R := by
    unfold rowV
    exact List.map_congr_left fun j hj => by rw [he j (List.mem_range.1 hj)]
  unfold RB
  rw [this]
  exact h
def ra (bl : List (Int × Int)) (h : Nat) : Int := rmx (fun x => x == (h : Int)) bl
def rb (bl : List (Int × Int)) (i h : Nat) : Int := if h ≤ i then rch bl h else ra bl h
theorem u16_info : (Tryz.prog.info? 30).map (fun i => (i.zero, i.size, i.bytes)) = some (some (.int .u16 0), 1, 2) := by kernel_rfl
theorem below_row {w W : World} (h : Below w.heap.size w W) (i : Nat) (v : Value) : Below w.heap.size w (W.setCell ⟨w.heap.size, i, none⟩ v) := h.setCell (by exact Nat.le_refl _) _
theorem reaches_any (s : SL) (bl : List (Int × Int)) (w : World) (h : LR blC w s bl) (hn : s.2.1 ≤ 1000000) (hok : BlOK bl) :
    Calls Tryz.prog 123 #[.slice s.1 s.2.1 s.2.2] w fun e w' => e = .returned (.slice (some ⟨w.heap.size, 0, none⟩) 1025 1025) ∧ RB w' w.heap.size (rch bl) ∧ Below w.heap.size w w' := by
  obtain ⟨i0, hi0, hz0, hz1, hz2⟩ := info_parts u16_info
  have mixed : Tryz.prog.follows .mixedOrders = true := by kernel_rfl
  have H := keep h
  have HL := keep h.1
  have HOK := keep hok
  clear h hok
  obtain ⟨s1, n, s3⟩ := s
  dsimp only at HL hn ⊢
  go_enter Tryz.func123, Tryz.ntmps123
  go_wp2_with (at_make; refine wpl_make rfl _ _ 62 rfl 30 i0 (.int .u16 0) Tryz.underlying62 hi0 hz0 hz1 rfl 1025 1025 rfl rfl rfl (by rw [hz2]; decide) (by decide) ?_
               intro w1 hrow hb1 hlt1)
  go_loopw [5, 10] (fun _ i wr => ∃ j : Nat, j ≤ n ∧ i = .int .i64 j ∧ Hid (RB wr w.heap.size (ra (bl.take j))) ∧ Hid (Below w.heap.size w wr)) (fun _ i _ => n - (intOf i).toNat)
  case atStart =>
    refine ⟨0, Nat.zero_le _, rfl, keep ?_, keep hb1⟩
    have h1 := hrow.out
    rw [rowV_rep] at h1
    exact h1
  case round =>
    obtain ⟨j, hj, rfl, hR, hB⟩ := hrel
    clear hb1 hlt1 hrow
    by_cases hlt : j < n
    · obtain ⟨b, o, x, hA, hbl, hx, hc⟩ := (H.out.kept (ok := fun _ => True) (Kpt.of_below hB.out) (InF.all _)).at_ blC_len (by decide) hlt
      dsimp only at hA
      subst hA
      have c0 := hc 0 _ rfl
      have c1 := hc 1 _ rfl
      dsimp only [Nat.add_zero] at c0
      clear hc
      have HX := keep hx
      obtain ⟨x0, x1, x2, x3⟩ := HOK.out x (List.mem_of_getElem? hx)
      have hsn : bl.take (j + 1) = bl.take j ++ [x] := by rw [List.take_add_one, hx]; rfl
      obtain ⟨xf, xt⟩ := x
      dsimp only at x0 x1 x2 x3 c0 c1
      have HX' := keep (And.intro x2 x3)
      by_cases hle : xf ≤ 1024
      · obtain ⟨m, rfl⟩ : ∃ m : Nat, xf = (m : Int) := ⟨xf.toNat, by omega⟩
        have hm : m < 1025 := by omega
        have hm2 : (m : Int) < 1025 := by omega
        have HN := keep (fun (W : World) (hW : RB W w.heap.size (ra (bl.take j))) (v : Int) (hv : v = max (ra (bl.take j) m) xt) => show RB _ w.heap.size (ra (bl.take (j + 1))) from hW.set m hm v (by
          rw [hsn]
          unfold ra
          rw [rmx_snoc, if_pos (by simp)]
          exact hv) fun i hi _ => by
            rw [hsn]
            unfold ra
            rw [rmx_snoc, if_neg (by simp; omega)])
        have hra := rmx_nn (fun x => x == (m : Int)) (bl.take j)
        clear hx hsn
        obtain ⟨y, hy⟩ : ∃ y, ra (bl.take j) m = y := ⟨_, rfl⟩
        rw [hy] at HN
        clear x0 x1 x2 x3
        go_wp2
        generalize hW2 : World.alloc _ _ = W2
        have b2 : Below wr.heap.size wr W2 := by rw [← hW2]; exact below_lay wr _
        have hr2 : W2.heap[wr.heap.size]? = some (.cells #[.int .u16 (m : Int), .int .u16 xt] 143 (0, 0)) := by rw [← hW2]; exact heap_alloc_new wr _
        have HR2 := keep (hR.out.step b2)
        have HB2 := keep (hB.out.trans (b2.mono hB.out.size))
        have d0 : W2.cell? ⟨wr.heap.size, 0, none⟩ = some (Value.int .u16 (m : Int)) := upd_cell hr2 0 _ rfl
        have d1 : W2.cell? ⟨wr.heap.size, 1, none⟩ = some (Value.int .u16 xt) := upd_cell hr2 1 _ rfl
        have cm := HR2.out.at_ m hm
        have fm := HR2.out.fz m
        rw [hy] at cm
        clear hra hy hr2 b2 hW2 c0 c1
        go_region
        go_wp2
        go_roundw
        case rel => exact ⟨j + 1, by omega, by go_num, keep (HN.out W2 HR2.out _ (by rw [Int.max_def]; split <;> split <;> omega)), keep (below_row HB2.out m _).drew⟩
        case measure => simp [intOf]; omega
      · have HRN : Hid (RB wr w.heap.size (ra (bl.take (j + 1)))) := keep (hR.out.congr fun i hi => by
          rw [hsn]
          unfold ra
          rw [rmx_snoc, if_neg (by simp; omega)])
        clear hx hsn
        go_wp2
        generalize hW2 : World.alloc _ _ = W2
        have b2 : Below wr.heap.size wr W2 := by rw [← hW2]; exact below_lay wr _
        have HR2 := keep (HRN.out.step b2)
        have HB2 := keep (hB.out.trans (b2.mono hB.out.size))
        clear b2 hW2
        go_roundw
        case rel => exact ⟨j + 1, by omega, by go_num, HR2, HB2⟩
        case measure => simp [intOf]; omega
    · obtain rfl : n = j := by omega
      have hRR := hR.out
      rw [List.take_of_length_le (by have := HL.out; omega)] at hRR
      have HRR : Hid (RB wr w.heap.size (rb bl 0)) := keep (hRR.congr fun i hi => by
        unfold rb
        by_cases h : i ≤ 0
        · obtain rfl : i = 0 := by omega
          rw [if_pos h, rch_zero bl HOK.out]
          rfl
        · rw [if_neg h])
      clear hRR hR
      go_wp2
      go_loopw [6, 30] (fun _ i w3 => ∃ t : Nat, t ≤ 1024 ∧ i = .int .i64 t ∧ Hid (RB w3 w.heap.size (rb bl t)) ∧ Hid (Below w.heap.size w w3)) (fun _ i _ => 1024 - (intOf i).toNat)
      case atStart => exact ⟨0, Nat.zero_le _, rfl, HRR, hB⟩
      case round =>
        obtain ⟨t, ht, rfl, hR3, hB3⟩ := hrel
        clear HRR hB
        rename_i w3
        by_cases hlt2 : t < 1024
        · have e1 := hR3.out.at_ t (by omega)
          have e2 := hR3.out.at_ (t + 1) (by omega)
          have f2 := hR3.out.fz (t + 1)
          have v1 : rb bl t t = rch bl t := if_pos (Nat.le_refl _)
          have v2 : rb bl t (t + 1) = ra bl (t + 1) := if_neg (by omega)
          rw [v1] at e1
          rw [v2] at e2
          have HN := keep (fun (v : Int) (hv : v = max (ra bl (t + 1)) (rch bl t)) => show RB _ w.heap.size (rb bl (t + 1)) from hR3.out.set (t + 1) (by omega) v (by
            unfold rb
            rw [if_pos (Nat.le_refl _), rch_next]
            exact hv) fun i hi _ => by
              unfold rb
              by_cases h : i ≤ t
              · rw [if_pos h, if_pos (by omega)]
              · rw [if_neg h, if_neg (by omega)])
          obtain ⟨y1, hy1⟩ : ∃ y, rch bl t = y := ⟨_, rfl⟩
          obtain ⟨y2, hy2⟩ : ∃ y, ra bl (t + 1) = y := ⟨_, rfl⟩
          rw [hy1] at e1 HN
          rw [hy2] at e2 HN
          have ht2 : (t : Int) < 1024 := by omega
          have ht3 : (t : Int) + 1 < 1025 := by omega
          have ht0 : 0 ≤ (t : Int) := by omega
          clear v1 v2 hy1 hy2
          go_wp2
          go_region
          go_wp2
          go_roundw
          case rel => exact ⟨t + 1, by omega, by go_num, keep (HN.out _ (by rw [Int.max_def]; split <;> split <;> omega)), keep (below_row hB3.out (t + 1) _).drew⟩
          case measure => simp [intOf]; omega
        · obtain rfl : t = 1024 := by omega
          go_wp2
          go_ret
          exact ⟨rfl, hR3.out.congr fun i hi => by unfold rb; rw [if_pos (by omega)], hB3.out⟩
end
end Go.Proofs.YtnlkdlnmffibhaaGreat
