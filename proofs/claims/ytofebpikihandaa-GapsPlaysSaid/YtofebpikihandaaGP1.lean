/- The document's set: its floor, its row of marks, what was told twice: what lies where; New, Has, Dups, Len. -/
import Derived.ArgAppend
import Derived.Test.YtofebpikihandaaGD
namespace Go.Proofs.Ytofebpikihandaa
open Go.RowKit Go.Maps
set_option linter.unusedVariables false

/-- The marks: a row of bools in block g; the slice starts at off, has 1024 and room for c. -/
structure Mk (w : World) (g off c : Nat) (f : Nat → Bool) : Prop where
  row : ∃ cur : Array Value, w.heap[g]? = some (.cells cur 4 (0, 0)) ∧ cur.size = off + c ∧ ∀ i, i < 1024 → cur[off + i]? = some (.bool (f i))
  lo : 1024 ≤ c
theorem Mk.cell {w : World} {g off c : Nat} {f : Nat → Bool} (h : Mk w g off c f) {i : Nat} (hi : i < 1024) : w.cell? ⟨g, off + i, none⟩ = some (.bool (f i)) := by
  obtain ⟨cur, h1, _, h3⟩ := h.row
  rw [cell_of_row _ _ _ _ _ _ h1]
  exact h3 i hi
theorem Mk.fz {w : World} {g off c : Nat} {f : Nat → Bool} (h : Mk w g off c f) (k : Nat) : w.frozen? ⟨g, k, none⟩ = false := by
  obtain ⟨cur, h1, _, _⟩ := h.row
  exact frozen_of_row w g k _ _ h1
theorem Mk.lt {w : World} {g off c : Nat} {f : Nat → Bool} (h : Mk w g off c f) : g < w.heap.size := by
  obtain ⟨cur, h1, _, _⟩ := h.row
  exact (Array.getElem?_eq_some_iff.1 h1).1
theorem Mk.set {w : World} {g off c : Nat} {f : Nat → Bool} (h : Mk w g off c f) {j : Nat} (hj : j < 1024) (b : Bool) : Mk (w.setCell ⟨g, off + j, none⟩ (.bool b)) g off c (fun i => if i = j then b else f i) := by
  obtain ⟨cur, h1, h2, h3⟩ := h.row
  refine ⟨⟨cur.setIfInBounds (off + j) (.bool b), heap_setCell_same w g (off + j) _ _ _ h1, by simpa using h2, fun i hi => ?_⟩, h.lo⟩
  have := h.lo
  rw [Array.getElem?_setIfInBounds]
  by_cases e : i = j
  · subst e
    rw [if_pos rfl, if_pos rfl, if_pos (by omega)]
  · rw [if_neg (by omega), if_neg e]
    exact h3 i hi
theorem Mk.slide {w : World} {g off c : Nat} {f : Nat → Bool} (h : Mk w g off c f) (hc : 1025 ≤ c) (b : Bool) : Mk (w.setCell ⟨g, off + 1 + 1023, none⟩ (.bool b)) g (off + 1) (c - 1) (fun i => if i = 1023 then b else f (i + 1)) := by
  obtain ⟨cur, h1, h2, h3⟩ := h.row
  refine ⟨⟨cur.setIfInBounds (off + 1 + 1023) (.bool b), heap_setCell_same w g (off + 1 + 1023) _ _ _ h1, by simp; omega, fun i hi => ?_⟩, by omega⟩
  rw [Array.getElem?_setIfInBounds]
  by_cases e : i = 1023
  · subst e
    rw [if_pos rfl, if_pos rfl, if_pos (by omega)]
  · rw [if_neg (by omega), if_neg e]
    have := h3 (i + 1) (by omega)
    rwa [show off + 1 + i = off + (i + 1) by omega]
theorem Mk.spare {w : World} {g off c : Nat} {f : Nat → Bool} (h : Mk w g off c f) {j : Nat} (hj : j < c) : (w.cell? ⟨g, off + j, none⟩).isSome = true := by
  obtain ⟨cur, h1, h2, _⟩ := h.row
  rw [cell_of_row _ _ _ _ _ _ h1, Array.getElem?_eq_getElem (by omega)]
  rfl
theorem Mk.kept {S : Nat → Prop} {w w' : World} {g off c : Nat} {f : Nat → Bool} (h : Mk w g off c f) (hp : Part S w w') (hg : ¬ S g) : Mk w' g off c f := by
  have hlt := h.lt
  obtain ⟨cur, h1, h2⟩ := h.row
  exact ⟨⟨cur, (hp.block g hlt hg).trans h1, h2⟩, h.lo⟩
theorem Mk.of_own {w : World} {base : Nat} {v : Value} {xs : List Value} {f : Nat → Bool} (h : w.ownsRow base 4 1 v 1024 xs) (hf : ∀ i, i < 1024 → xs[i]? = some (.bool (f i))) :
    ∃ g c, v = .slice (some ⟨g, 0, none⟩) 1024 c ∧ base ≤ g ∧ Mk w g 0 c f := by
  rcases h.2 with ⟨_, h0⟩ | ⟨g, cap, cur, hv, hg, hgg, h1, h2, h3, ht⟩
  · exact absurd h0 (by decide)
  · refine ⟨g, cap, hv, hg, ⟨cur, hgg, by omega, fun i hi => ?_⟩, h1⟩
    have := hf i hi
    rw [← ht, List.getElem?_take, if_pos (by omega)] at this
    simpa using this
theorem Mk.congr {w : World} {g off c : Nat} {f f' : Nat → Bool} (h : Mk w g off c f) (e : ∀ i, i < 1024 → f i = f' i) : Mk w g off c f' := by
  obtain ⟨cur, h1, h2, h3⟩ := h.row
  exact ⟨⟨cur, h1, h2, fun i hi => by rw [← e i hi]; exact h3 i hi⟩, h.lo⟩
theorem Mk.made {w : World} {g : Nat} (h : w.heap[g]? = some (.cells (List.replicate 1024 (.bool false)).toArray 4 (0, 0))) : Mk w g 0 1024 (fun _ => false) :=
  ⟨⟨_, h, by rw [List.size_toArray, List.length_replicate, Nat.zero_add], fun i hi => by rw [Nat.zero_add, List.getElem?_toArray, List.getElem?_replicate, if_pos hi]⟩, Nat.le_refl _⟩

/-- Which heights there are, as marks. -/
def mark (L : List Nat) (i : Nat) : Bool := decide (i + 1 ∈ L)
/-- The block b is the document's set: its marks lie in block g, v is what was told twice. -/
structure RA (w : World) (b g off c : Nat) (v : Value) (f : Int) (m : Nat → Bool) (T : List Int) : Prop where
  blk : w.heap[b]? = some (.cells #[.int .u32 f, .slice (some ⟨g, off, none⟩) 1024 c, v] 39 (0, 0))
  mks : Mk w g off c m
  row : w.ownsRow 0 22 1 v T.length (u32s T)
  lo : 0 ≤ f
  hi : f < 4294967296
  few : T.length ≤ 64
/-- The blocks of the document's set. -/
def Rb (b g : Nat) (v : Value) (i : Nat) : Prop := i = b ∨ i = g ∨ v.ownBlock = some i
theorem RA.lt {w : World} {b g off c : Nat} {v : Value} {f : Int} {m : Nat → Bool} {T : List Int} (h : RA w b g off c v f m T) : b < w.heap.size := (Array.getElem?_eq_some_iff.1 h.blk).1
theorem RA.ne {w : World} {b g off c : Nat} {v : Value} {f : Int} {m : Nat → Bool} {T : List Int} (h : RA w b g off c v f m T) : g ≠ b := by
  rintro rfl
  obtain ⟨cur, h1, _⟩ := h.mks.row
  rw [h.blk] at h1
  simp at h1
theorem RA.row_ne {w : World} {b g off c : Nat} {v : Value} {f : Int} {m : Nat → Bool} {T : List Int} (h : RA w b g off c v f m T) {k : Nat} (hk : v.ownBlock = some k) : k ≠ b ∧ k ≠ g ∧ k < w.heap.size := by
  obtain ⟨cur, fr, hc⟩ := own_cells h.row hk
  refine ⟨?_, ?_, (Array.getElem?_eq_some_iff.1 hc).1⟩
  · rintro rfl
    rw [h.blk] at hc
    simp at hc
  · rintro rfl
    obtain ⟨cur, h1, _⟩ := h.mks.row
    rw [h1] at hc
    simp at hc
theorem RA.rw_lt {w : World} {b g off c : Nat} {v : Value} {f : Int} {m : Nat → Bool} {T : List Int} (h : RA w b g off c v f m T) {i : Nat} (hi : Rb b g v i) : i < w.heap.size := by
  rcases hi with rfl | rfl | hi
  · exact h.lt
  · exact h.mks.lt
  · exact (h.row_ne hi).2.2
theorem RA.kept {S : Nat → Prop} {w w' : World} {b g off c : Nat} {v : Value} {f : Int} {m : Nat → Bool} {T : List Int} (h : RA w b g off c v f m T) (hp : Part S w w') (hk : ∀ i, Rb b g v i → ¬ S i) : RA w' b g off c v f m T :=
  ⟨(hp.block b h.lt (hk b (.inl rfl))).trans h.blk, h.mks.kept hp (hk g (.inr (.inl rfl))), hp.own h.row fun k hkk => hk k (.inr (.inr hkk)), h.lo, h.hi, h.few⟩
theorem RA.step {w w' : World} {b g off c : Nat} {v : Value} {f : Int} {m : Nat → Bool} {T : List Int} (h : RA w b g off c v f m T) (hp : Below w.heap.size w w') : RA w' b g off c v f m T := h.kept (Part.of_below (fun _ => False) hp) fun _ _ hc => hc
theorem RA.c0 {w : World} {b g off c : Nat} {v : Value} {f : Int} {m : Nat → Bool} {T : List Int} (h : RA w b g off c v f m T) : w.cell? ⟨b, 0, none⟩ = some (.int .u32 f) := by
  rw [cell_of_row w b 0 _ _ _ h.blk]
  rfl
theorem RA.c1 {w : World} {b g off c : Nat} {v : Value} {f : Int} {m : Nat → Bool} {T : List Int} (h : RA w b g off c v f m T) : w.cell? ⟨b, 1, none⟩ = some (.slice (some ⟨g, off, none⟩) 1024 c) := by
  rw [cell_of_row w b 1 _ _ _ h.blk]
  rfl
theorem RA.c2 {w : World} {b g off c : Nat} {v : Value} {f : Int} {m : Nat → Bool} {T : List Int} (h : RA w b g off c v f m T) : w.cell? ⟨b, 2, none⟩ = some v := by
  rw [cell_of_row w b 2 _ _ _ h.blk]
  rfl
theorem RA.fz {w : World} {b g off c : Nat} {v : Value} {f : Int} {m : Nat → Bool} {T : List Int} (h : RA w b g off c v f m T) (j : Nat) : w.frozen? ⟨b, j, none⟩ = false := by simp [World.frozen?, h.blk]

theorem bool_info : (Try.prog.info? 4).map (fun i => (i.zero, i.size, i.bytes)) = some (some (.bool false), 1, 1) := by kernel_rfl
theorem refNew_any (n : Int) (n0 : 0 ≤ n) (n1 : n < 4294967296) (w : World) :
    Calls Try.prog 7 #[.int .u32 n] w fun e w' => ∃ b g c, e = .returned (.pointer (some ⟨b, 0, none⟩)) ∧ RA w' b g 0 c (.slice none 0 0) (wr (n - 1)) (mark []) [] ∧ w.heap.size ≤ b ∧ w.heap.size ≤ g ∧ Below w.heap.size w w' := by
  have e1 : Hid ((n - 1) % 4294967296 = wr (n - 1)) := rfl
  obtain ⟨i0, hi0, hz0, hz1, hz2⟩ := info_parts bool_info
  go_enter Try.func7, Try.ntmps7
  go_wp2_with (at_make; refine wpl_make rfl _ _ 37 rfl 4 i0 (.bool false) Try.underlying37 hi0 hz0 hz1 rfl 1024 _ rfl rfl rfl (by rw [hz2]; omega) (by unfold maxLen; omega) ?_; intro w1 hg1 hb1 hs1; replace hb1 := keep hb1; replace hs1 := keep hs1)
  go_ret
  have hm := (Mk.made hg1.out).kept (Part.of_below (fun _ => False) (below_lay w1 (.cells #[.int .u32 ((n - 1) % 4294967296), .slice (some ⟨w.heap.size, 0, none⟩) 1024 1024, .slice none 0 0] 39))) (fun x => x)
  refine ⟨w1.heap.size, w.heap.size, 1024, rfl, ⟨heap_alloc_new w1 _, hm.congr fun i _ => by simp [mark], World.ownsRow_nil _ _ _ _, wr_lo _, wr_hi _, by decide⟩, hb1.out.size, Nat.le_refl _, hb1.out.trans ((below_lay w1 _).mono hb1.out.size)⟩

theorem wrap_ht (h : Nat) (hh : h < 4294967296) : IntKind.i64.wrap (h : Int) = h ∧ wrap64 (h : Int) = h := by
  constructor
  · simp [IntKind.wrap, IntKind.signed, IntKind.bits]; omega
  · unfold wrap64; omega
set_option maxHeartbeats 1000000 in
set_option maxRecDepth 100000 in
theorem refHas_set {b g off c : Nat} {v : Value} {f : Int} {L : List Nat} {T : List Int} {w : World} (h : RA w b g off c v f (mark L) T) (hL : Fit L) {n : Int} (n0 : 0 ≤ n) (n1 : n < 4294967296) :
    Calls Try.prog 22 #[.pointer (some ⟨b, 0, none⟩), .int .u32 n] w fun e w' => e = .returned (.bool (had f L n)) ∧ w = w' := by
  have c0 := h.c0
  have c1 := h.c1
  have K := keep (refDist_any f n h.lo n0 h.hi n1 w)
  have hh := ht_int f n
  have hlt := ht_lt f n
  have hi := @had_iff f L n
  have HM := keep (fun i (hi : i < 1024) => h.mks.cell hi)
  obtain ⟨x, hx⟩ : ∃ x, ht f n = x := ⟨_, rfl⟩
  rw [← hh] at K
  rw [hx] at K hlt hi
  have hc := h.mks.lo
  obtain ⟨w1, w2⟩ := wrap_ht x hlt
  have hz : (1024 : Int) ≤ (c : Int) := by omega
  by_cases h0 : x = 0
  · have e : had f L n = true := hi.2 (.inl h0)
    rw [e]
    subst h0
    clear hi hx hh hlt h n0 n1 e hc hz
    go_enter Try.func22, Try.ntmps22
    go_wp2_with (go_at_call 28; refine K.out.mono ?_; rintro e w' ⟨rfl, rfl⟩)
    go_ret
    exact ⟨rfl, rfl⟩
  by_cases h1 : 2147483648 ≤ x
  · have e : had f L n = true := hi.2 (.inr (.inl h1))
    rw [e]
    have x0 : ((x : Int) == 0) = false := by simp [h0]
    have x1 : (2147483648 : Int) ≤ (x : Int) := by omega
    clear hi hx hh hlt h n0 n1 e hc hz h0 h1
    generalize (x : Int) = X at K w1 w2 x0 x1
    go_enter Try.func22, Try.ntmps22
    go_wp2_with (go_at_call 28; refine K.out.mono ?_; rintro e w' ⟨rfl, rfl⟩)
    go_ret
    exact ⟨rfl, rfl⟩
  have x0 : ((x : Int) == 0) = false := by simp [h0]
  have x1 : ¬ (2147483648 : Int) ≤ (x : Int) := by omega
  by_cases h2 : 1024 < x
  · have e : had f L n = false := by
      cases hb : had f L n
      · rfl
      · rcases hi.1 hb with k | k | k
        · omega
        · omega
        · have := hL.top _ k
          omega
    rw [e]
    have x2 : ¬ (x : Int) ≤ 1024 := by omega
    clear hi hx hh hlt h n0 n1 e hc hz h0 h1 h2
    generalize (x : Int) = X at K w1 w2 x0 x1 x2
    have HX1 := keep (decide_eq_false x1)
    go_enter Try.func22, Try.ntmps22
    go_wp2_with (go_at_call 28; refine K.out.mono ?_; rintro e w' ⟨rfl, rfl⟩)
    go_ret
    exact ⟨ret_bool HX1.out, rfl⟩
  · have e : had f L n = mark L (x - 1) := by
      unfold mark
      rw [show x - 1 + 1 = x by omega]
      cases hb : had f L n
      · symm
        apply decide_eq_false
        intro k
        rw [hi.2 (.inr (.inr k))] at hb
        cases hb
      · symm
        apply decide_eq_true
        rcases hi.1 hb with k | k | k
        · omega
        · omega
        · exact k
    rw [e]
    have x2 : (x : Int) ≤ 1024 := by omega
    obtain ⟨y, rfl⟩ : ∃ y, x = y + 1 := ⟨x - 1, by omega⟩
    have k1 := HM.out y (by omega)
    rw [Nat.add_sub_cancel]
    obtain ⟨z, hz2⟩ : ∃ z, mark L y = z := ⟨_, rfl⟩
    rw [hz2] at k1 ⊢
    have x3 : ((y + 1 : Nat) : Int) - 1 = (y : Int) := by omega
    have x4 : (y : Int) < 1024 := by omega
    clear hi hx hh hlt h n0 n1 e hc hz h0 h1 h2 HM hz2
    generalize ((y + 1 : Nat) : Int) = X at K w1 w2 x0 x1 x2 x3
    have HX1 := keep (decide_eq_false x1)
    go_enter Try.func22, Try.ntmps22
    go_wp2_with (go_at_call 28; refine K.out.mono ?_; rintro e w' ⟨rfl, rfl⟩)
    go_ret
    exact ⟨ret_bool (by rw [HX1.out]; rfl), rfl⟩

/-- Behind a call that wrote the document's set. -/
def RTurned (w : World) (b g : Nat) (v : Value) (f : Int) (m : Nat → Bool) (T : List Int) (w' : World) : Prop :=
  ∃ g' off' c' v', RA w' b g' off' c' v' f m T ∧ (g' = g ∨ w.heap.size ≤ g') ∧ (v'.ownBlock = v.ownBlock ∨ v' = .slice none 0 0 ∨ ∃ k, v'.ownBlock = some k ∧ w.heap.size ≤ k) ∧ Part (Rb b g v) w w'
/-- A block of three cells written at any of them. -/
theorem set_blk3 {w : World} {b : Nat} {x y z : Value} {t : TypeId} (h : w.heap[b]? = some (.cells #[x, y, z] t (0, 0))) (u : Value) :
    (w.setCell ⟨b, 0, none⟩ u).heap[b]? = some (.cells #[u, y, z] t (0, 0)) ∧ (w.setCell ⟨b, 1, none⟩ u).heap[b]? = some (.cells #[x, u, z] t (0, 0)) ∧ (w.setCell ⟨b, 2, none⟩ u).heap[b]? = some (.cells #[x, y, u] t (0, 0)) := by
  unfold World.setCell
  refine ⟨?_, ?_, ?_⟩ <;> simp [Array.getElem?_modify, h]
theorem refDups_set {b g off c : Nat} {v : Value} {f : Int} {m : Nat → Bool} {T : List Int} {w : World} (h : RA w b g off c v f m T) :
    Calls Try.prog 14 #[.pointer (some ⟨b, 0, none⟩)] w fun e w' => e = .returned v ∧ RA w' b g off c (.slice none 0 0) f m [] ∧ w'.ownsRow 0 22 1 v T.length (u32s T) ∧ Part (fun i => i = b) w w' := by
  have c2 := h.c2
  have f2 := h.fz 2
  have hp : Part (fun i => i = b) w (w.setCell ⟨b, 2, none⟩ (.slice none 0 0)) := (Part.refl (fun i => i = b) w).setCell (p := ⟨b, 2, none⟩) (.inl rfl) _
  have hs : RA (w.setCell ⟨b, 2, none⟩ (.slice none 0 0)) b g off c (.slice none 0 0) f m [] := ⟨(set_blk3 h.blk _).2.2, h.mks.kept hp h.ne, World.ownsRow_nil _ _ _ _, h.lo, h.hi, by decide⟩
  have ho := hp.own h.row fun k hk => (h.row_ne hk).1
  have H := keep (And.intro hs (And.intro ho hp))
  obtain ⟨A, c', hv, _⟩ := own_shape h.row
  subst hv
  obtain ⟨q, hq⟩ : ∃ q, T.length = q := ⟨_, rfl⟩
  rw [hq] at c2 H ⊢
  clear h hp hs ho hq
  go_enter Try.func14, Try.ntmps14
  go_wp2
  go_ret
  exact ⟨rfl, H.out⟩
/-- How many of the first i are marked. -/
def cntm (m : Nat → Bool) (i : Nat) : Nat := ((List.range i).filter m).length
theorem cntm_succ (m : Nat → Bool) (i : Nat) : cntm m (i + 1) = if m i = true then cntm m i + 1 else cntm m i := by
  unfold cntm
  rw [List.range_succ, List.filter_append, List.length_append]
  by_cases h : m i = true
  · rw [if_pos h]
    simp [h]
  · rw [if_neg h]
    simp [h]
theorem cntm_le (m : Nat → Bool) (i : Nat) : cntm m i ≤ i := by
  unfold cntm
  exact Nat.le_trans (List.length_filter_le _ _) (by simp)
theorem cntm_mark {L : List Nat} (hL : Fit L) : cntm (mark L) 1024 = L.length := by
  unfold cntm
  have hp : ((List.range 1024).filter (mark L)).map (· + 1) = L := by
    refine Asc.eq ⟨?_, ?_⟩ hL.asc fun x => ?_
    · rw [List.pairwise_map]
      exact (List.pairwise_lt_range.filter _).imp fun h => Nat.succ_lt_succ h
    · intro h hh
      obtain ⟨i, _, rfl⟩ := List.mem_map.1 hh
      omega
    · rw [List.mem_map]
      constructor
      · rintro ⟨i, hi, rfl⟩
        have := (List.mem_filter.1 hi).2
        simpa [mark] using this
      · intro hx
        have h1 := hL.asc.pos x hx
        have h2 := hL.top x hx
        refine ⟨x - 1, List.mem_filter.2 ⟨List.mem_range.2 (by omega), ?_⟩, by omega⟩
        unfold mark
        rw [show x - 1 + 1 = x by omega]
        exact decide_eq_true hx
  have := congrArg List.length hp
  rwa [List.length_map] at this
set_option maxHeartbeats 1000000 in
set_option maxRecDepth 100000 in
theorem refLen_set {b g off c : Nat} {v : Value} {f : Int} {m : Nat → Bool} {T : List Int} {w : World} (h : RA w b g off c v f m T) :
    Calls Try.prog 17 #[.pointer (some ⟨b, 0, none⟩)] w fun e w' => e = .returned (.int .i64 (cntm m 1024 : Nat)) ∧ w = w' := by
  have c1 := h.c1
  have HM := keep (fun i (hi : i < 1024) => h.mks.cell hi)
  have hc := h.mks.lo
  clear h hc
  go_enter Try.func17, Try.ntmps17
  go_wp2_with fail
  go_loop [3, 4] (fun vn vi => ∃ i : Nat, vi = .int .i64 i ∧ vn = .int .i64 (cntm m i : Nat) ∧ i ≤ 1024) (fun _ vi => 1024 - (intOf vi).toNat)
  case atStart => exact ⟨0, rfl, rfl, Nat.zero_le _⟩
  case round =>
    obtain ⟨i, rfl, rfl, hi⟩ := hrel
    by_cases hlt : i < 1024
    · have k1 := HM.out i hlt
      have hz : (i : Int) < 1024 := by omega
      have E := keep (cntm_succ m i)
      have CL := keep (cntm_le m i)
      obtain ⟨n, hn⟩ : ∃ n, cntm m i = n := ⟨_, rfl⟩
      rw [hn] at E CL ⊢
      have nz : (n : Int) ≤ 1024 := by have := CL.out; omega
      have HLT := keep hlt
      clear hn hlt hi
      rcases hb : m i with _ | _
      · rw [hb] at k1
        have E2 := keep (show cntm m (i + 1) = n by rw [E.out, if_neg (by rw [hb]; decide)])
        clear hb E
        go_wp2_with fail
        go_round
        case rel => exact ⟨i + 1, by go_num, by rw [E2.out], HLT.out⟩
        case measure => have := HLT.out; simp [intOf]; omega
      · rw [hb] at k1
        have E2 := keep (show cntm m (i + 1) = n + 1 by rw [E.out, if_pos hb])
        clear hb E
        go_wp2_with fail
        go_round
        case rel => exact ⟨i + 1, by go_num, by rw [E2.out]; go_num, HLT.out⟩
        case measure => have := HLT.out; simp [intOf]; omega
    · obtain rfl : i = 1024 := by omega
      obtain ⟨n, hn⟩ : ∃ n, cntm m 1024 = n := ⟨_, rfl⟩
      rw [hn]
      replace hn := keep hn
      go_wp2_with fail
      go_ret
      exact ⟨by rw [hn.out]; rfl, rfl⟩
end Go.Proofs.Ytofebpikihandaa
