/- A new join. -/
import Derived.Test.YthpcblbciidmeaaJW
namespace Go.Proofs.Ythpcblbciidmeaa
open Go.RowKit Go.Maps
set_option linter.unusedVariables false

def NewP (w : World) (N : Nat) (e : Ending) (w' : World) : Prop := ∃ G, e = .returned (.pointer (some ⟨G.b, 0, none⟩)) ∧ G.n = N ∧ JA w' G ⟨(N : Int), fun _ => 0, [], [], []⟩ 0 ∧ Below w.heap.size w w' ∧ (∀ i, G.O i → w.heap.size ≤ i) ∧ ∀ i, ¬ G.F i
theorem stream_info : (Try.prog.info? 66).map (fun i => (i.zero, i.size, i.bytes)) = some (some (.agg #[.map none, .int .u16 0]), 2, 16) := by kernel_rfl
theorem made_at (n i : Nat) (hi : i < n) : (madeCells #[.map none, .int .u16 0] (n * 2))[i * 2]? = some (.map none) ∧ (madeCells #[.map none, .int .u16 0] (n * 2))[i * 2 + 1]? = some (.int .u16 0) := by
  constructor
  · rw [Array.getElem?_eq_some_iff]
    refine ⟨by rw [size_madeCells]; omega, ?_⟩
    simp [madeCells]
  · rw [Array.getElem?_eq_some_iff]
    refine ⟨by rw [size_madeCells]; omega, ?_⟩
    have : (i * 2 + 1) % 2 = 1 := by omega
    simp [madeCells, this]
theorem wpl_makeS (w : World) {ops : Array Oper} {rest : List Oper} {o : Oper} {a : Act} {Q : Exit → Act → World → Prop} (hg : Region.wanted o (yielded ops a.tmps) = true) (l c : Operand) (hop : o.op = Op.makeSlice 61 l c) (n : Nat) (hl : a.eval l = .int .i64 n) (hc : a.eval c = .int .i64 n) (hn : n ≤ 64)
    (h : wpList Try.prog ops Q rest (a.put o.dst (.slice (some ⟨w.heap.size, 0, none⟩) n n)) (w.alloc (.cells (madeCells #[.map none, .int .u16 0] (n * 2)) 66))) :
    wpList Try.prog ops Q (o :: rest) a w := by
  obtain ⟨i0, hi0, hz0, hz1, hz2⟩ := info_parts stream_info
  refine wpl_wanted hg fun K hK' => ?_
  have hr := run_make (P := Try.prog) w 61 66 i0 _ Try.underlying61 hi0 hz0 .i64 .i64 n n (by omega) (by omega) (by rw [hz2]; omega) (by omega)
  rw [hz1] at hr
  simp only [Int.toNat_natCast] at hr
  unfold Oper.wp
  simp [execOp, hop, hl, hc, hr, Result.andThen]
  exact hK' _ _ h
structure NR (w : World) (N t : Nat) (wr : World) : Prop where
  sz : wr.heap.size = w.heap.size + 3 + t
  be : Below w.heap.size w wr
  blk : wr.heap[w.heap.size + 2]? = some (.cells #[.map (some w.heap.size), .slice (some ⟨w.heap.size + 1, 0, none⟩) N N, .slice none 0 0, .int .i64 0] 63 (0, 0))
  mp : MapV wr 26 .u32 w.heap.size 0 fun _ => none
  row : ∃ cs, wr.heap[w.heap.size + 1]? = some (.cells cs 66 (0, 0)) ∧ (∀ i, i < t → cs[i * 2]? = some (.map (some (w.heap.size + 3 + i)))) ∧ ∀ i, i < N → i * 2 + 1 < cs.size ∧ cs[i * 2 + 1]? = some (.int .u16 0)
  ms : ∀ i, i < t → MapV wr 27 .u16 (w.heap.size + 3 + i) 0 fun _ => none
theorem NR.start (w : World) (N : Nat) : NR w N 0 (((w.alloc (.map #[] 0)).alloc (.cells (madeCells #[.map none, .int .u16 0] (N * 2)) 66)).alloc (.cells #[.map (some w.heap.size), .slice (some ⟨w.heap.size + 1, 0, none⟩) N N, .slice none 0 0, .int .i64 0] 63)) := by
  have b0 := below_lay w (.map #[] 0)
  have b1 := below_lay (w.alloc (.map #[] 0)) (.cells (madeCells #[.map none, .int .u16 0] (N * 2)) 66)
  have b2 := below_lay ((w.alloc (.map #[] 0)).alloc (.cells (madeCells #[.map none, .int .u16 0] (N * 2)) 66)) (.cells #[.map (some w.heap.size), .slice (some ⟨w.heap.size + 1, 0, none⟩) N N, .slice none 0 0, .int .i64 0] 63)
  have h1 := heap_alloc_new (w.alloc (.map #[] 0)) (.cells (madeCells #[.map none, .int .u16 0] (N * 2)) 66)
  have h2 := heap_alloc_new ((w.alloc (.map #[] 0)).alloc (.cells (madeCells #[.map none, .int .u16 0] (N * 2)) 66)) (.cells #[.map (some w.heap.size), .slice (some ⟨w.heap.size + 1, 0, none⟩) N N, .slice none 0 0, .int .i64 0] 63)
  have s1 : (w.alloc (.map #[] 0)).heap.size = w.heap.size + 1 := by simp
  have s2 : ((w.alloc (.map #[] 0)).alloc (.cells (madeCells #[.map none, .int .u16 0] (N * 2)) 66)).heap.size = w.heap.size + 2 := by simp
  rw [s1] at h1
  rw [s2] at h2
  refine ⟨by simp, up (up b0 b1) b2, h2, ?_, ⟨_, (b2.block _ (by omega)).trans h1, fun i hi => by omega, fun i hi => ⟨by rw [size_madeCells]; omega, (made_at N i hi).2⟩⟩, fun i hi => by omega⟩
  exact (MapV.made w _ _).same ((b2.block _ (by omega)).trans (b1.block _ (by omega)))
theorem NR.next {w wr : World} {N t : Nat} (h : NR w N t wr) (ht : t < N) : NR w N (t + 1) ((wr.alloc (.map #[] 0)).setCell ⟨w.heap.size + 1, t * 2, none⟩ (.map (some wr.heap.size))) := by
  have b0 := below_lay wr (.map #[] 0)
  have hsz := h.sz
  obtain ⟨cs, hc, h1, h2⟩ := h.row
  have hc' := (b0.block (w.heap.size + 1) (by omega)).trans hc
  have hs := heap_setCell_same (wr.alloc (.map #[] 0)) (w.heap.size + 1) (t * 2) _ _ (.map (some wr.heap.size)) hc'
  have ho : ∀ k, k ≠ w.heap.size + 1 → ((wr.alloc (.map #[] 0)).setCell ⟨w.heap.size + 1, t * 2, none⟩ (.map (some wr.heap.size))).heap[k]? = (wr.alloc (.map #[] 0)).heap[k]? := fun k hk => heap_setCell_other _ ⟨w.heap.size + 1, t * 2, none⟩ k _ hk
  refine ⟨by simp; omega, (up h.be b0).setCell (p := ⟨w.heap.size + 1, t * 2, none⟩) (Nat.le_succ _) _, ((ho _ (by omega)).trans (b0.block _ (by omega))).trans h.blk, h.mp.same ((ho _ (by omega)).trans (b0.block _ (by omega))), ⟨_, hs, fun i hi => ?_, fun i hi => ⟨by rw [Array.size_setIfInBounds]; exact (h2 i hi).1, ?_⟩⟩, fun i hi => ?_⟩
  · rw [Array.getElem?_setIfInBounds]
    have := (h2 t ht).1
    by_cases e : i = t
    · subst e
      rw [if_pos rfl, if_pos (by omega), hsz]
    · rw [if_neg (by omega)]
      exact h1 i (by omega)
  · rw [Array.getElem?_setIfInBounds, if_neg (by omega)]
    exact (h2 i hi).2
  · by_cases e : i = t
    · subst e
      have hm := MapV.made wr 27 .u16
      rw [hsz] at hm
      exact hm.same (ho _ (by omega))
    · exact (h.ms i (by omega)).same ((ho _ (by omega)).trans (b0.block _ (by omega)))
theorem NR.done {w wr : World} {N : Nat} (h : NR w N N wr) (e : Ending) (he : e = .returned (.pointer (some ⟨w.heap.size + 2, 0, none⟩))) : NewP w N e wr := by
  obtain ⟨cs, hc, h1, h2⟩ := h.row
  have hsz := h.sz
  have hO2 : w.heap.size ≤ w.heap.size + 2 ∧ w.heap.size + 2 < w.heap.size + 3 + N := by omega
  have hO1 : w.heap.size ≤ w.heap.size + 1 ∧ w.heap.size + 1 < w.heap.size + 3 + N := by omega
  have hO0 : w.heap.size ≤ w.heap.size ∧ w.heap.size < w.heap.size + 3 + N := by omega
  have hO3 : ∀ i, i < N → w.heap.size ≤ w.heap.size + 3 + i ∧ w.heap.size + 3 + i < w.heap.size + 3 + N := by omega
  refine ⟨⟨w.heap.size + 2, w.heap.size, w.heap.size + 1, N, .slice none 0 0, fun _ => none, fun _ => CX.zero, fun _ => 0, fun i => w.heap.size + 3 + i, fun _ _ => none, [], fun i => w.heap.size ≤ i ∧ i < w.heap.size + 3 + N, fun _ => False⟩, he, rfl, ⟨h.blk, hO2, rfl, ⟨h.mp, hO0, fun n p e => (by cases e), fun x hx => (by cases hx), fun n m p e => (by cases e)⟩, ⟨⟨cs, hc, fun i hi => ⟨h1 i hi, (h2 i hi).2⟩⟩, fun i hi => h.ms i hi, hO1, fun i hi => hO3 i hi, fun i i' hi hi' e => ?_, fun i hi k => rfl, fun i hi k x e => (by cases e)⟩, ⟨World.ownsRow_nil _ _ _ _, fun g e => (by cases e), rfl, fun x hx => (by cases hx)⟩, fun i hi e => ?_, fun i hi hc => hc, fun i hi => by have := hi.2; omega, fun i hi => hi.elim⟩, h.be, fun i hi => hi.1, fun i hi => hi⟩
  · have e : w.heap.size + 3 + i = w.heap.size + 3 + i' := e
    omega
  · have e : w.heap.size + 3 + i = w.heap.size := e
    omega
set_option maxRecDepth 1000000 in
set_option maxHeartbeats 4000000 in
theorem New_in (w : World) (N : Nat) (h1 : 1 ≤ N) (h2 : N ≤ 64) : Calls Try.prog 9 #[.int .i64 (N : Int)] w (NewP w N) := by
  have hN1 : ¬ (N : Int) < 1 := by omega
  have hmm := @run_makeMap Try.prog
  have hN2 : ¬ (64 : Int) < (N : Int) := by omega
  go_enter Try.func9, Try.ntmps9
  go_wp2_with (at_make; refine wpl_makeS _ rfl _ _ rfl N rfl rfl h2 ?_)
  have HN0 := keep (NR.start w N)
  generalize World.alloc (World.alloc (World.alloc _ _) _) _ = W0 at HN0 ⊢
  go_loopw [21] (fun iv wr => ∃ (t : Nat), iv = .int .i64 (t : Int) ∧ t ≤ N ∧ Hid (NR w N t wr)) (fun iv _ => N - (intOf iv).toNat)
  case atStart => exact ⟨0, rfl, Nat.zero_le _, HN0⟩
  case round =>
    obtain ⟨t, rfl, ht, HR⟩ := hrel
    by_cases hlt : t < N
    · have hlt' : (t : Int) < (N : Int) := by omega
      have hwt : IntKind.i64.wrap ((t : Int) + 1) = (t : Int) + 1 := wrap_small (by omega) (by omega)
      have LT := keep hlt
      have c1 : wr.cell? ⟨w.heap.size + 1 + 1, 1, none⟩ = some (.slice (some ⟨w.heap.size + 1, 0, none⟩) N N) := by
        rw [cell_of_row _ _ _ _ _ _ HR.out.blk]; rfl
      have hsz := HR.out.sz
      have sf : (wr.alloc (.map #[] 0)).frozen? ⟨w.heap.size + 1, t * 2, none⟩ = false := by
        obtain ⟨cs, hc, _⟩ := HR.out.row
        have hc' := ((below_lay wr (.map #[] 0)).block (w.heap.size + 1) (by omega)).trans hc
        simp [World.frozen?, hc']
      have s0 : ∃ v, (wr.alloc (.map #[] 0)).cell? ⟨w.heap.size + 1, t * 2, none⟩ = some v := by
        obtain ⟨cs, hc, _, h2⟩ := HR.out.row
        have hc' := ((below_lay wr (.map #[] 0)).block (w.heap.size + 1) (by omega)).trans hc
        have := (h2 t hlt).1
        exact ⟨cs[t * 2]'(by omega), by rw [cell_of_row _ _ _ _ _ _ hc']; exact Array.getElem?_eq_getElem _⟩
      obtain ⟨v0, s0⟩ := s0
      have HQ := keep (HR.out.next hlt)
      clear hsz hlt
      go_wp2
      go_roundw
      case rel => exact ⟨t + 1, by go_num, LT.out, HQ⟩
      case measure => (have := LT.out; simp [intOf]; omega)
    · obtain rfl : t = N := by omega
      have hlt' : ¬ (t : Int) < (t : Int) := by omega
      clear hlt
      go_wp2
      go_ret
      exact HR.out.done _ rfl
set_option maxRecDepth 1000000 in
set_option maxHeartbeats 4000000 in
theorem New_out (w : World) (x : Int) (h : x < 1 ∨ 64 < x) : Calls Try.prog 9 #[.int .i64 x] w (NewP w 64) := by
  have hmm := @run_makeMap Try.prog
  rcases h with h | h
  all_goals
    go_enter Try.func9, Try.ntmps9
    go_wp2_with (at_make; refine wpl_makeS _ rfl _ _ rfl 64 rfl rfl (by decide) ?_)
    have HN0 := keep (NR.start w 64)
    generalize World.alloc (World.alloc (World.alloc _ _) _) _ = W0 at HN0 ⊢
    go_loopw [21] (fun iv wr => ∃ (t : Nat), iv = .int .i64 (t : Int) ∧ t ≤ 64 ∧ Hid (NR w 64 t wr)) (fun iv _ => 64 - (intOf iv).toNat)
    case atStart => exact ⟨0, rfl, Nat.zero_le _, HN0⟩
    case round =>
      obtain ⟨t, rfl, ht, HR⟩ := hrel
      by_cases hlt : t < 64
      · have hlt' : (t : Int) < 64 := by omega
        have hwt : IntKind.i64.wrap ((t : Int) + 1) = (t : Int) + 1 := wrap_small (by omega) (by omega)
        have LT := keep hlt
        have c1 : wr.cell? ⟨w.heap.size + 1 + 1, 1, none⟩ = some (.slice (some ⟨w.heap.size + 1, 0, none⟩) 64 64) := by
          rw [cell_of_row _ _ _ _ _ _ HR.out.blk]; rfl
        have hsz := HR.out.sz
        have sf : (wr.alloc (.map #[] 0)).frozen? ⟨w.heap.size + 1, t * 2, none⟩ = false := by
          obtain ⟨cs, hc, _⟩ := HR.out.row
          have hc' := ((below_lay wr (.map #[] 0)).block (w.heap.size + 1) (by omega)).trans hc
          simp [World.frozen?, hc']
        have s0 : ∃ v, (wr.alloc (.map #[] 0)).cell? ⟨w.heap.size + 1, t * 2, none⟩ = some v := by
          obtain ⟨cs, hc, _, h2⟩ := HR.out.row
          have hc' := ((below_lay wr (.map #[] 0)).block (w.heap.size + 1) (by omega)).trans hc
          have := (h2 t hlt).1
          exact ⟨cs[t * 2]'(by omega), by rw [cell_of_row _ _ _ _ _ _ hc']; exact Array.getElem?_eq_getElem _⟩
        obtain ⟨v0, s0⟩ := s0
        have HQ := keep (HR.out.next hlt)
        clear hsz hlt
        go_wp2
        go_roundw
        case rel => exact ⟨t + 1, by go_num, LT.out, HQ⟩
        case measure => (have := LT.out; simp [intOf]; omega)
      · have e64 : t = 64 := by omega
        subst e64
        have hlt' : ¬ (64 : Int) < (64 : Int) := by omega
        clear hlt
        go_wp2
        go_ret
        exact HR.out.done _ rfl
theorem New_any (w : World) (x : Int) : Calls Try.prog 9 #[.int .i64 x] w fun e w' => ∃ G, e = .returned (.pointer (some ⟨G.b, 0, none⟩)) ∧ JG w' G (newJ x) ∧ Below w.heap.size w w' ∧ (∀ i, G.O i → w.heap.size ≤ i) ∧ ∀ i, ¬ G.F i := by
  have key : ∀ N : Nat, newJ x = ⟨(N : Int), fun _ => 0, [], [], []⟩ → Calls Try.prog 9 #[.int .i64 x] w (NewP w N) → Calls Try.prog 9 #[.int .i64 x] w fun e w' => ∃ G, e = .returned (.pointer (some ⟨G.b, 0, none⟩)) ∧ JG w' G (newJ x) ∧ Below w.heap.size w w' ∧ (∀ i, G.O i → w.heap.size ≤ i) ∧ ∀ i, ¬ G.F i := fun N hN hc => by
    refine hc.mono ?_
    rintro e w' ⟨G, he, hn, hj, hb, ho, hf⟩
    refine ⟨G, he, ⟨by rw [hN]; exact hj, ⟨Wf.new x, Ne.new x, by rw [hN]; exact Nat.le_of_ble_eq_true rfl⟩, fun s hs => ?_⟩, hb, ho, hf⟩
    obtain ⟨a, z, _, _, ha, _⟩ := hs.ends
    have := hs.mem a ha
    rw [hN] at this
    cases this
  by_cases h : 1 ≤ x ∧ x ≤ 64
  · obtain ⟨N, rfl⟩ : ∃ N : Nat, x = N := ⟨x.toNat, by omega⟩
    exact key N (by unfold newJ; rw [if_pos h]) (New_in w N (by omega) (by omega))
  · exact key 64 (by unfold newJ; rw [if_neg h]; rfl) (New_out w x (by omega))
end Go.Proofs.Ythpcblbciidmeaa
