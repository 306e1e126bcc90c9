/- KBA of the stage: texts JX, JY, Pc4, Range, Pc5, joined. -/
import Derived.Test.YtnlkdlnmffibhaaGreatKAZ
import Derived.Test.YtnlkdlnmffibhaaGreatKAW
import Derived.RangeFuncNested
import Derived.RangeFuncBound
import Derived.RangeFuncCalls
import Derived.RangeFuncLeaves
import Derived.Shelf.RegionOpen
import Derived.OwnWalkIn
import Derived.TacticsInMore
import Derived.LoopNIn
import Derived.LoopIn
import Derived.RegionIn
set_option linter.unusedSimpArgs false
set_option linter.unusedVariables false
set_option maxRecDepth 8000
namespace Go.Proofs.YtnlkdlnmffibhaaGreat
section
open Go.RowKit Go.Maps
def NewP (w : World) (N : Nat) (e : Ending) (w' : World) : Prop := ∃ G, e = .returned (.pointer (some ⟨G.b, 0, none⟩)) ∧ G.n = N ∧ JA w' G ⟨(N : Int), fun _ => 0, [], [], []⟩ 0 ∧ Below w.heap.size w w' ∧ (∀ i, G.O i → w.heap.size ≤ i) ∧ ∀ i, ¬ G.F i
theorem stream_info : (Tryz.prog.info? 151).map (fun i => (i.zero, i.size, i.bytes)) = some (some (.agg #[.map none, .int .u16 0]), 2, 16) := by kernel_rfl
theorem made_at (n i : Nat) (hi : i < n) : (madeCells #[.map none, .int .u16 0] (n * 2))[i * 2]? = some (.map none) ∧ (madeCells #[.map none, .int .u16 0] (n * 2))[i * 2 + 1]? = some (.int .u16 0) := by
  constructor
  · rw [Array.getElem?_eq_some_iff]
    refine ⟨by rw [size_madeCells]; omega, ?_⟩
    simp [madeCells]
  · rw [Array.getElem?_eq_some_iff]
    refine ⟨by rw [size_madeCells]; omega, ?_⟩
    have : (i * 2 + 1) % 2 = 1 := by omega
    simp [madeCells, this]
theorem wpl_makeS (w : World) {ops : Array Oper} {rest : List Oper} {o : Oper} {a : Act} {Q : Exit → Act → World → Prop} (hg : Region.wanted o (yielded ops a.tmps) = true) (l c : Operand) (hop : o.op = Op.makeSlice 124 l c) (n : Nat) (hl : a.eval l = .int .i64 n) (hc : a.eval c = .int .i64 n) (hn : n ≤ 64)
    (h : wpList Tryz.prog ops Q rest (a.put o.dst (.slice (some ⟨w.heap.size, 0, none⟩) n n)) (w.alloc (.cells (madeCells #[.map none, .int .u16 0] (n * 2)) 151))) :
    wpList Tryz.prog ops Q (o :: rest) a w := by
  obtain ⟨i0, hi0, hz0, hz1, hz2⟩ := info_parts stream_info
  refine wpl_wanted hg fun K hK' => ?_
  have hr := run_make (P := Tryz.prog) w 124 151 i0 _ Tryz.underlying124 hi0 hz0 .i64 .i64 n n (by omega) (by omega) (by rw [hz2]; omega) (by omega)
  rw [hz1] at hr
  simp only [Int.toNat_natCast] at hr
  unfold Oper.wp
  simp [execOp, hop, hl, hc, hr, Result.andThen]
  exact hK' _ _ h
structure NR (w : World) (N t : Nat) (wr : World) : Prop where
  sz : wr.heap.size = w.heap.size + 3 + t
  be : Below w.heap.size w wr
  blk : wr.heap[w.heap.size + 2]? = some (.cells #[.map (some w.heap.size), .slice (some ⟨w.heap.size + 1, 0, none⟩) N N, .slice none 0 0, .int .i64 0] 126 (0, 0))
  mp : MapV wr 22 .u32 w.heap.size 0 fun _ => none
  row : ∃ cs, wr.heap[w.heap.size + 1]? = some (.cells cs 151 (0, 0)) ∧ (∀ i, i < t → cs[i * 2]? = some (.map (some (w.heap.size + 3 + i)))) ∧ ∀ i, i < N → i * 2 + 1 < cs.size ∧ cs[i * 2 + 1]? = some (.int .u16 0)
  ms : ∀ i, i < t → MapV wr 30 .u16 (w.heap.size + 3 + i) 0 fun _ => none
theorem NR.start (w : World) (N : Nat) : NR w N 0 (((w.alloc (.map #[] 0)).alloc (.cells (madeCells #[.map none, .int .u16 0] (N * 2)) 151)).alloc (.cells #[.map (some w.heap.size), .slice (some ⟨w.heap.size + 1, 0, none⟩) N N, .slice none 0 0, .int .i64 0] 126)) := by
  have b0 := below_lay w (.map #[] 0)
  have b1 := below_lay (w.alloc (.map #[] 0)) (.cells (madeCells #[.map none, .int .u16 0] (N * 2)) 151)
  have b2 := below_lay ((w.alloc (.map #[] 0)).alloc (.cells (madeCells #[.map none, .int .u16 0] (N * 2)) 151)) (.cells #[.map (some w.heap.size), .slice (some ⟨w.heap.size + 1, 0, none⟩) N N, .slice none 0 0, .int .i64 0] 126)
  have h1 := heap_alloc_new (w.alloc (.map #[] 0)) (.cells (madeCells #[.map none, .int .u16 0] (N * 2)) 151)
  have h2 := heap_alloc_new ((w.alloc (.map #[] 0)).alloc (.cells (madeCells #[.map none, .int .u16 0] (N * 2)) 151)) (.cells #[.map (some w.heap.size), .slice (some ⟨w.heap.size + 1, 0, none⟩) N N, .slice none 0 0, .int .i64 0] 126)
  have s1 : (w.alloc (.map #[] 0)).heap.size = w.heap.size + 1 := by simp
  have s2 : ((w.alloc (.map #[] 0)).alloc (.cells (madeCells #[.map none, .int .u16 0] (N * 2)) 151)).heap.size = w.heap.size + 2 := by simp
  rw [s1] at h1
  rw [s2] at h2
  refine ⟨by simp, up (up b0 b1) b2, h2, ?_, ⟨_, (b2.block _ (by omega)).trans h1, fun i hi => by omega, fun i hi => ⟨by rw [size_madeCells]; omega, (made_at N i hi).2⟩⟩, fun i hi => by omega⟩
  exact (MapV.made w _ _).same ((b2.block _ (by omega)).trans (b1.block _ (by omega)))
theorem NR.next {w wr : World} {N t : Nat} (h : NR w N t wr) (ht : t < N) : NR w N (t + 1) ((wr.alloc (.map #[] 0)).setCell ⟨w.heap.size + 1, t * 2, none⟩ (.map (some wr.heap.size))) := by
  have b0 := below_lay wr (.map #[] 0)
  have hsz := h.sz
  obtain ⟨cs, hc, h1, h2⟩ := h.row
  have hc' := (b0.block (w.heap.size + 1) (by omega)).trans hc
  have hs := heap_setCell_same (wr.alloc (.map #[] 0)) (w.heap.size + 1) (t * 2) _ _ (.map (some wr.heap.size)) hc'
  have ho : ∀ k, k ≠ w.heap.size + 1 → ((wr.alloc (.map #[] 0)).setCell ⟨w.heap.size + 1, t * 2, none⟩ (.map (some wr.heap.size))).heap[k]? = (wr.alloc (.map #[] 0)).heap[k]? := fun k hk => heap_setCell_other _ ⟨w.heap.size + 1, t * 2, none⟩ k _ hk
  refine ⟨by simp; omega, (up h.be b0).setCell (p := ⟨w.heap.size + 1, t * 2, none⟩) (Nat.le_succ _) _, ((ho _ (by omega)).trans (b0.block _ (by omega))).trans h.blk, h.mp.same ((ho _ (by omega)).trans (b0.block _ (by omega))), ⟨_, hs, fun i hi => ?_, fun i hi => ⟨by rw [Array.size_setIfInBounds]; exact (h2 i hi).1, ?_⟩⟩, fun i hi => ?_⟩
  · rw [Array.getElem?_setIfInBounds]
    have := (h2 t ht).1
    by_cases e : i = t
    · subst e
      rw [if_pos rfl, if_pos (by omega), hsz]
    · rw [if_neg (by omega)]
      exact h1 i (by omega)
  · rw [Array.getElem?_setIfInBounds, if_neg (by omega)]
    exact (h2 i hi).2
  · by_cases e : i = t
    · subst e
      have hm := MapV.made wr 30 .u16
      rw [hsz] at hm
      exact hm.same (ho _ (by omega))
    · exact (h.ms i (by omega)).same ((ho _ (by omega)).trans (b0.block _ (by omega)))
theorem NR.done {w wr : World} {N : Nat} (h : NR w N N wr) (e : Ending) (he : e = .returned (.pointer (some ⟨w.heap.size + 2, 0, none⟩))) : NewP w N e wr := by
  obtain ⟨cs, hc, h1, h2⟩ := h.row
  have hsz := h.sz
  have hO2 : w.heap.size ≤ w.heap.size + 2 ∧ w.heap.size + 2 < w.heap.size + 3 + N := by omega
  have hO1 : w.heap.size ≤ w.heap.size + 1 ∧ w.heap.size + 1 < w.heap.size + 3 + N := by omega
  have hO0 : w.heap.size ≤ w.heap.size ∧ w.heap.size < w.heap.size + 3 + N := by omega
  have hO3 : ∀ i, i < N → w.heap.size ≤ w.heap.size + 3 + i ∧ w.heap.size + 3 + i < w.heap.size + 3 + N := by omega
  refine ⟨⟨w.heap.size + 2, w.heap.size, w.heap.size + 1, N, .slice none 0 0, fun _ => none, fun _ => CX.zero, fun _ => 0, fun i => w.heap.size + 3 + i, fun _ _ => none, [], fun i => w.heap.size ≤ i ∧ i < w.heap.size + 3 + N, fun _ => False⟩, he, rfl, ⟨h.blk, hO2, rfl, ⟨h.mp, hO0, fun n p e => (by cases e), fun x hx => (by cases hx), fun n m p e => (by cases e)⟩, ⟨⟨cs, hc, fun i hi => ⟨h1 i hi, (h2 i hi).2⟩⟩, fun i hi => h.ms i hi, hO1, fun i hi => hO3 i hi, fun i i' hi hi' e => ?_, fun i hi k => rfl, fun i hi k x e => (by cases e)⟩, ⟨World.ownsRow_nil _ _ _ _, fun g e => (by cases e), rfl, fun x hx => (by cases hx)⟩, fun i hi e => ?_, fun i hi hc => hc, fun i hi => by have := hi.2; omega, fun i hi => hi.elim⟩, h.be, fun i hi => hi.1, fun i hi => hi⟩
  · have e : w.heap.size + 3 + i = w.heap.size + 3 + i' := e
    omega
  · have e : w.heap.size + 3 + i = w.heap.size := e
    omega
set_option maxRecDepth 1000000 in
set_option maxHeartbeats 4000000 in
theorem New_in (w : World) (N : Nat) (h1 : 1 ≤ N) (h2 : N ≤ 64) : Calls Tryz.prog 52 #[.int .i64 (N : Int)] w (NewP w N) := by
  have hN1 : ¬ (N : Int) < 1 := by omega
  have hmm := @run_makeMap Tryz.prog
  have hN2 : ¬ (64 : Int) < (N : Int) := by omega
  go_enter Tryz.func52, Tryz.ntmps52
  go_wp2_with (at_make; refine wpl_makeS _ rfl _ _ rfl N rfl rfl h2 ?_)
  have HN0 := keep (NR.start w N)
  generalize World.alloc (World.alloc (World.alloc _ _) _) _ = W0 at HN0 ⊢
  go_loopw [21] (fun iv wr => ∃ (t : Nat), iv = .int .i64 (t : Int) ∧ t ≤ N ∧ Hid (NR w N t wr)) (fun iv _ => N - (intOf iv).toNat)
  case atStart => exact ⟨0, rfl, Nat.zero_le _, HN0⟩
  case round =>
    obtain ⟨t, rfl, ht, HR⟩ := hrel
    by_cases hlt : t < N
    · have hlt' : (t : Int) < (N : Int) := by omega
      have hwt : IntKind.i64.wrap ((t : Int) + 1) = (t : Int) + 1 := wrap_small (by omega) (by omega)
      have LT := keep hlt
      have c1 : wr.cell? ⟨w.heap.size + 1 + 1, 1, none⟩ = some (.slice (some ⟨w.heap.size + 1, 0, none⟩) N N) := by
        rw [cell_of_row _ _ _ _ _ _ HR.out.blk]; rfl
      have hsz := HR.out.sz
      have sf : (wr.alloc (.map #[] 0)).frozen? ⟨w.heap.size + 1, t * 2, none⟩ = false := by
        obtain ⟨cs, hc, _⟩ := HR.out.row
        have hc' := ((below_lay wr (.map #[] 0)).block (w.heap.size + 1) (by omega)).trans hc
        simp [World.frozen?, hc']
      have s0 : ∃ v, (wr.alloc (.map #[] 0)).cell? ⟨w.heap.size + 1, t * 2, none⟩ = some v := by
        obtain ⟨cs, hc, _, h2⟩ := HR.out.row
        have hc' := ((below_lay wr (.map #[] 0)).block (w.heap.size + 1) (by omega)).trans hc
        have := (h2 t hlt).1
        exact ⟨cs[t * 2]'(by omega), by rw [cell_of_row _ _ _ _ _ _ hc']; exact Array.getElem?_eq_getElem _⟩
      obtain ⟨v0, s0⟩ := s0
      have HQ := keep (HR.out.next hlt)
      clear hsz hlt
      go_wp2
      go_roundw
      case rel => exact ⟨t + 1, by go_num, LT.out, HQ⟩
      case measure => (have := LT.out; simp [intOf]; omega)
    · obtain rfl : t = N := by omega
      have hlt' : ¬ (t : Int) < (t : Int) := by omega
      clear hlt
      go_wp2
      go_ret
      exact HR.out.done _ rfl
set_option maxRecDepth 1000000 in
set_option maxHeartbeats 4000000 in
theorem New_out (w : World) (x : Int) (h : x < 1 ∨ 64 < x) : Calls Tryz.prog 52 #[.int .i64 x] w (NewP w 64) := by
  have hmm := @run_makeMap Tryz.prog
  rcases h with h | h
  all_goals
    go_enter Tryz.func52, Tryz.ntmps52
    go_wp2_with (at_make; refine wpl_makeS _ rfl _ _ rfl 64 rfl rfl (by decide) ?_)
    have HN0 := keep (NR.start w 64)
    generalize World.alloc (World.alloc (World.alloc _ _) _) _ = W0 at HN0 ⊢
    go_loopw [21] (fun iv wr => ∃ (t : Nat), iv = .int .i64 (t : Int) ∧ t ≤ 64 ∧ Hid (NR w 64 t wr)) (fun iv _ => 64 - (intOf iv).toNat)
    case atStart => exact ⟨0, rfl, Nat.zero_le _, HN0⟩
    case round =>
      obtain ⟨t, rfl, ht, HR⟩ := hrel
      by_cases hlt : t < 64
      · have hlt' : (t : Int) < 64 := by omega
        have hwt : IntKind.i64.wrap ((t : Int) + 1) = (t : Int) + 1 := wrap_small (by omega) (by omega)
        have LT := keep hlt
        have c1 : wr.cell? ⟨w.heap.size + 1 + 1, 1, none⟩ = some (.slice (some ⟨w.heap.size + 1, 0, none⟩) 64 64) := by
          rw [cell_of_row _ _ _ _ _ _ HR.out.blk]; rfl
        have hsz := HR.out.sz
        have sf : (wr.alloc (.map #[] 0)).frozen? ⟨w.heap.size + 1, t * 2, none⟩ = false := by
          obtain ⟨cs, hc, _⟩ := HR.out.row
          have hc' := ((below_lay wr (.map #[] 0)).block (w.heap.size + 1) (by omega)).trans hc
          simp [World.frozen?, hc']
        have s0 : ∃ v, (wr.alloc (.map #[] 0)).cell? ⟨w.heap.size + 1, t * 2, none⟩ = some v := by
          obtain ⟨cs, hc, _, h2⟩ := HR.out.row
          have hc' := ((below_lay wr (.map #[] 0)).block (w.heap.size + 1) (by omega)).trans hc
          have := (h2 t hlt).1
          exact ⟨cs[t * 2]'(by omega), by rw [cell_of_row _ _ _ _ _ _ hc']; exact Array.getElem?_eq_getElem _⟩
        obtain ⟨v0, s0⟩ := s0
        have HQ := keep (HR.out.next hlt)
        clear hsz hlt
        go_wp2
        go_roundw
        case rel => exact ⟨t + 1, by go_num, LT.out, HQ⟩
        case measure => (have := LT.out; simp [intOf]; omega)
      · have e64 : t = 64 := by omega
        subst e64
        have hlt' : ¬ (64 : Int) < (64 : Int) := by omega
        clear hlt
        go_wp2
        go_ret
        exact HR.out.done _ rfl
theorem New_any_jo (w : World) (x : Int) : Calls Tryz.prog 52 #[.int .i64 x] w fun e w' => ∃ G, e = .returned (.pointer (some ⟨G.b, 0, none⟩)) ∧ JG w' G (newJ x) ∧ Below w.heap.size w w' ∧ (∀ i, G.O i → w.heap.size ≤ i) ∧ ∀ i, ¬ G.F i := by
  have key : ∀ N : Nat, newJ x = ⟨(N : Int), fun _ => 0, [], [], []⟩ → Calls Tryz.prog 52 #[.int .i64 x] w (NewP w N) → Calls Tryz.prog 52 #[.int .i64 x] w fun e w' => ∃ G, e = .returned (.pointer (some ⟨G.b, 0, none⟩)) ∧ JG w' G (newJ x) ∧ Below w.heap.size w w' ∧ (∀ i, G.O i → w.heap.size ≤ i) ∧ ∀ i, ¬ G.F i := fun N hN hc => by
    refine hc.mono ?_
    rintro e w' ⟨G, he, hn, hj, hb, ho, hf⟩
    refine ⟨G, he, ⟨by rw [hN]; exact hj, ⟨Wf.new x, Ne.new x, by rw [hN]; exact Nat.le_of_ble_eq_true rfl⟩, fun s hs => ?_⟩, hb, ho, hf⟩
    obtain ⟨a, z, _, _, ha, _⟩ := hs.ends
    have := hs.mem a ha
    rw [hN] at this
    cases this
  by_cases h : 1 ≤ x ∧ x ≤ 64
  · obtain ⟨N, rfl⟩ : ∃ N : Nat, x = N := ⟨x.toNat, by omega⟩
    exact key N (by unfold newJ; rw [if_pos h]) (New_in w N (by omega) (by omega))
  · exact key 64 (by unfold newJ; rw [if_neg h]; rfl) (New_out w x (by omega))
end
section
open Go.RowKit Go.Maps
structure JB (w0 w : World) (G : Gh) (j : Jn) : Prop where
  jg : JG w G j
  ow : ∀ i, G.O i → w0.heap.size ≤ i
  be : Below w0.heap.size w0 w
end
section
open Go.RowKit
end
section
open Go.RowKit
def RoundEnd {α : Type} (J : List α → World → Prop) (Jx : Code → List α → World → Prop) (Kp : World → World → Prop) (xs : List α) (W : World) (B : Nat) (W₂ : World) : Exit → Act → World → Prop
  | .normal, _, W' => KeepsFrom B W₂ W' ∧ Kp W W' ∧ J xs W'
  | .ret, _, W' => KeepsFrom B W₂ W' ∧ Jx .ret xs W'
  | .exit id, _, W' => KeepsFrom B W₂ W' ∧ Jx (.exit id) xs W'
  | .goto t, _, W' => KeepsFrom B W₂ W' ∧ Jx (.goto t) xs W'
  | .panic _, _, _ => False
  | .outgrown, _, _ => False
def Turns (B : Nat) (p : World → Prop) : Prop := ∀ (A : World) (l : Nat) (o o' : Obj), B ≤ l → A.heap[l]? = some o → o.isCells = false → p A → p (A.putObj l o')
variable {F : Fence} {n : Nat} {P : Program}
theorem rangeFunc_gen {α : Type} {g : Operand} {ps : Array Tmp} {assign body : Code} {Q : Exit → Act → World → Prop} {a : Act} {w : World}
    (hro : F.round = none) (h1 : 1 ≤ n) {gf : Nat} {lb : Array Value} (hg : a.eval g = .func (.func gf) #[] lb) (hFg : F.fn gf) (eg : ∀ args w, (callFunc gf args).run P w = .ok (.enter gf args) w)
    {encs : α → Array Value} (hps : ∀ x, (encs x).size = ps.size)
    (St Kp : World → World → Prop) (X : List α → α → World → Prop) (S Sp : List α → Prop) (J : List α → World → Prop) (Jx : Code → List α → World → Prop)
    (hJ : ∀ xs, Turns w.heap.size (J xs)) (hJx : ∀ c xs, Turns w.heap.size (Jx c xs))
    (hKpP : ∀ W, Turns w.heap.size (Kp W))
    (hSt : ∀ A B, St A B → ∀ (k : Nat) (o : Obj), w.heap.size ≤ k → A.heap[k]? = some o → o.isCells = false → B.heap[k]? = some o)
    (hJS : ∀ xs A B, J xs A → St A B → J xs B) (hJxS : ∀ c xs A B, Jx c xs A → St A B → Jx c xs B)
    (hit : ∀ (l : Nat) (K Kx : List α → World → Prop) (W : World), Below w.heap.size w W → (∀ xs W0, Kx xs W0 → ∃ c W1, Jx c xs W1) → (∀ xs A B, K xs A → St A B → K xs B) → (∀ xs A B, Kx xs A → St A B → Kx xs B) →
      (∀ xs x W1, K xs W1 → X xs x W1 → YieldAt F (n - 1 - 1) P l (encs x) W1 fun e W' => (e = .returned (.bool true) ∧ K (xs ++ [x]) W' ∧ Kp W1 W') ∨ (e = .returned (.bool false) ∧ Kx (xs ++ [x]) W')) → K [] W →
      CallsIn F (n - 1) P gf (#[.func (.yield l) #[] #[]] ++ lb) W fun e W' => (∃ v, e = .returned v) ∧ ((∃ xs, S xs ∧ K xs W') ∨ (∃ xs, Sp xs ∧ Kx xs W')))
    (h0 : ∀ o₁ o₂ : Obj, J [] ((w.alloc o₁).alloc o₂))
    (hround : ∀ (l : Nat) (xs : List α) (x : α) (W : World), w.heap.size < l → J xs W → X xs x W →
      assign.wpIn (F.inRound l) (n - 1 - 1) P (Exit.then (fun a₁ W₁ => KeepsFrom w.heap.size W W₁ ∧ ∀ o o', W₁.heap[l]? = some o → o.isCells = false →
          body.wpIn (F.inRound l) (n - 1 - 1) P (RoundEnd J Jx Kp (xs ++ [x]) W w.heap.size (W₁.putObj l o')) a₁ (W₁.putObj l o')) (fun _ _ _ => False))
        { tmps := (ps.zip (encs x)).foldl (fun t (p, v) => t.setIfInBounds p v) a.tmps, defers := [] } W)
    (hdone : ∀ (D : Nat) (xs : List α) (W : World), w.heap.size ≤ D → S xs → J xs W → W.heap[D]? = some (.deferred (some [])) → Q .normal { a with defers := { target := .collected D, args := #[] } :: a.defers } W)
    (hstop : ∀ (D : Nat) (c : Code) (xs : List α) (W : World), w.heap.size ≤ D → Sp xs → Jx c xs W → W.heap[D]? = some (.deferred (some [])) → c.wpIn F n P Q { a with defers := { target := .collected D, args := #[] } :: a.defers } W) :
    (Code.rangeFunc g ps assign body).wpIn F n P Q a w := by
  refine wpIn_rangeFunc fun fn hfn => ?_
  rw [hro]
  let D := w.heap.size
  let rec0 : LoopState → Option Code → Loop := fun st pe => { state := st, pending := pe, fn := fn, tmps := a.tmps, params := ps, assign := assign, body := body, defers := D }
  obtain ⟨rec, hrec⟩ : ∃ rec, rec = rec0 := ⟨_, rfl⟩
  -- the two blocks of the loop's own, in whatever world
  let Bk : Obj → World → Prop := fun o W => W.heap[D + 1]? = some o ∧ W.heap[D]? = some (.deferred (some []))
  have bkSt : ∀ o A B, o.isCells = false → Bk o A → St A B → Bk o B := fun o A B ho hb hs => ⟨hSt A B hs _ _ (Nat.le_succ _) hb.1 ho, hSt A B hs _ _ (Nat.le_refl _) hb.2 rfl⟩
  have bkPut : ∀ o o' A, Bk o A → Bk o' (A.putObj (D + 1) o') := fun o o' A hb => ⟨World.putObj_heap_same (Array.getElem?_eq_some_iff.1 hb.1).1, (World.putObj_heap_other (by omega)).trans hb.2⟩
  have bkFrom : ∀ o A B, o.isCells = false → Bk o A → KeepsFrom D A B → Bk o B := fun o A B ho hb hk => ⟨hk.same _ _ (Nat.le_succ _) hb.1 ho, hk.same _ _ (Nat.le_refl _) hb.2 rfl⟩
  obtain ⟨W1, hW1⟩ : ∃ W1, (w.alloc (.deferred (some []))).alloc (.loop (rec .ready none)) = W1 := ⟨_, rfl⟩
  have hB1 : Bk (.loop (rec .ready none)) W1 := by
    rw [← hW1]
    refine ⟨?_, (Below.heap_alloc _ _ _ (by simp [D])).trans (World.alloc_heap_new w _)⟩
    have := World.alloc_heap_new (w.alloc (.deferred (some []))) (.loop (rec .ready none))
    rwa [World.size_alloc] at this
  have hW : Below w.heap.size w W1 := by
    rw [← hW1]
    exact ((Below.refl _ w).alloc (Nat.le_refl _) _).alloc (by simp) _
  refine ⟨D + 1, [{ target := .collected D, args := #[] }], W1, { target := .fn (.func gf) lb, args := #[.func (.yield (D + 1)) #[] #[]] }, W1, gf, #[.func (.yield (D + 1)) #[] #[]] ++ lb, W1, ?_, ?_, ?_, ?_, fun _ => h1, ?_⟩
  · rw [← hW1, hrec]
    exact run_enterLoop_outer _ _ _ _ _
  · simp only [resolve, hg]
    simp [go_sem]
  · intro f' hf'
    simp [Target.leads] at hf'
    subst hf'
    exact hFg
  · simp [invoke, go_sem, eg]
  · refine (hit (D + 1) (fun xs W => J xs W ∧ Bk (.loop (rec .ready none)) W) (fun xs W => ∃ c, Jx c xs W ∧ Bk (.loop (rec .done (some c))) W) W1 hW (fun xs W0 ⟨c, hc, _⟩ => ⟨c, W0, hc⟩)
      (fun xs A B hs hst => ⟨hJS xs A B hs.1 hst, bkSt _ A B rfl hs.2 hst⟩) (fun xs A B hs hst => by
        obtain ⟨c, hc, hb⟩ := hs
        exact ⟨c, hJxS c xs A B hc hst, bkSt _ A B rfl hb hst⟩) ?_ ⟨by rw [← hW1]; exact h0 _ _, hB1⟩).mono ?_
    · rintro xs x W ⟨hj, hb⟩ hx
      have hy := run_yield (P := P) (args := encs x) hb.1 (by rw [hrec]; exact hps x)
      rw [hrec] at hy
      refine ⟨fn, _, assign, body, hy, roundIn_of_wpIn hfn (wpIn_mono (hround (D + 1) xs x W (Nat.lt_succ_self _) hj hx) ?_)⟩
      intro e a₁ W₁ he
      cases e with
      | normal =>
        obtain ⟨hk, hbody⟩ := he
        have hb' := bkFrom _ _ _ rfl hb hk
        refine ⟨_, run_beginRound hb'.1 (by rw [hrec]), ?_⟩
        refine wpIn_mono (hbody _ _ hb'.1 rfl) ?_
        have hb2 := bkPut _ (.loop { rec .ready none with state := .busy }) _ hb'
        have fin : ∀ (jump : Option Code) (W3 : World), KeepsFrom D (W₁.putObj (D + 1) (.loop { rec .ready none with state := .busy })) W3 →
            W3.heap[D + 1]? = some (.loop { rec .ready none with state := .busy }) ∧
            (Instr.endRound (D + 1) jump).run P W3 = .ok (.bool jump.isNone) (W3.putObj (D + 1) (.loop (rec (if jump.isNone then .ready else .done) jump))) ∧
            Bk (.loop (rec (if jump.isNone then .ready else .done) jump)) (W3.putObj (D + 1) (.loop (rec (if jump.isNone then .ready else .done) jump))) := fun jump W3 hk3 => by
          have hb3 := bkFrom _ _ _ rfl hb2 hk3
          have hrun := run_endRound (P := P) jump hb3.1
          rw [hrec] at hrun hb3 ⊢
          exact ⟨hb3.1, hrun, bkPut _ _ _ hb3⟩
        intro e a₂ W3 hp
        cases e with
        | normal =>
          obtain ⟨hl3, hrun, hb4⟩ := fin none W3 hp.1
          exact ⟨_, _, hrun, .inl ⟨rfl, ⟨hJ _ _ _ _ _ (Nat.le_succ _) hl3 rfl hp.2.2, hb4⟩, hKpP _ _ _ _ _ (Nat.le_succ _) hl3 rfl hp.2.1⟩⟩
        | ret =>
          obtain ⟨hl3, hrun, hb4⟩ := fin (some .ret) W3 hp.1
          exact ⟨_, _, hrun, .inr ⟨rfl, _, hJx _ _ _ _ _ _ (Nat.le_succ _) hl3 rfl hp.2, hb4⟩⟩
        | exit id =>
          obtain ⟨hl3, hrun, hb4⟩ := fin (some (.exit id)) W3 hp.1
          exact ⟨_, _, hrun, .inr ⟨rfl, _, hJx _ _ _ _ _ _ (Nat.le_succ _) hl3 rfl hp.2, hb4⟩⟩
        | goto t =>
          obtain ⟨hl3, hrun, hb4⟩ := fin (some (.goto t)) W3 hp.1
          exact ⟨_, _, hrun, .inr ⟨rfl, _, hJx _ _ _ _ _ _ (Nat.le_succ _) hl3 rfl hp.2, hb4⟩⟩
        | panic ch => exact hp.elim
        | outgrown => exact hp.elim
      | ret => exact he.elim
      | exit id => exact he.elim
      | goto t => exact he.elim
      | panic ch => exact he.elim
      | outgrown => exact he.elim
    · rintro e W2 ⟨⟨v, rfl⟩, (⟨xs, hS, hj, hb⟩ | ⟨xs, hSp, c, hj, hb⟩)⟩
      · have hrun := run_endLoop (P := P) hb.1 (by rw [hrec]; simp [rec0])
        have hb' := bkPut _ (.loop { rec .ready none with state := .exhausted }) _ hb
        rw [hrec] at hrun hb'
        exact ⟨none, _, hrun, hdone _ xs _ (Nat.le_refl _) hS (hJ _ _ _ _ _ (Nat.le_succ _) hb.1 rfl hj) hb'.2⟩
      · have hrun := run_endLoop (P := P) hb.1 (by rw [hrec]; simp [rec0])
        have hb' := bkPut _ (.loop { rec .done (some c) with state := .exhausted }) _ hb
        rw [hrec] at hrun hb'
        exact ⟨some c, _, hrun, hstop _ c xs _ (Nat.le_refl _) hSp (hJx _ _ _ _ _ _ (Nat.le_succ _) hb.1 rfl hj) hb'.2⟩
theorem rangeFunc_all {α : Type} {g : Operand} {ps : Array Tmp} {assign body : Code} {Q : Exit → Act → World → Prop} {a : Act} {w : World}
    (hro : F.round = none) (h1 : 1 ≤ n) {gf : Nat} {lb : Array Value} (hg : a.eval g = .func (.func gf) #[] lb) (hFg : F.fn gf) (eg : ∀ args w, (callFunc gf args).run P w = .ok (.enter gf args) w)
    {encs : α → Array Value} (hps : ∀ x, (encs x).size = ps.size)
    (St Kp : World → World → Prop) (X : List α → α → World → Prop) (S : List α → Prop) (J : List α → World → Prop)
    (hJ : ∀ xs, Turns w.heap.size (J xs)) (hKpP : ∀ W, Turns w.heap.size (Kp W))
    (hSt : ∀ A B, St A B → ∀ (k : Nat) (o : Obj), w.heap.size ≤ k → A.heap[k]? = some o → o.isCells = false → B.heap[k]? = some o)
    (hJS : ∀ xs A B, J xs A → St A B → J xs B)
    (hit : ∀ (l : Nat) (K : List α → World → Prop) (W : World), Below w.heap.size w W → (∀ xs A B, K xs A → St A B → K xs B) →
      (∀ xs x W1, K xs W1 → X xs x W1 → YieldAt F (n - 1 - 1) P l (encs x) W1 fun e W' => e = .returned (.bool true) ∧ K (xs ++ [x]) W' ∧ Kp W1 W') → K [] W →
      CallsIn F (n - 1) P gf (#[.func (.yield l) #[] #[]] ++ lb) W fun e W' => (∃ v, e = .returned v) ∧ ∃ xs, S xs ∧ K xs W')
    (h0 : ∀ o₁ o₂ : Obj, J [] ((w.alloc o₁).alloc o₂))
    (hround : ∀ (l : Nat) (xs : List α) (x : α) (W : World), w.heap.size < l → J xs W → X xs x W →
      assign.wpIn (F.inRound l) (n - 1 - 1) P (Exit.then (fun a₁ W₁ => KeepsFrom w.heap.size W W₁ ∧ ∀ o o', W₁.heap[l]? = some o → o.isCells = false →
          body.wpIn (F.inRound l) (n - 1 - 1) P (RoundEnd J (fun _ _ _ => False) Kp (xs ++ [x]) W w.heap.size (W₁.putObj l o')) a₁ (W₁.putObj l o')) (fun _ _ _ => False))
        { tmps := (ps.zip (encs x)).foldl (fun t (p, v) => t.setIfInBounds p v) a.tmps, defers := [] } W)
    (hdone : ∀ (D : Nat) (xs : List α) (W : World), w.heap.size ≤ D → S xs → J xs W → W.heap[D]? = some (.deferred (some [])) → Q .normal { a with defers := { target := .collected D, args := #[] } :: a.defers } W) :
    (Code.rangeFunc g ps assign body).wpIn F n P Q a w :=
  rangeFunc_gen hro h1 hg hFg eg hps St Kp X S (fun _ => True) J (fun _ _ _ => False) hJ (fun _ _ _ _ _ _ _ _ _ h => h) hKpP hSt hJS (fun _ _ _ _ h _ => h)
    (fun l K Kx W hW hx hK _ hY h0 => (hit l K W hW hK (fun xs x W1 hk hX => (hY xs x W1 hk hX).mono fun e W' h => h.resolve_right fun hh => by
      obtain ⟨_, _, h3⟩ := hx _ _ hh.2
      exact h3) h0).mono fun e W' ⟨hv, xs, hS, hk⟩ => ⟨hv, .inl ⟨xs, hS, hk⟩⟩)
    h0 hround hdone (fun _ _ _ _ _ _ h _ => h.elim)
end
section
open Go.RowKit
attribute [local go_sem] Oper.semAt_some
def plc (N i : Nat) : Int := (if i = 0 then 2 else 0) + (if i + 1 = N then 1 else 0)
abbrev Item := Int × Option Addr × Nat × Nat × List UInt8
abbrev encI (y : Item) : Array Value := #[.int .u8 y.1, .slice y.2.1 y.2.2.1 y.2.2.2.1]
structure AtHand (w : World) (k : Nat) (bs : List UInt8) (xs : List Item) (y : Item) : Prop where
  lt : xs.length < cnt k bs.length
  pl : y.1 = plc (cnt k bs.length) xs.length
  da : y.2.2.2.2 = piece k bs xs.length
  bs : BS w y.2.1 y.2.2.1 y.2.2.2.1 y.2.2.2.2
def Kp (w : World) (Bm : Nat) (k : Nat) (A B : World) : Prop :=
  (Below w.heap.size w A → Below w.heap.size w B) ∧ (A.cell? ⟨Bm, 0, none⟩ = some (.int .i64 (k : Int)) → B.cell? ⟨Bm, 0, none⟩ = some (.int .i64 (k : Int)))
def lenV (v : Value) : Nat := match v with | .slice _ m _ => m | _ => 0
theorem or_place : bits .or .u8 2 1 = 3 ∧ bits .or .u8 0 1 = 1 := by decide +kernel
theorem pieces_any (A : Option Addr) (n c k : Nat) (w : World) :
    Calls Tryz.prog 64 #[.slice A n c, .int .i64 (k : Int)] w fun e w' => e = .returned (.func (.func 101) #[] #[.pointer (some ⟨w.heap.size, 0, none⟩), .pointer (some ⟨w.heap.size + 1, 0, none⟩)]) ∧ w' = (w.alloc (.cells #[.slice A n c] 31)).alloc (.cells #[.int .i64 (k : Int)] 3) := by
  go_enter Tryz.func64, Tryz.ntmps64
  go_wp2
  go_ret
  exact ⟨rfl, rfl⟩
set_option maxRecDepth 100000 in
set_option maxHeartbeats 1000000 in
theorem pieces1_in (l Bd Bm : Nat) (A : Option Addr) (n c k : Nat) (bs : List UInt8) (w : World) (hbs : BS w A n c bs) (hn : n ≤ 100000) (h0n : 0 < n) (hk : 0 < k) (hk2 : k ≤ 1172) (K : List Item → World → Prop) (W : World) (hW : Below w.heap.size w W)
    (hBd : W.cell? ⟨Bd, 0, none⟩ = some (.slice A n c)) (hBm : W.cell? ⟨Bm, 0, none⟩ = some (.int .i64 (k : Int)))
    (hK : ∀ xs A B, K xs A → Below A.heap.size A B → K xs B)
    (hY : ∀ xs x W1, K xs W1 → AtHand w k bs xs x → YieldAt Fence.wide (2 - 1) Tryz.prog l (encI x) W1 fun e W' => e = .returned (.bool true) ∧ K (xs ++ [x]) W' ∧ Kp w Bm k W1 W')
    (h0 : K [] W) :
    CallsIn Fence.wide 2 Tryz.prog 101 #[.func (.yield l) #[] #[], .pointer (some ⟨Bd, 0, none⟩), .pointer (some ⟨Bm, 0, none⟩)] W fun e W' => (∃ v, e = .returned v) ∧ ∃ xs, xs.length = cnt k bs.length ∧ K xs W' := by
  have HLB := keep hbs.len
  have HBS := keep hbs
  have HK := keep hK
  have H0 := keep h0
  have HW := keep hW
  have HY := keep hY
  clear hbs hK h0 hW hY
  refine callsIn_of_wp Tryz.func101 rfl trivial ?_ rfl
  simp only [Tryz.ntmps101, List.size_toArray, List.length_cons, List.length_nil, Nat.reduceAdd, Nat.reduceSub, Array.replicate_succ, Array.replicate_zero, List.push_toArray, List.append_toArray, List.nil_append, List.cons_append]
  gi_wp2
  gi_region
  gi_wp2
  gi_loopw [4, 5] (fun pl lf wr => ∃ (i m c' : Nat) (A' : Option Addr) (p : Int) (xs : List Item), pl = .int .u8 p ∧ lf = .slice A' m c' ∧ Hid (p = (if i = 0 then 2 else 0) ∧ i * k < n ∧ m = n - i * k) ∧ Hid (xs.length = i ∧ K xs wr) ∧ Hid (BS w A' m c' (bs.drop (i * k))) ∧ Hid (Below w.heap.size w wr) ∧ wr.cell? ⟨Bm, 0, none⟩ = some (.int .i64 (k : Int)))
    (fun _ lf _ => lenV lf)
  case atStart =>
    exact ⟨0, n, c, A, 2, [], rfl, rfl, keep ⟨rfl, by omega, by omega⟩, keep ⟨rfl, HK.out _ _ _ H0.out (Below.refl _ _).drew⟩, keep (by simpa using HBS.out), keep HW.out.drew, hBm⟩
  case round =>
    obtain ⟨i, m, c', A', p, xs, rfl, rfl, HI, HX, HL, HB, hcm⟩ := hrel
    have hmc := HL.out.cap
    obtain ⟨p1, hor, hp1⟩ : ∃ p1, bits BinOp.or IntKind.u8 p 1 = p1 ∧ p1 = p + 1 := by
      obtain ⟨o1, o2⟩ := or_place
      have := HI.out.1
      by_cases h : i = 0
      · rw [if_pos h] at this; subst this; exact ⟨3, o1, rfl⟩
      · rw [if_neg h] at this; subst this; exact ⟨1, o2, rfl⟩
    by_cases hlt : k < m
    · have hlt' : (k : Int) < (m : Int) := by omega
      have hkc : (k : Int) ≤ (c' : Int) := by omega
      have hk0 : (0 : Int) ≤ (k : Int) := by omega
      have hN : i + 1 < cnt k bs.length := by
        rw [cnt_le hk, Nat.add_mul, Nat.one_mul, ← HLB.out]
        have := HI.out.2.2
        omega
      have hp : p = plc (cnt k bs.length) i := by
        have := HI.out.1
        unfold plc
        rw [if_neg (show ¬ i + 1 = cnt k bs.length by omega), Int.add_zero]
        exact this
      have hT : BS w A' k c' (piece k bs i) := by
        have h1 := HL.out.br.take k
        refine ⟨?_, by omega, h1⟩
        have := piece_len (k := k) (bs := bs) (i := i) (by rw [Nat.add_mul, Nat.one_mul, ← HLB.out]; have := HI.out.2.2; omega)
        exact this.symm
      obtain ⟨fn, tmps, assign, body, hy, hR⟩ := HY.out xs (p, A', k, c', piece k bs i) wr HX.out.2 ⟨by rw [HX.out.1]; omega, by rw [HX.out.1]; exact hp, by rw [HX.out.1], hT⟩
      replace hy : (Instr.yield l #[.int .u8 p, .slice A' k c']).run Tryz.prog wr = .ok (.round l fn tmps assign body) wr := hy
      have HR := keep hR
      have HN := keep hN
      have HLT := keep hlt
      have HMC := keep hmc
      clear hR hT hp hN hor hp1 hlt hmc
      gi_wp2
      refine HR.out.mono ?_
      rintro e W3 ⟨rfl, hK3, hkp⟩
      have HK3 := keep hK3
      have HB3 := keep (hkp.1 HB.out)
      have hcm3 := hkp.2 hcm
      clear hK3 hkp
      gi_wp2
      gi_region
      gi_wp2
      have HD : BS w (if c' = k then A' else A'.map (·.add k)) (m - k) (c' - k) (bs.drop ((i + 1) * k)) := by
        have h1 := HL.out.br.drop (k := k) (cap := c') (by have := HL.out.len; have := HMC.out; omega)
        rw [List.drop_drop, show i * k + k = (i + 1) * k by rw [Nat.add_mul, Nat.one_mul]] at h1
        refine ⟨?_, by have := HMC.out; omega, h1⟩
        have := HL.out.len
        rw [List.length_drop] at this ⊢
        rw [Nat.add_mul, Nat.one_mul]
        omega
      have HI2 : (0 : Int) = (if i + 1 = 0 then 2 else 0) ∧ (i + 1) * k < n ∧ m - k = n - (i + 1) * k := by
        refine ⟨by rw [if_neg (Nat.succ_ne_zero i)], ?_, ?_⟩
        · have := HI.out.2.2
          have := HLT.out
          rw [Nat.add_mul, Nat.one_mul]
          omega
        · have := HI.out.2.2
          rw [Nat.add_mul, Nat.one_mul]
          omega
      go_roundw
      case rel =>
        exact ⟨i + 1, m - k, c' - k, _, 0, _, rfl, rfl, keep HI2, keep ⟨by rw [List.length_append, HX.out.1]; rfl, HK.out _ _ _ HK3.out (Below.refl _ _).drew⟩, keep HD, keep HB3.out.drew, hcm3⟩
      case measure =>
        have := HLT.out
        show m - k < m
        omega
    · have hlt' : ¬ (k : Int) < (m : Int) := by omega
      have hN : i + 1 = cnt k bs.length := by
        have h1 : i < cnt k bs.length := by rw [cnt_le hk, ← HLB.out]; exact HI.out.2.1
        have h2 : ¬ i + 1 < cnt k bs.length := by
          rw [cnt_le hk, Nat.add_mul, Nat.one_mul, ← HLB.out]
          have := HI.out.2.2
          omega
        omega
      have hp : p1 = plc (cnt k bs.length) i := by
        have := HI.out.1
        unfold plc
        rw [if_pos hN, hp1, this]
      have hT : bs.drop (i * k) = piece k bs i := by
        unfold piece
        rw [List.take_of_length_le]
        have := HL.out.len
        omega
      obtain ⟨fn, tmps, assign, body, hy, hR⟩ := HY.out xs (p1, A', m, c', piece k bs i) wr HX.out.2 ⟨by rw [HX.out.1]; omega, by rw [HX.out.1]; exact hp, by rw [HX.out.1], by rw [← hT]; exact HL.out⟩
      replace hy : (Instr.yield l #[.int .u8 p1, .slice A' m c']).run Tryz.prog wr = .ok (.round l fn tmps assign body) wr := hy
      have HR := keep hR
      have HN := keep hN
      clear hR hT hp hN hp1 hlt hmc
      gi_wp2
      refine HR.out.mono ?_
      rintro e W3 ⟨rfl, hK3, hkp⟩
      have HK3 := keep hK3
      clear hK3 hkp
      gi_wp2
      go_end0
      exact ⟨⟨_, rfl⟩, _, by rw [List.length_append, HX.out.1]; exact HN.out, HK3.out⟩
end
end Go.Proofs.YtnlkdlnmffibhaaGreat
