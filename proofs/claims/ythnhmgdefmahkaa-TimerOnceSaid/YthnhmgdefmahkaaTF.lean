/- What is due, in order; it is there no more. -/
import Derived.Laws.IdiomRangeMap
import Derived.Test.YthnhmgdefmahkaaTE
import Derived.Test.YthnhmgdefmahkaaTD
import Derived.Test.YthnhmgdefmahkaaTS
namespace Go.Proofs.Ythnhmgdefmahkaa
open Go.RowKit Go.Maps
set_option linter.unusedVariables false

theorem entry_info : (Try.prog.info? 56).map (fun i => (i.zero, i.size, i.bytes)) = some (some (.agg #[.int .i64 0, .int .i64 0]), 2, 16) := by kernel_rfl

theorem Sort_own (base : Nat) (A : Option Addr) (c : Nat) (d : List (Int × Int)) (w : World) (ho : w.ownsRow base 56 2 (.slice A d.length c) d.length (flat d)) (hsz : d.length ≤ 1000000) (hb : base ≤ w.heap.size) :
    Calls Try.prog 21 #[.slice A d.length c, .func (.func 22) #[] #[]] w fun e w' =>
      e = .returned (.tuple #[]) ∧ ∃ d', d'.Perm d ∧ d'.Pairwise (fun p q => bef q p = false) ∧ SR w' A (flat d') ∧ Below base w w' := by
  by_cases h0 : d.length = 0
  · have hd : d = [] := List.eq_nil_of_length_eq_zero h0
    have hcon := AnyF.slices_SortFunc_none { sortE with } A c (.func (.func 22) #[] #[]) w
    change Calls Try.prog 21 _ _ _ at hcon
    rw [h0]
    refine hcon.mono ?_
    rintro e w' ⟨rfl, rfl⟩
    exact ⟨rfl, [], by rw [hd], List.Pairwise.nil, SR.nil _ _, Below.refl _ _⟩
  · rcases ho.2 with ⟨_, h1⟩ | ⟨g, cap, cur, hv, hg, hgg, hnc, _, hs, ht⟩
    · exact absurd h1 h0
    · injection hv with hA _ hc
      subst hA hc
      refine (Sort_row g c _ cur d w hgg ht hsz).mono ?_
      rintro e w' ⟨rfl, d', h1, h2, h3, h4⟩
      exact ⟨rfl, d', h1, h2, h3, h4.below hb fun k hk => by rw [hk]; exact hg⟩

/-- What is due is returned as ids, in new memory; the set holds the rest. -/
def RetDue (w : World) (b : Nat) (m : Option Nat) (l : List (Int × Int)) (now : Int) (e : Ending) (w' : World) : Prop :=
  ∃ A c, e = .returned (.slice A (dueL l now).length c) ∧ Hid (w'.ownsRow w.heap.size 3 1 (.slice A (dueL l now).length c) (dueL l now).length (ints (dueL l now))) ∧ SetAt w' b m (restL l now) ∧ Part (Ow b m) w w'

set_option maxHeartbeats 2000000 in
theorem Due_bare {p : Option Addr} {w : World} (h : Bare w p) (now : Int) :
    Calls Try.prog 13 #[.pointer p, .int .i64 now] w fun e w' => ∃ A c, e = .returned (.slice A 0 c) ∧ Hid (w'.ownsRow w.heap.size 3 1 (.slice A 0 c) 0 []) ∧ Below w.heap.size w w' := by
  obtain ⟨i0, hi0, hz0, hz1, hz2⟩ := info_parts int_info
  have hrg := fun (w : World) => run_range_nilMap (P := Try.prog) w 25 3 3 Try.underlying25
  have hnx : ∀ ty, (Instr.next (.pointer (some ⟨w.heap.size, 0, none⟩)) false ty).run Try.prog (w.alloc (.mapIter none 0 #[] 0)) = .ok (.tuple #[.bool false]) (w.alloc (.mapIter none 0 #[] 0)) := fun ty => run_next_nilMap (P := Try.prog) w ty 0 0 #[]
  have HA := keep (all_bare h)
  have hcon := fun (w : World) => AnyF.slices_SortFunc_none { sortE with } none 0 (.func (.func 22) #[] #[]) w
  change ∀ (w : World), Calls Try.prog 21 _ _ _ at hcon
  have HC := keep hcon
  clear h hcon
  go_enter Try.func13, Try.ntmps13
  go_wp2_with (go_at_call 20; refine HA.out.mono ?_; rintro e w' ⟨rfl, rfl⟩)
  refine wp_loop_rounds 1 ?_
  rw [rounds_succ]
  go_wp2_with (first
    | (go_at_call 21; refine (HC.out _).mono ?_; rintro e w' ⟨rfl, rfl⟩)
    | (at_make; refine wpl_make rfl (.tmp 31) (.tmp 31) 35 rfl 3 i0 (.int .i64 0) Try.underlying35 hi0 hz0 hz1 rfl 0 _ rfl rfl rfl (by rw [hz2]; omega) (by unfold maxLen; omega) ?_; intro w1 hg1 hb1 hs1))
  refine wp_loop_rounds 1 ?_
  rw [rounds_succ]
  go_wp2
  go_ret
  refine ⟨_, 0, rfl, ?_, (below_lay w _).trans (hb1.mono (by simp))⟩
  have hown := own_row (xs := []) hg1.out 0 rfl (by unfold maxLen; omega)
  have e0 : (w.alloc (.mapIter none 0 #[] 0)).heap.size = w.heap.size + 1 := by simp
  rw [e0] at hown
  exact own_mono hown (Nat.le_succ _)

/-- Of the timers that have come, those that are due have been gathered. -/
structure Gath (l : List (Int × Int)) (left : Lit → Bool) (now : Int) (d : List (Int × Int)) : Prop where
  apart : d.Pairwise (fun p q => p.1 ≠ q.1)
  mem : ∀ p, p ∈ d ↔ p ∈ l ∧ p.2 ≤ now ∧ left (K p.1) = false
theorem Gath.start {l : List (Int × Int)} {D : Dat} (hS : Shows D l) (now : Int) : Gath l (has D) now [] :=
  ⟨List.Pairwise.nil, fun p => ⟨fun h => (List.not_mem_nil h).elim, fun ⟨h1, _, h3⟩ => by
    rw [hS.has_of (id := p.1) (t := p.2) h1] at h3
    cases h3⟩⟩
theorem left_struck {left : Lit → Bool} {x y : Int} : (left (K y) && !(K y).sameKey (K x)) = false ↔ left (K y) = false ∨ y = x := by
  refine ⟨left_strike, ?_⟩
  rintro (h | h)
  · rw [h]
    rfl
  · rw [h, WideAt.sameKey_self (K_lit x)]
    simp
theorem Gath.more {l : List (Int × Int)} {left : Lit → Bool} {now : Int} {d : List (Int × Int)} (ho : Ord l) (h : Gath l left now d) {q : Int × Int} (hq : q ∈ l) (hl : left (K q.1) = true) (hn : q.2 ≤ now) : Gath l (fun z => left z && !z.sameKey (K q.1)) now (d ++ [q]) := by
  refine ⟨List.pairwise_append.2 ⟨h.apart, List.pairwise_singleton _ _, fun a ha b hb e => ?_⟩, fun p => ?_⟩
  · rw [List.mem_singleton.1 hb] at e
    have := ((h.mem a).1 ha).2.2
    rw [e, hl] at this
    cases this
  · show p ∈ d ++ [q] ↔ p ∈ l ∧ p.2 ≤ now ∧ (left (K p.1) && !(K p.1).sameKey (K q.1)) = false
    rw [left_struck, List.mem_append, List.mem_singleton, h.mem]
    constructor
    · rintro (⟨h1, h2, h3⟩ | rfl)
      · exact ⟨h1, h2, .inl h3⟩
      · exact ⟨hq, hn, .inr rfl⟩
    · rintro ⟨h1, h2, h3 | h3⟩
      · exact .inl ⟨h1, h2, h3⟩
      · exact .inr (ho.one h1 hq h3)
theorem Gath.less {l : List (Int × Int)} {left : Lit → Bool} {now : Int} {d : List (Int × Int)} (ho : Ord l) (h : Gath l left now d) {q : Int × Int} (hq : q ∈ l) (hn : ¬ q.2 ≤ now) : Gath l (fun z => left z && !z.sameKey (K q.1)) now d := by
  refine ⟨h.apart, fun p => ?_⟩
  show p ∈ d ↔ p ∈ l ∧ p.2 ≤ now ∧ (left (K p.1) && !(K p.1).sameKey (K q.1)) = false
  rw [left_struck, h.mem]
  constructor
  · rintro ⟨h1, h2, h3⟩
    exact ⟨h1, h2, .inl h3⟩
  · rintro ⟨h1, h2, h3 | h3⟩
    · exact ⟨h1, h2, h3⟩
    · rw [ho.one h1 hq h3] at h2
      exact absurd h2 hn
theorem Gath.done {l : List (Int × Int)} {left : Lit → Bool} {now : Int} {d d' : List (Int × Int)} (ho : Ord l) (h : Gath l left now d) (hl : ∀ z, left z = false) (hp : d'.Perm d) (hs : d'.Pairwise (fun p q => bef q p = false)) : d' = dueL l now :=
  sorted_due ho h.apart (fun p => by rw [h.mem]; exact ⟨fun h => ⟨h.1, h.2.1⟩, fun h => ⟨h.1, h.2, hl _⟩⟩) hp hs

/-- The block g holds the first j ids, then noughts. -/
def RowAt (w : World) (g : Nat) (dd : List (Int × Int)) (n j : Nat) : Prop := w.heap[g]? = some (.cells (ints (dd.take j) ++ List.replicate (n - j) (Value.int .i64 0)).toArray 3 (0, 0))
theorem RowAt.kept {S : Nat → Prop} {w w' : World} {g n j : Nat} {dd : List (Int × Int)} (h : RowAt w g dd n j) (hp : Part S w w') (hg : ¬ S g) : RowAt w' g dd n j :=
  (hp.block g (Array.getElem?_eq_some_iff.1 h).1 hg).trans h
theorem RowAt.step {w w' : World} {g n j : Nat} {dd : List (Int × Int)} (h : RowAt w g dd n j) (hp : Below w.heap.size w w') : RowAt w' g dd n j :=
  (hp.block g (Array.getElem?_eq_some_iff.1 h).1).trans h
theorem RowAt.frozen {w : World} {g n j : Nat} {dd : List (Int × Int)} (h : RowAt w g dd n j) (i : Nat) : w.frozen? ⟨g, i, none⟩ = false := by simp [World.frozen?, show w.heap[g]? = _ from h]
theorem take_ints (dd : List (Int × Int)) (j : Nat) (hj : j ≤ dd.length) : (ints (dd.take j)).length = j := by rw [ints_len, List.length_take]; omega
theorem RowAt.cell {w : World} {g n j : Nat} {dd : List (Int × Int)} (h : RowAt w g dd n j) (hn : n = dd.length) (hj : j < n) : w.cell? ⟨g, j, none⟩ = some (.int .i64 0) := by
  rw [cell_of_row w g j _ _ _ h]
  have hl := take_ints dd j (by omega)
  rw [List.getElem?_toArray, List.getElem?_append_right (by omega), hl, Nat.sub_self, List.getElem?_replicate, if_pos (by omega)]
theorem RowAt.set {w : World} {g n j : Nat} {dd : List (Int × Int)} (h : RowAt w g dd n j) (hn : n = dd.length) (hj : j < n) {x y : Int} (hd : dd[j]? = some (x, y)) : RowAt (w.setCell ⟨g, j, none⟩ (.int .i64 x)) g dd n (j + 1) := by
  have hl := take_ints dd j (by omega)
  have h' : w.heap[g]? = _ := h
  have ht : ints (dd.take (j + 1)) = ints (dd.take j) ++ [.int .i64 x] := by
    rw [List.take_add_one, hd]
    unfold ints
    rw [List.map_append]
    rfl
  have hs : (ints (dd.take j) ++ List.replicate (n - j) (Value.int .i64 0)).set j (.int .i64 x) = ints (dd.take (j + 1)) ++ List.replicate (n - (j + 1)) (Value.int .i64 0) := by
    rw [ht, List.set_append_right _ _ (by omega), hl, Nat.sub_self, show n - j = (n - (j + 1)) + 1 by omega, List.replicate_succ, List.set_cons_zero, List.append_assoc]
    rfl
  unfold RowAt
  rw [← hs]
  unfold World.setCell
  simp [Array.getElem?_modify, h']

theorem due_nth (l : List (Int × Int)) (now : Int) (j : Nat) (hj : j < (dueL l now).length) : l[j]? = (dueL l now)[j]? := by
  conv => lhs; rw [← due_rest l now]
  rw [List.getElem?_append_left hj]
theorem rest_drop (l : List (Int × Int)) (now : Int) : l.drop (dueL l now).length = restL l now := by
  have h := due_rest l now
  have e : l.drop (dueL l now).length = (dueL l now ++ restL l now).drop (dueL l now).length := by rw [h]
  rw [e, List.drop_left]

set_option maxHeartbeats 4000000 in
set_option maxRecDepth 100000 in
theorem Due_set (b : Nat) (m : Option Nat) (l : List (Int × Int)) (now : Int) (w : World) (h : SetAt w b m l) (hl : l.length ≤ 1000000) :
    Calls Try.prog 13 #[.pointer (some ⟨b, 0, none⟩), .int .i64 now] w fun e w' => RetDue w b m l now e w' := by
  rcases m with _ | k
  · obtain rfl : l = [] := h.2
    refine (Due_bare (.inr ⟨b, rfl, h⟩) now).mono ?_
    rintro e w' ⟨A, c, rfl, ho, hb⟩
    exact ⟨A, c, rfl, ho, h.step hb, Part.of_below _ hb⟩
  · obtain ⟨ho, hfit, D, hD, hS⟩ := h.2
    obtain ⟨i0, hi0, hz0, hz1, hz2⟩ := info_parts entry_info
    obtain ⟨j0, gi0, gz0, gz1, gz2⟩ := info_parts int_info
    have HA := keep (all_set h)
    have HO := keep ho
    have HS := keep hS
    have HF := keep hfit
    have HH := keep h
    have HK := keep hD.lt
    clear h ho hfit hS
    go_enter Try.func13, Try.ntmps13
    go_wp2_with (first
      | (go_at_call 20; refine HA.out.mono ?_; rintro e w' ⟨rfl, rfl⟩)
      | (at_range; refine wpList_range_own _ rfl _ 25 rfl 3 3 keyed Try.underlying25 _ k l.length D rfl hD ?_; intro w0 hrg0 hg0 hs0))
    go_frame
    have hb0 : Below w.heap.size w w0 := (Part.of_grown (S := fun _ => False) hg0 fun i hi => by cases hi).below (Nat.le_refl _) fun _ hi => hi.elim
    clear hD hg0 HA
    go_loopw [5] (fun out wr => ∃ (left : Lit → Bool) (cnt : Nat) (d : List (Int × Int)) (A' : Option Addr) (c' : Nat), out = .slice A' d.length c' ∧ wr.ranges Try.prog 3 (plainElem Try.prog 3) k w.heap.size l.length D left cnt ∧
        Hid (wr.ownsRow (w.heap.size + 1) 56 2 (.slice A' d.length c') d.length (flat d)) ∧ Below w.heap.size w wr ∧ w.heap.size < wr.heap.size ∧ d.length + cnt ≤ l.length ∧ Gath l left now d)
      (fun _ wr => wr.rangeLeft k w.heap.size)
    case atStart => exact ⟨_, _, [], none, 0, rfl, hrg0, World.ownsRow_nil _ _ _ _, hb0, by omega, by rw [HS.out.size]; simp, Gath.start HS.out now⟩
    case round =>
      clear hrg0 hb0 hs0
      obtain ⟨left, cnt, d, A', c', rfl, hrg, hown, hb, hsz, hcnt, hf⟩ := hrel
      have HG := keep hf
      have HB := keep hb
      clear hf hb
      go_wp2_with (at_next; refine wpList_next_ranges_ii _ rfl _ rfl 3 3 .i64 .i64 keyed Try.underlying3 Try.underlying3 k w.heap.size l.length D left cnt rfl hrg ?_ ?_)
      · intro hc0 hl0
        have hdl : d.length ≤ 1000000 := by omega
        have HC := keep (Sort_own (w.heap.size + 1) A' c' d wr hown.out hdl hsz)
        have HD := keep fun d' => HG.out.done (d' := d') HO.out hl0
        have HAb := keep fun g (hg : (Value.slice A' d.length c').ownBlock = some g) => (hown.out.lt g hg).1
        have HM := keep (MapAt.kept HH.out.2 (Part.of_below (fun _ => False) HB.out) fun hc => hc)
        clear hrg hown hl0 hc0 hcnt HG
        go_wp2_with (first
          | (go_at_call 21; refine HC.out.mono ?_; rintro e w1 ⟨rfl, d', hperm, hsort, hsr, hb1⟩
             have hdd := HD.out d' hperm hsort
             have hdn : d.length = (dueL l now).length := by rw [← hdd]; exact hperm.length_eq.symm
             rw [hdd] at hsr
             have hs1 : w.heap.size < w1.heap.size := by have := hb1.size; omega
             have HR := keep hsr
             have HB1 := keep hb1
             have HN := keep hdn
             clear HC HD hperm hsort hdd hsr hb1 hdn)
          | (at_make; refine wpl_make rfl (.tmp 31) (.tmp 31) 35 rfl 3 j0 (.int .i64 0) Try.underlying35 gi0 gz0 gz1 rfl d.length _ rfl rfl rfl (by rw [gz2]; omega) (by unfold maxLen; omega) ?_; intro w2 hg2 hb2 hs2))
        have hn : d.length = (dueL l now).length := HN.out
        have hbw1 : Below w.heap.size w w1 := HB.out.trans (HB1.out.mono (Nat.le_succ _))
        have hbw2 : Below w.heap.size w w2 := hbw1.trans (hb2.mono hbw1.size)
        have hset2 := HH.out.step hbw2
        have hes : ES w1 A' d.length d.length (dueL l now) := ⟨hn, Nat.le_refl _, HR.out⟩
        have HE := keep hes
        have HW1 := keep hbw1
        have HP := keep (Part.of_below (Ow b (some k)) hb2)
        have hlj0 := fun (j : Nat) (hj : j < d.length) => due_nth l now j (by omega)
        have hrst := rest_drop l now
        have HLJ := keep hlj0
        have HRS := keep hrst
        obtain ⟨n, hnn⟩ : ∃ n, d.length = n := ⟨_, rfl⟩
        rw [hnn] at hn hg2 HLJ HE hdl ⊢
        obtain ⟨g, hgg⟩ : ∃ g, w1.heap.size = g := ⟨_, rfl⟩
        rw [hgg] at hg2 hs1 ⊢
        have hg2' := hg2.out
        have HGG := keep hgg
        have HNN := keep hn
        clear hbw1 hbw2 hes hlj0 hrst HN hn hb2 hs2 HM hnn hgg hg2
        go_loopw [35] (fun i wr2 => ∃ j : Nat, j ≤ n ∧ i = .int .i64 j ∧ SetAt wr2 b (some k) (l.drop j) ∧ RowAt wr2 g (dueL l now) n j ∧ Part (Ow b (some k)) w1 wr2)
          (fun i _ => n - (intOf i).toNat)
        case atStart => exact ⟨0, Nat.zero_le _, rfl, hset2, by simpa [ints, RowAt] using hg2', HP.out⟩
        case round =>
          clear hset2 hg2'
          obtain ⟨j, hj, rfl, hset, hrow, hpart⟩ := hrel
          by_cases hjn : j < n
          · obtain ⟨gb, o, x, y, rfl, hgb, hc0, hc1, hlj⟩ := HE.out.at_ hjn
            have hgne : ¬ Ow b (some k) gb := fun hc => by
              have h1 := HAb.out gb (by simp [Value.ownBlock])
              have h2 := HH.out.ow_lt hc
              omega
            have hblk := hpart.block gb hgb hgne
            have k0 := (World.cell?_of_block (w := w1) (a := ⟨gb, o + j * 2, none⟩) hblk).trans hc0
            have k1 := (World.cell?_of_block (w := w1) (a := ⟨gb, o + j * 2 + 1, none⟩) hblk).trans hc1
            have hgl : g < wr.heap.size := (Array.getElem?_eq_some_iff.1 hrow).1
            have g0 := hrow.cell HNN.out hjn
            have g1 := hrow.frozen j
            have hlj' := (HLJ.out j hjn).trans hlj
            have HSet := keep hset
            have HRow := keep hrow
            have HPart := keep hpart
            have HL := keep hlj'
            have HJ := keep hlj
            clear hgne hblk hc0 hc1 hset hrow hpart hlj hlj'
            have hwx : (K x).wf = true := (HF.out (x, y) (List.mem_of_getElem? HL.out)).1
            have hp3 : Part (fun i => i = g) wr ((wr.setCell ⟨g, j, none⟩ (.int .i64 x)).alloc (.cells #[.int .i64 x, .int .i64 y] 56)) := ((Part.refl (fun i => i = g) wr).setCell (p := ⟨g, j, none⟩) (.inl rfl) _).alloc _
            have hgo : ∀ i, Ow b (some k) i → ¬ i = g := fun i hi he => by have := HH.out.ow_lt hi; omega
            have hs3 := HSet.out.kept hp3 hgo
            have hrow3 : RowAt ((wr.setCell ⟨g, j, none⟩ (.int .i64 x)).alloc (.cells #[.int .i64 x, .int .i64 y] 56)) g (dueL l now) n (j + 1) :=
              (HRow.out.set HNN.out hjn HJ.out).step (below_lay _ _)
            have hdr : l.drop j = (x, y) :: l.drop (j + 1) := by
              obtain ⟨h1, h2⟩ := List.getElem?_eq_some_iff.1 HL.out
              rw [List.drop_eq_getElem_cons h1, h2]
            have hst := Stop_set b (some k) (l.drop j) x _ hs3 hwx
            have hso := hs3.ord
            rw [hdr] at hso
            rw [hdr, stop_head hso] at hst
            have HST := keep hst
            have HP3 := keep hp3
            have HR3 := keep hrow3
            have HGO := keep hgo
            clear hwx hp3 hgo hs3 hrow3 hdr hst hso
            go_wp2_with (go_at_call 11; refine HST.out.mono ?_; rintro e w4 ⟨rfl, hs4, hp4⟩)
            have hrow4 := HR3.out.kept hp4 fun hc => HGO.out g hc rfl
            have hpart4 : Part (Ow b (some k)) w1 w4 := (HPart.out.trans HP3.out fun i hi => .inr (by have := HGG.out; omega)).trans hp4 fun i hi => .inl hi
            go_roundw
            case rel => exact ⟨j + 1, by omega, by go_num, hs4, hrow4, hpart4⟩
            case measure => simp [intOf]; omega
          · obtain rfl : n = j := by omega
            have HSet := keep hset
            have HRow := keep hrow
            have HPart := keep hpart
            clear hset hrow hpart
            go_wp2
            go_ret
            have hp : Part (Ow b (some k)) w wr := (Part.of_below (Ow b (some k)) HW1.out).trans HPart.out fun i hi => .inl hi
            have hs := HSet.out
            rw [HNN.out, HRS.out] at hs
            refine ⟨some ⟨g, 0, none⟩, n, by rw [← HNN.out]; rfl, ?_, hs, hp⟩
            have hr := HRow.out
            unfold RowAt at hr
            rw [Nat.sub_self, List.replicate_zero, List.append_nil, List.take_of_length_le (by rw [HNN.out]; exact Nat.le_refl _)] at hr
            have := own_row hr n (by rw [ints_len]; exact HNN.out) (by unfold maxLen; omega)
            rw [← HNN.out]
            exact own_mono this (Nat.le_of_lt hs1)
      · intro x c w1 cnt1 hwx hwc hlx hat hrg1 hlt hg1 hs1 hen
        have HM := keep (HS.out.mem hat)
        have hb1 : Below w.heap.size w w1 := HB.out.grown hg1 HB.out.size fun i hi => by cases hi; omega
        have hown1 := hown.out.kept hg1 (by
          cases hv : (Value.slice A' d.length c').ownBlock with
          | none => exact .inl rfl
          | some g => have := hown.out.lt g hv; right; simp; omega)
        have HR := keep hrg1
        have HRo := keep hrg
        have HOw := keep hown1
        have HB1 := keep hb1
        have HLX := keep hlx
        have hsz1 : w.heap.size < w1.heap.size := by omega
        clear hat hwx hwc hlx hrg hrg1 hb1 hg1 hs1 hown hown1
        by_cases hc : c ≤ now
        · go_wp2_with (first
            | (at_builtin; refine wpl_append2 rfl (.tmp 22) (.tmp 26) 54 rfl (w.heap.size + 1) 56 i0 (.agg #[.int .i64 0, .int .i64 0]) Try.underlying54 hi0 hz0 hz1 rfl _ d.length (flat d) rfl (HOw.out.alloc _) _ 1 1 (flat [(x, c)]) rfl rfl (SR.row (t := 56) (fr := (0, 0)) (cur := (flat [(x, c)]).toArray) (heap_alloc_new w1 _)) (flat_one _) (by unfold maxLen; omega) (by rw [hz2]; omega) (by simp; omega) ?_
               intro A2 c2 w2 ho2 hb2 hg2))
          have hne : ∀ g, (Value.slice A' d.length c').ownBlock = some g → w.heap.size + 1 ≤ g := fun g hg => (HOw.out.lt g hg).1
          have hR2 := (HR.out.alloc (.cells #[.int .i64 x, .int .i64 c] 56)).kept hg2.out (fun e => by have := hne _ e.symm; have := HK.out; omega) (fun e => by have := hne _ e.symm; omega)
          have hb3 := (HB1.out.alloc HB1.out.size (.cells #[.int .i64 x, .int .i64 c] 56)).trans (hb2.mono (Nat.le_succ _))
          have hs3 : w.heap.size < w2.heap.size := by have := hb2.size; simp at this; omega
          have hlen : (d ++ [(x, c)]).length = d.length + 1 := by simp
          rw [← flat_append] at ho2
          go_roundw
          case rel => exact ⟨_, cnt1, d ++ [(x, c)], A2, c2, by rw [hlen], hR2, by rw [hlen]; exact ho2, hb3, hs3, by rw [hlen]; omega, HG.out.more HO.out HM.out HLX.out hc⟩
          case measure => rw [hR2.left_eq, HRo.out.left_eq]; exact hlt
        · go_wp2
          go_roundw
          case rel => exact ⟨_, cnt1, d, A', c', rfl, HR.out, HOw, HB1.out, hsz1, by omega, HG.out.less HO.out HM.out hc⟩
          case measure => rw [HR.out.left_eq, HRo.out.left_eq]; exact hlt
end Go.Proofs.Ythnhmgdefmahkaa
