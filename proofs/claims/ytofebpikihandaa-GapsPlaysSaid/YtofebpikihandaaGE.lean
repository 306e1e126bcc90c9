/- The heights of a set, rising. -/
import Derived.WalkSpells
import Derived.KernelRfl
import Derived.Laws.MakeOwn
import Derived.Laws.IdiomRangeMap
import Derived.Test.YtofebpikihandaaGD
import Derived.Test.YtofebpikihandaaSo2
namespace Go.Proofs.Ytofebpikihandaa
open Go.RowKit Go.Maps Go.Sort
set_option linter.unusedVariables false
set_option linter.unusedSimpArgs false
set_option linter.unnecessarySimpa false

section
variable {P : Program} {w : World} {ops : Array Oper} {rest : List Oper} {o : Oper} {a : Act} {Q : Exit → Act → World → Prop}
/-- make([]T, 0, n), T of one cell. -/
theorem wpl_make0 (hg : Region.wanted o (yielded ops a.tmps) = true) (l c : Operand) (t : TypeId) (hop : o.op = Op.makeSlice t l c) (base : Nat) (e : TypeId) (i : TypeInfo) (z : Value) (ht : P.underlying t = some (.slice e)) (hi : P.info? e = some i) (hz : i.zero = some z) (hs : i.size = 1)
    (n : Nat) (hl : a.eval l = .int .i64 0) (hc : a.eval c = .int .i64 (n : Int)) (hb : i.bytes * n ≤ 281474976710656) (h63 : n ≤ maxLen) (hbase : base ≤ w.heap.size)
    (h : ∀ w', Hid (w'.ownsRow base e 1 (.slice (some ⟨w.heap.size, 0, none⟩) 0 n) 0 []) → Below w.heap.size w w' → wpList P ops Q rest (a.put o.dst (.slice (some ⟨w.heap.size, 0, none⟩) 0 n)) w') :
    wpList P ops Q (o :: rest) a w := by
  refine wpl_wanted hg fun K hK' => ?_
  obtain ⟨w', hr, h2, h3⟩ := run_make_own (P := P) w base t e i z 1 ht hi hz hs .i64 .i64 n hb h63 hbase
  unfold Oper.wp
  simp [execOp, hop, hl, hc, hr, Result.andThen]
  exact hK' _ _ (h w' h2 ((Part.of_grown (S := fun _ => False) h3 fun i hi => by cases hi).below (Nat.le_refl _) fun _ hc => hc.elim))
end

/-- Heights as cells, as numbers. -/
def u16s (d : List Nat) : List Value := d.map fun (h : Nat) => .int .u16 (h : Int)
theorem u16s_len (d : List Nat) : (u16s d).length = d.length := by simp [u16s]
theorem u16s_one (d : List Nat) : ∀ u ∈ u16s d, u.oneCell' = true := by
  intro u hu
  obtain ⟨_, _, rfl⟩ := List.mem_map.1 hu
  rfl
def ia (d : List Nat) : Array Int := (d.map fun (h : Nat) => (h : Int)).toArray
theorem ia_size (d : List Nat) : (ia d).size = d.length := by simp [ia]
theorem u16_info : (Try.prog.info? 47).map (fun i => (i.zero, i.size, i.bytes)) = some (some (.int .u16 0), 1, 2) := by kernel_rfl

theorem Rw.of_own {w : World} {base g : Nat} {c : Nat} {d : List Nat} (h : w.ownsRow base 47 1 (.slice (some ⟨g, 0, none⟩) d.length c) d.length (u16s d)) : Rw w g (ia d) := by
  rcases h.2 with ⟨h0, _⟩ | ⟨g', cap, cur, hv, _, hgg, _, _, _, ht⟩
  · cases h0
  · injection hv with h1 _ _
    injection h1 with h1
    injection h1 with h1
    subst h1
    intro j hj
    rw [ia_size] at hj
    refine ⟨?_, by simp [World.frozen?, hgg]⟩
    rw [Nat.zero_add, cell_of_row w g j cur _ _ hgg]
    have h1 : (u16s d)[j]? = some (.int .u16 ((ia d)[j]!)) := by
      rw [getElem!_pos (ia d) j (by rw [ia_size]; exact hj)]
      simp [u16s, ia, hj]
    rw [← ht, List.getElem?_take, if_pos (by simpa using hj)] at h1
    simpa using h1
theorem SR.of_done {w w' : World} {g : Nat} {d' : Array Int} {L : List Nat} (h : Done w g d' w') (hg : g < w.heap.size) (e : d'.toList = L.map fun (h : Nat) => (h : Int)) : SR w' (some ⟨g, 0, none⟩) (u16s L) := fun _ =>
  ⟨g, 0, rfl, Nat.lt_of_lt_of_le hg h.part.size, fun j u hu => by
    have hj : j < L.length := by
      have := (List.getElem?_eq_some_iff.1 hu).1
      rwa [u16s_len] at this
    have hs : d'.size = L.length := by have := congrArg List.length e; simpa using this
    have := h.row.cell (t := j) (by omega)
    rw [Nat.zero_add, this]
    have e1 : d'[j]! = (L[j] : Int) := by
      rw [getElem!_pos d' j (by omega), ← Array.getElem_toList]
      simp [e]
    rw [e1]
    simp [u16s, hj] at hu
    rw [← hu]⟩
theorem sorted_is {d : List Nat} {d' : Array Int} {L : List Nat} (hL : Asc L) (hd : d.Perm L) (hp : d'.toList.Perm (ia d).toList) (hs : d'.toList.Pairwise (fun x y => x ≤ y)) : d'.toList = L.map fun (h : Nat) => (h : Int) := by
  have h1 : d'.toList.Perm (L.map fun (h : Nat) => (h : Int)) := hp.trans (by simpa [ia] using hd.map _)
  refine h1.eq_of_pairwise (le := fun x y => x ≤ y) (fun a b _ _ h1 h2 => Int.le_antisymm h1 h2) hs ?_
  rw [List.pairwise_map]
  exact hL.up.imp fun {a b} hab => by omega

theorem Sort_empty (p : Option Addr) (c : Nat) (w : World) : Calls Try.prog 34 #[.slice p 0 c] w fun e w' => e = .returned (.tuple #[]) ∧ w' = w := by
  have h1 : Calls Try.prog 37 #[.slice p 0 c, .int .i64 0, .int .i64 0] w fun e w' => e = .returned (.tuple #[]) ∧ w' = w := by
    go_enter Try.func37, Try.ntmps37
    go_wp2
    refine wp_loop_rounds 1 ?_
    rw [rounds_succ]
    go_wp2
    go_end0
    exact ⟨rfl, rfl⟩
  have h2 : ∀ l, Calls Try.prog 35 #[.slice p 0 c, .int .i64 0, .int .i64 0, .int .i64 l] w fun e w' => e = .returned (.tuple #[]) ∧ w' = w := fun l => by
    go_enter Try.func35, Try.ntmps35
    go_wp2
    refine wp_loop_rounds 1 ?_
    rw [rounds_succ]
    go_wp2_with (go_at_call 37; refine h1.mono ?_; rintro e w' ⟨rfl, rfl⟩)
    (try simp only [Exit.inBlock, Exit.then])
    exact bodyPost_ret (results_none rfl _ _ _) rfl ⟨rfl, rfl⟩
  go_enter Try.func34, Try.ntmps34
  go_wp2_with (first
    | (go_at_call 36; refine (Len_small _ _ (by omega) (by omega)).mono ?_; rintro e w' ⟨l, rfl, hl, rfl⟩; clear hl)
    | (go_at_call 35; refine (h2 _).mono ?_; rintro e w' ⟨rfl, rfl⟩))
  go_end0
  exact ⟨rfl, rfl⟩

/-- The sort sorts rows of at most N. -/
def SortOK (N : Nat) : Prop := ∀ (g c : Nat) (d : Array Int) (w : World), Rw w g d → d.size ≤ N → Calls Try.prog 34 #[.slice (some ⟨g, 0, none⟩) d.size c] w fun e w' => e = .returned (.tuple #[]) ∧ Sorted w g d w'
theorem sort_twelve : SortOK 12 := fun g c d w h h12 => Sort_few h h12

theorem Sort_own {N : Nat} (hN : SortOK N) (base : Nat) (A : Option Addr) (c : Nat) (d : List Nat) (w : World) (ho : w.ownsRow base 47 1 (.slice A d.length c) d.length (u16s d)) (hsz : d.length ≤ N) (hb : base ≤ w.heap.size) :
    Calls Try.prog 34 #[.slice A d.length c] w fun e w' => e = .returned (.tuple #[]) ∧ (∀ L, Asc L → d.Perm L → SR w' A (u16s L)) ∧ Below base w w' := by
  by_cases h0 : d.length = 0
  · rw [h0]
    refine (Sort_empty A c w).mono ?_
    rintro e w' ⟨rfl, rfl⟩
    refine ⟨rfl, fun L _ hp => ?_, Below.refl _ _⟩
    have : L = [] := List.eq_nil_of_length_eq_zero (by rw [← hp.length_eq, h0])
    rw [this]
    exact SR.nil _ _
  · have ho' := ho
    rcases ho.2 with ⟨_, h1⟩ | ⟨g, cap, cur, hv, hg, hgg, _⟩
    · exact absurd h1 h0
    · injection hv with hA _ hc
      subst hA hc
      have hlt := (Array.getElem?_eq_some_iff.1 hgg).1
      have := hN g c (ia d) w (Rw.of_own ho') (by rw [ia_size]; exact hsz)
      rw [ia_size] at this
      refine this.mono ?_
      rintro e w' ⟨rfl, d', h1, h2, h3⟩
      exact ⟨rfl, fun L hL hp => SR.of_done h1 hlt (sorted_is hL hp h2 h3), h1.part.below hb fun k hk => by rw [hk]; exact hg⟩

/-- Of the numbers that have come, the heights have been gathered. -/
structure Gath (f : Int) (L : List Nat) (left : Lit → Bool) (d : List Nat) : Prop where
  apart : d.Nodup
  mem : ∀ h, h ∈ d ↔ h ∈ L ∧ left (K (wr (f + h))) = false
theorem Gath.start {f : Int} {L : List Nat} {D : Dat} (hL : Fit L) (hS : Keys D f L) : Gath f L (has D) [] :=
  ⟨List.nodup_nil, fun h => ⟨fun c => (List.not_mem_nil c).elim, fun ⟨h1, h2⟩ => by
    rw [hS.there _ (wr_lo _) (wr_hi _), ht_up f h (hL.lt h h1), decide_eq_true h1] at h2
    cases h2⟩⟩
theorem Gath.more {f x : Int} {L : List Nat} {left : Lit → Bool} {d : List Nat} (hL : Fit L) (h : Gath f L left d) (x0 : 0 ≤ x) (x1 : x < 4294967296) (hx : ht f x ∈ L) (hl : left (K x) = true) : Gath f L (fun z => left z && !z.sameKey (K x)) (d ++ [ht f x]) := by
  have ex := up_ht (f := f) x0 x1
  refine ⟨List.nodup_append.2 ⟨h.apart, by simp, fun a ha b hb e => ?_⟩, fun y => ?_⟩
  · rw [List.mem_singleton] at hb
    have := ((h.mem a).1 ha).2
    rw [e, hb, ex, hl] at this
    cases this
  · show y ∈ d ++ [ht f x] ↔ y ∈ L ∧ (left (K (wr (f + y))) && !(K (wr (f + y))).sameKey (K x)) = false
    rw [List.mem_append, List.mem_singleton, h.mem]
    by_cases e : wr (f + y) = x
    · rw [e, strike_self]
      constructor
      · rintro (⟨a, b⟩ | rfl)
        · exact ⟨a, rfl⟩
        · exact ⟨hx, rfl⟩
      · rintro ⟨a, _⟩
        exact .inr (by rw [← e, ht_up f y (hL.lt y a)])
    · rw [strike_other left e]
      constructor
      · rintro (c | rfl)
        · exact c
        · exact absurd ex e
      · exact .inl
theorem Gath.done {f : Int} {L : List Nat} {left : Lit → Bool} {d : List Nat} (hL : Fit L) (h : Gath f L left d) (hl : ∀ z, left z = false) : d.Perm L :=
  (List.perm_ext_iff_of_nodup h.apart hL.asc.nodup).2 fun y => by rw [h.mem, hl]; simp

theorem ranges_ne {w : World} {k r n : Nat} {D : Dat} {left : Lit → Bool} {cnt base : Nat} {e : TypeId} {size m : Nat} {v : Value} {xs : List Value} (h : w.ranges Try.prog 22 UE k r n D left cnt) (ho : w.ownsRow base e size v m xs) : some k ≠ v.ownBlock ∧ some r ≠ v.ownBlock := by
  constructor
  · intro hc
    obtain ⟨cur, fr, hg⟩ := own_cells ho hc.symm
    obtain ⟨es, clock, hb, _⟩ := h.owns
    rw [hb] at hg
    cases hg
  · intro hc
    obtain ⟨cur, fr, hg⟩ := own_cells ho hc.symm
    obtain ⟨es, clock, since, seen, c, hb, _, _, _, hr, _⟩ := h
    rw [hr] at hg
    cases hg
theorem grown_below {B : Nat} {w w' : World} {v : Value} (h : w.grownBy w' v.ownBlock) (hB : B ≤ w.heap.size) (hv : ∀ g, v.ownBlock = some g → B ≤ g) : Below B w w' := (Part.of_grown (S := fun i => v.ownBlock = some i) h fun i hi => hi).below hB hv
/-- The heights are answered in new memory. -/
def RetH (w : World) (L : List Nat) (e : Ending) (w' : World) : Prop := ∃ A c, e = .returned (.slice A L.length c) ∧ L.length ≤ c ∧ SR w' A (u16s L) ∧ Below w.heap.size w w'

set_option maxHeartbeats 4000000 in
theorem heights_set {N : Nat} (hN : SortOK N) {b k : Nat} {v : Value} {f : Int} {L : List Nat} {T : List Int} {w : World} (h : SetAt w b k v f L T) (hL : L.length ≤ N) :
    Calls Try.prog 30 #[.pointer (some ⟨b, 0, none⟩)] w fun e w' => RetH w L e w' := by
  obtain ⟨hfit, D, hD, hS⟩ := h.map
  obtain ⟨i0, hi0, hz0, hz1, hz2⟩ := info_parts u16_info
  have c1 := h.c1
  have hlen := hfit.len
  have HS := keep (And.intro hfit (And.intro hS (hS.size hD hfit.asc.nodup hfit.lt)))
  have H := keep h
  have HL := keep hL
  have HD := keep hD
  obtain ⟨n, hn⟩ : ∃ n, L.length = n := ⟨_, rfl⟩
  rw [hn] at hlen hD
  have HN := keep hn
  clear h hfit hS hL hn
  go_enter Try.func30, Try.ntmps30
  go_wp2_with (first
    | (at_len; refine wpList_len_own _ rfl _ 50 rfl 22 56 Try.underlying50 UE k n D rfl hD ?_; rw [HS.out.2.2, HN.out])
    | (at_make; refine wpl_make0 rfl _ _ 54 rfl w.heap.size 47 i0 (.int .u16 0) Try.underlying54 hi0 hz0 hz1 n rfl rfl (by rw [hz2]; omega) (by unfold maxLen; omega) (Nat.le_refl _) ?_; intro w1 hown1 hb1; have c2 := (H.out.step hb1).c1; have hD1 := hD.kept (row := none) ⟨hb1.os, hb1.tape, hb1.output, hb1.size, fun i hi _ => hb1.block i hi⟩ (by simp); replace hb1 := keep hb1)
    | (at_range; refine wpList_range_own _ rfl _ 50 rfl 22 56 keyed Try.underlying50 UE k n D rfl hD1 ?_; intro w2 hrg2 hg2 hs2))
  go_frame
  have hlt1 := H.out.lt
  have hJ : Hid (w2.ownsRow w.heap.size 47 1 (.slice (some ⟨w.heap.size, 0, none⟩) 0 n) 0 (u16s []) ∧ Below w.heap.size w w2 ∧ ([] : List Nat).length + Maps.size D ≤ n ∧ Gath f L (has D) []) :=
    ⟨(Part.of_grown (S := fun _ => False) hg2 fun i hi => by cases hi).own hown1.out fun _ _ hc => hc, hb1.out.trans ((Part.of_grown (S := fun _ => False) hg2 fun i hi => by cases hi).below hb1.out.size fun _ hc => hc.elim), by rw [HS.out.2.2, HN.out]; simp, Gath.start HS.out.1 HS.out.2.1⟩
  obtain ⟨r, hr⟩ : ∃ r, w1.heap.size = r := ⟨_, rfl⟩
  rw [hr] at hrg2 ⊢
  have HR := keep (show w.heap.size ≤ r by rw [← hr]; exact hb1.out.size)
  clear hD hD1 c1 c2 hown1 hb1 hg2 hs2 hr hlt1 HD
  go_loopw [3] (fun out wr => ∃ (left : Lit → Bool) (cnt : Nat) (d : List Nat) (A' : Option Addr) (c' : Nat), out = .slice A' d.length c' ∧ wr.ranges Try.prog 22 UE k r n D left cnt ∧
      Hid (wr.ownsRow w.heap.size 47 1 (.slice A' d.length c') d.length (u16s d) ∧ Below w.heap.size w wr ∧ d.length + cnt ≤ n ∧ Gath f L left d))
    (fun _ wr => wr.rangeLeft k r)
  case atStart => exact ⟨_, _, [], _, _, rfl, hrg2, hJ⟩
  case round =>
    clear hrg2 hJ
    obtain ⟨left, cnt, d, A', c', rfl, hrg, HJ⟩ := hrel
    go_wp2_with (at_next; refine next_iu _ rfl _ rfl k r n D left cnt rfl hrg ?_ ?_)
    · intro _ hl0
      have hperm := HJ.out.2.2.2.done HS.out.1 hl0
      have hdl := hperm.length_eq
      have HC := keep (Sort_own hN w.heap.size A' c' d wr HJ.out.1 (by rw [hdl]; exact HL.out) HJ.out.2.1.size)
      have hcap : d.length ≤ c' := by
        obtain ⟨A2, c2, hv, _, hcap, _⟩ := own_shape HJ.out.1
        injection hv with _ _ hv
        rwa [← hv] at hcap
      have HP := keep (And.intro hperm (And.intro hdl hcap))
      clear hl0 hrg hperm hdl hcap
      go_wp2_with (go_at_call 34; refine HC.out.mono ?_; rintro e w4 ⟨rfl, h4, hb4⟩; replace h4 := keep (And.intro h4 hb4); clear hb4)
      go_ret
      exact ⟨A', c', by rw [HP.out.2.1]; rfl, by rw [← HP.out.2.1]; exact HP.out.2.2, h4.out.1 L HS.out.1.asc HP.out.1, HJ.out.2.1.trans (h4.out.2)⟩
    · intro x w3 cnt1 x0 x1 hlx hhx hrg3 hlt3 hg3 hs3 hen
      have hin : ht f x ∈ L := by
        rw [HS.out.2.1.there x x0 x1] at hhx
        simpa using hhx
      have hh := HS.out.1.top _ hin
      have hp3 : Part (fun i => i = r) wr w3 := Part.of_grown hg3 fun i hi => by simpa using hi.symm
      have hb3 : Below w.heap.size w w3 := HJ.out.2.1.trans (hp3.below HJ.out.2.1.size fun i hi => by rw [hi]; exact HR.out)
      have ho3 := hp3.own HJ.out.1 fun g hg he => (ranges_ne hrg HJ.out.1).2 (by rw [hg, he])
      have c0 := (H.out.step hb3).c0
      have HG := keep (And.intro (HJ.out.2.2.2.more HS.out.1 x0 x1 hin hlx) (And.intro hb3 ho3))
      have HD2 := keep fun w => Dist_any f x w
      rw [show dist32 f x = ((ht f x : Nat) : Int) from (ht_int f x).symm] at HD2
      obtain ⟨m, hm⟩ : ∃ m, ht f x = m := ⟨_, rfl⟩
      rw [hm] at HG HD2 hh
      have HRo := keep hrg
      have hd2 : d.length ≤ 1024 := by have := HJ.out.2.2.1; omega
      obtain ⟨q, hq⟩ : ∃ q, d.length = q := ⟨_, rfl⟩
      have HQ := keep hq
      rw [hq] at hd2 HG ⊢
      clear x0 x1 hlx hhx hrg hg3 hs3 hb3 hp3 ho3 hin hm hq
      go_wp2_with (first
        | (go_at_call 25; refine (HD2.out _).mono ?_; rintro e w' ⟨rfl, rfl⟩)
        | (at_builtin; refine wpList_append_own_at _ rfl (.tmp 22) (.tmp 30) 54 rfl w.heap.size 47 i0 (.int .u16 0) 1 2 Try.underlying54 hi0 hz0 hz1 hz2 rfl (by decide) (.slice A' q c') q (u16s d) rfl (HG.out.2.2.alloc _) ⟨w3.heap.size, 0, none⟩ 1 1 [.int .u16 m] rfl rfl (cell_one_new _ _ _) (u16s_one [m]) (by unfold maxLen; omega) (by omega) (by have := HG.out.2.1.size; simp; omega) ?_; intro v' w4 hown' hgrow hnil hloc; obtain ⟨A2, c2, rfl, y1, y2, y3⟩ := own_shape hown'; clear y1 y2 y3 hnil hloc; replace hown' := keep hown'; replace hgrow := keep hgrow))
      have hne := ranges_ne hrg3 HG.out.2.2
      have hrg4 := (hrg3.alloc (.cells #[.int .u16 m] 47)).kept hgrow.out hne.1 hne.2
      go_roundw
      case rel =>
        refine ⟨_, cnt1, d ++ [m], A2, c2, by rw [← HQ.out]; simp, hrg4, ?_, ?_, ?_, HG.out.1⟩
        · have := hown'.out
          rw [show (d ++ [m]).length = q + 1 by rw [← HQ.out]; simp, show u16s (d ++ [m]) = u16s d ++ [.int .u16 m] by simp [u16s]]
          exact this
        · exact (HG.out.2.1.alloc HG.out.2.1.size _).trans (grown_below hgrow.out (by have := HG.out.2.1.size; simp; omega) fun g hg => (HG.out.2.2.lt g hg).1)
        · have := HJ.out.2.2.1
          simp
          omega
      case measure => rw [hrg4.left_eq, HRo.out.left_eq]; exact hlt3
end Go.Proofs.Ytofebpikihandaa
