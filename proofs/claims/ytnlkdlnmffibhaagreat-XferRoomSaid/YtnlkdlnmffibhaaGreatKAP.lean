/- KAP of the stage: texts GE, GF, GG, GH, MV, joined. -/
import Derived.WalkSpells
import Derived.KernelRfl
import Derived.Laws.MakeOwn
import Derived.Laws.IdiomRangeMap
import Derived.Test.YtnlkdlnmffibhaaGreatKAO
import Derived.Deep.QuietTactic
import Derived.BigQuiet
import Derived.Test.YtnlkdlnmffibhaaGreatProg
import Derived.Test.YtnlkdlnmffibhaaGreatKAA
import Derived.Maps.OwnSet
import Derived.Maps.RangeWalk
import Derived.StillTailTactics
set_option linter.unusedSimpArgs false
set_option linter.unusedVariables false
set_option maxRecDepth 8000
namespace Go.Proofs.YtnlkdlnmffibhaaGreat
section
open Go.RowKit Go.Maps Go.Sort
set_option linter.unnecessarySimpa false
section
variable {P : Program} {w : World} {ops : Array Oper} {rest : List Oper} {o : Oper} {a : Act} {Q : Exit → Act → World → Prop}
theorem wpl_make0 (hg : Region.wanted o (yielded ops a.tmps) = true) (l c : Operand) (t : TypeId) (hop : o.op = Op.makeSlice t l c) (base : Nat) (e : TypeId) (i : TypeInfo) (z : Value) (ht : P.underlying t = some (.slice e)) (hi : P.info? e = some i) (hz : i.zero = some z) (hs : i.size = 1)
    (n : Nat) (hl : a.eval l = .int .i64 0) (hc : a.eval c = .int .i64 (n : Int)) (hb : i.bytes * n ≤ 281474976710656) (h63 : n ≤ maxLen) (hbase : base ≤ w.heap.size)
    (h : ∀ w', Hid (w'.ownsRow base e 1 (.slice (some ⟨w.heap.size, 0, none⟩) 0 n) 0 []) → Below w.heap.size w w' → wpList P ops Q rest (a.put o.dst (.slice (some ⟨w.heap.size, 0, none⟩) 0 n)) w') :
    wpList P ops Q (o :: rest) a w := by
  refine wpl_wanted hg fun K hK' => ?_
  obtain ⟨w', hr, h2, h3⟩ := run_make_own (P := P) w base t e i z 1 ht hi hz hs .i64 .i64 n hb h63 hbase
  unfold Oper.wp
  simp [execOp, hop, hl, hc, hr, Result.andThen]
  exact hK' _ _ (h w' h2 ((Part.of_grown (S := fun _ => False) h3 fun i hi => by cases hi).below (Nat.le_refl _) fun _ hc => hc.elim))
end
def u16s (d : List Nat) : List Value := d.map fun (h : Nat) => .int .u16 (h : Int)
theorem u16s_len (d : List Nat) : (u16s d).length = d.length := by simp [u16s]
theorem u16s_one (d : List Nat) : ∀ u ∈ u16s d, u.oneCell' = true := by
  intro u hu
  obtain ⟨_, _, rfl⟩ := List.mem_map.1 hu
  rfl
def ia (d : List Nat) : Array Int := (d.map fun (h : Nat) => (h : Int)).toArray
theorem ia_size (d : List Nat) : (ia d).size = d.length := by simp [ia]
theorem u16_info_gp : (Tryz.prog.info? 30).map (fun i => (i.zero, i.size, i.bytes)) = some (some (.int .u16 0), 1, 2) := by kernel_rfl
theorem Rw.of_own {w : World} {base g : Nat} {c : Nat} {d : List Nat} (h : w.ownsRow base 30 1 (.slice (some ⟨g, 0, none⟩) d.length c) d.length (u16s d)) : Rw w g (ia d) := by
  rcases h.2 with ⟨h0, _⟩ | ⟨g', cap, cur, hv, _, hgg, _, _, _, ht⟩
  · cases h0
  · injection hv with h1 _ _
    injection h1 with h1
    injection h1 with h1
    subst h1
    intro j hj
    rw [ia_size] at hj
    refine ⟨?_, by simp [World.frozen?, hgg]⟩
    rw [Nat.zero_add, cell_of_row w g j cur _ _ hgg]
    have h1 : (u16s d)[j]? = some (.int .u16 ((ia d)[j]!)) := by
      rw [getElem!_pos (ia d) j (by rw [ia_size]; exact hj)]
      simp [u16s, ia, hj]
    rw [← ht, List.getElem?_take, if_pos (by simpa using hj)] at h1
    simpa using h1
theorem SR.of_done {w w' : World} {g : Nat} {d' : Array Int} {L : List Nat} (h : Done w g d' w') (hg : g < w.heap.size) (e : d'.toList = L.map fun (h : Nat) => (h : Int)) : SR w' (some ⟨g, 0, none⟩) (u16s L) := fun _ =>
  ⟨g, 0, rfl, Nat.lt_of_lt_of_le hg h.part.size, fun j u hu => by
    have hj : j < L.length := by
      have := (List.getElem?_eq_some_iff.1 hu).1
      rwa [u16s_len] at this
    have hs : d'.size = L.length := by have := congrArg List.length e; simpa using this
    have := h.row.cell (t := j) (by omega)
    rw [Nat.zero_add, this]
    have e1 : d'[j]! = (L[j] : Int) := by
      rw [getElem!_pos d' j (by omega), ← Array.getElem_toList]
      simp [e]
    rw [e1]
    simp [u16s, hj] at hu
    rw [← hu]⟩
theorem sorted_is {d : List Nat} {d' : Array Int} {L : List Nat} (hL : Asc L) (hd : d.Perm L) (hp : d'.toList.Perm (ia d).toList) (hs : d'.toList.Pairwise (fun x y => x ≤ y)) : d'.toList = L.map fun (h : Nat) => (h : Int) := by
  have h1 : d'.toList.Perm (L.map fun (h : Nat) => (h : Int)) := hp.trans (by simpa [ia] using hd.map _)
  refine h1.eq_of_pairwise (le := fun x y => x ≤ y) (fun a b _ _ h1 h2 => Int.le_antisymm h1 h2) hs ?_
  rw [List.pairwise_map]
  exact hL.up.imp fun {a b} hab => by omega
theorem Sort_empty (p : Option Addr) (c : Nat) (w : World) : Calls Tryz.prog 108 #[.slice p 0 c] w fun e w' => e = .returned (.tuple #[]) ∧ w' = w := by
  have h1 : Calls Tryz.prog 140 #[.slice p 0 c, .int .i64 0, .int .i64 0] w fun e w' => e = .returned (.tuple #[]) ∧ w' = w := by
    go_enter Tryz.func140, Tryz.ntmps140
    go_wp2
    refine wp_loop_rounds 1 ?_
    rw [rounds_succ]
    go_wp2
    go_end0
    exact ⟨rfl, rfl⟩
  have h2 : ∀ l, Calls Tryz.prog 131 #[.slice p 0 c, .int .i64 0, .int .i64 0, .int .i64 l] w fun e w' => e = .returned (.tuple #[]) ∧ w' = w := fun l => by
    go_enter Tryz.func131, Tryz.ntmps131
    go_wp2
    refine wp_loop_rounds 1 ?_
    rw [rounds_succ]
    go_wp2_with (go_at_call 140; refine h1.mono ?_; rintro e w' ⟨rfl, rfl⟩)
    (try simp only [Exit.inBlock, Exit.then])
    exact bodyPost_ret (results_none rfl _ _ _) rfl ⟨rfl, rfl⟩
  go_enter Tryz.func108, Tryz.ntmps108
  go_wp2_with (first
    | (go_at_call 132; refine (Len_small _ _ (by omega) (by omega)).mono ?_; rintro e w' ⟨l, rfl, hl, rfl⟩; clear hl)
    | (go_at_call 131; refine (h2 _).mono ?_; rintro e w' ⟨rfl, rfl⟩))
  go_end0
  exact ⟨rfl, rfl⟩
def SortOK (N : Nat) : Prop := ∀ (g c : Nat) (d : Array Int) (w : World), Rw w g d → d.size ≤ N → Calls Tryz.prog 108 #[.slice (some ⟨g, 0, none⟩) d.size c] w fun e w' => e = .returned (.tuple #[]) ∧ Sorted w g d w'
theorem sort_twelve : SortOK 12 := fun g c d w h h12 => Sort_few h h12
theorem Sort_own {N : Nat} (hN : SortOK N) (base : Nat) (A : Option Addr) (c : Nat) (d : List Nat) (w : World) (ho : w.ownsRow base 30 1 (.slice A d.length c) d.length (u16s d)) (hsz : d.length ≤ N) (hb : base ≤ w.heap.size) :
    Calls Tryz.prog 108 #[.slice A d.length c] w fun e w' => e = .returned (.tuple #[]) ∧ (∀ L, Asc L → d.Perm L → SR w' A (u16s L)) ∧ Below base w w' := by
  by_cases h0 : d.length = 0
  · rw [h0]
    refine (Sort_empty A c w).mono ?_
    rintro e w' ⟨rfl, rfl⟩
    refine ⟨rfl, fun L _ hp => ?_, Below.refl _ _⟩
    have : L = [] := List.eq_nil_of_length_eq_zero (by rw [← hp.length_eq, h0])
    rw [this]
    exact SR.nil _ _
  · have ho' := ho
    rcases ho.2 with ⟨_, h1⟩ | ⟨g, cap, cur, hv, hg, hgg, _⟩
    · exact absurd h1 h0
    · injection hv with hA _ hc
      subst hA hc
      have hlt := (Array.getElem?_eq_some_iff.1 hgg).1
      have := hN g c (ia d) w (Rw.of_own ho') (by rw [ia_size]; exact hsz)
      rw [ia_size] at this
      refine this.mono ?_
      rintro e w' ⟨rfl, d', h1, h2, h3⟩
      exact ⟨rfl, fun L hL hp => SR.of_done h1 hlt (sorted_is hL hp h2 h3), h1.part.below hb fun k hk => by rw [hk]; exact hg⟩
structure Gath (f : Int) (L : List Nat) (left : Lit → Bool) (d : List Nat) : Prop where
  apart : d.Nodup
  mem : ∀ h, h ∈ d ↔ h ∈ L ∧ left (K (wr (f + h))) = false
theorem Gath.start {f : Int} {L : List Nat} {D : Dat} (hL : Fit L) (hS : Keys D f L) : Gath f L (has D) [] :=
  ⟨List.nodup_nil, fun h => ⟨fun c => (List.not_mem_nil c).elim, fun ⟨h1, h2⟩ => by
    rw [hS.there _ (wr_lo _) (wr_hi _), ht_up f h (hL.lt h h1), decide_eq_true h1] at h2
    cases h2⟩⟩
theorem Gath.more {f x : Int} {L : List Nat} {left : Lit → Bool} {d : List Nat} (hL : Fit L) (h : Gath f L left d) (x0 : 0 ≤ x) (x1 : x < 4294967296) (hx : ht f x ∈ L) (hl : left (K x) = true) : Gath f L (fun z => left z && !z.sameKey (K x)) (d ++ [ht f x]) := by
  have ex := up_ht (f := f) x0 x1
  refine ⟨List.nodup_append.2 ⟨h.apart, by simp, fun a ha b hb e => ?_⟩, fun y => ?_⟩
  · rw [List.mem_singleton] at hb
    have := ((h.mem a).1 ha).2
    rw [e, hb, ex, hl] at this
    cases this
  · show y ∈ d ++ [ht f x] ↔ y ∈ L ∧ (left (K (wr (f + y))) && !(K (wr (f + y))).sameKey (K x)) = false
    rw [List.mem_append, List.mem_singleton, h.mem]
    by_cases e : wr (f + y) = x
    · rw [e, strike_self]
      constructor
      · rintro (⟨a, b⟩ | rfl)
        · exact ⟨a, rfl⟩
        · exact ⟨hx, rfl⟩
      · rintro ⟨a, _⟩
        exact .inr (by rw [← e, ht_up f y (hL.lt y a)])
    · rw [strike_other left e]
      constructor
      · rintro (c | rfl)
        · exact c
        · exact absurd ex e
      · exact .inl
theorem Gath.done {f : Int} {L : List Nat} {left : Lit → Bool} {d : List Nat} (hL : Fit L) (h : Gath f L left d) (hl : ∀ z, left z = false) : d.Perm L :=
  (List.perm_ext_iff_of_nodup h.apart hL.asc.nodup).2 fun y => by rw [h.mem, hl]; simp
theorem ranges_ne {w : World} {k r n : Nat} {D : Dat} {left : Lit → Bool} {cnt base : Nat} {e : TypeId} {size m : Nat} {v : Value} {xs : List Value} (h : w.ranges Tryz.prog 22 UE k r n D left cnt) (ho : w.ownsRow base e size v m xs) : some k ≠ v.ownBlock ∧ some r ≠ v.ownBlock := by
  constructor
  · intro hc
    obtain ⟨cur, fr, hg⟩ := own_cells_gp ho hc.symm
    obtain ⟨es, clock, hb, _⟩ := h.owns
    rw [hb] at hg
    cases hg
  · intro hc
    obtain ⟨cur, fr, hg⟩ := own_cells_gp ho hc.symm
    obtain ⟨es, clock, since, seen, c, hb, _, _, _, hr, _⟩ := h
    rw [hr] at hg
    cases hg
theorem grown_below {B : Nat} {w w' : World} {v : Value} (h : w.grownBy w' v.ownBlock) (hB : B ≤ w.heap.size) (hv : ∀ g, v.ownBlock = some g → B ≤ g) : Below B w w' := (Part.of_grown (S := fun i => v.ownBlock = some i) h fun i hi => hi).below hB hv
def RetH (w : World) (L : List Nat) (e : Ending) (w' : World) : Prop := ∃ A c, e = .returned (.slice A L.length c) ∧ L.length ≤ c ∧ SR w' A (u16s L) ∧ Below w.heap.size w w'
set_option maxHeartbeats 4000000 in
theorem heights_set {N : Nat} (hN : SortOK N) {b k : Nat} {v : Value} {f : Int} {L : List Nat} {T : List Int} {w : World} (h : SetAt w b k v f L T) (hL : L.length ≤ N) :
    Calls Tryz.prog 73 #[.pointer (some ⟨b, 0, none⟩)] w fun e w' => RetH w L e w' := by
  obtain ⟨hfit, D, hD, hS⟩ := h.map
  obtain ⟨i0, hi0, hz0, hz1, hz2⟩ := info_parts u16_info_gp
  have c1 := h.c1
  have hlen := hfit.len
  have HS := keep (And.intro hfit (And.intro hS (hS.size hD hfit.asc.nodup hfit.lt)))
  have H := keep h
  have HL := keep hL
  have HD := keep hD
  obtain ⟨n, hn⟩ : ∃ n, L.length = n := ⟨_, rfl⟩
  rw [hn] at hlen hD
  have HN := keep hn
  clear h hfit hS hL hn
  go_enter Tryz.func73, Tryz.ntmps73
  go_wp2_with (first
    | (at_len; refine wpList_len_own _ rfl _ 138 rfl 22 152 Tryz.underlying138 UE k n D rfl hD ?_; rw [HS.out.2.2, HN.out])
    | (at_make; refine wpl_make0 rfl _ _ 62 rfl w.heap.size 30 i0 (.int .u16 0) Tryz.underlying62 hi0 hz0 hz1 n rfl rfl (by rw [hz2]; omega) (by unfold maxLen; omega) (Nat.le_refl _) ?_; intro w1 hown1 hb1; have c2 := (H.out.step hb1).c1; have hD1 := hD.kept (row := none) ⟨hb1.os, hb1.tape, hb1.output, hb1.size, fun i hi _ => hb1.block i hi⟩ (by simp); replace hb1 := keep hb1)
    | (at_range; refine wpList_range_own _ rfl _ 138 rfl 22 152 keyed Tryz.underlying138 UE k n D rfl hD1 ?_; intro w2 hrg2 hg2 hs2))
  go_frame
  have hlt1 := H.out.lt
  have hJ : Hid (w2.ownsRow w.heap.size 30 1 (.slice (some ⟨w.heap.size, 0, none⟩) 0 n) 0 (u16s []) ∧ Below w.heap.size w w2 ∧ ([] : List Nat).length + Maps.size D ≤ n ∧ Gath f L (has D) []) :=
    ⟨(Part.of_grown (S := fun _ => False) hg2 fun i hi => by cases hi).own hown1.out fun _ _ hc => hc, hb1.out.trans ((Part.of_grown (S := fun _ => False) hg2 fun i hi => by cases hi).below hb1.out.size fun _ hc => hc.elim), by rw [HS.out.2.2, HN.out]; simp, Gath.start HS.out.1 HS.out.2.1⟩
  obtain ⟨r, hr⟩ : ∃ r, w1.heap.size = r := ⟨_, rfl⟩
  rw [hr] at hrg2 ⊢
  have HR := keep (show w.heap.size ≤ r by rw [← hr]; exact hb1.out.size)
  clear hD hD1 c1 c2 hown1 hb1 hg2 hs2 hr hlt1 HD
  go_loopw [3] (fun out wr => ∃ (left : Lit → Bool) (cnt : Nat) (d : List Nat) (A' : Option Addr) (c' : Nat), out = .slice A' d.length c' ∧ wr.ranges Tryz.prog 22 UE k r n D left cnt ∧
      Hid (wr.ownsRow w.heap.size 30 1 (.slice A' d.length c') d.length (u16s d) ∧ Below w.heap.size w wr ∧ d.length + cnt ≤ n ∧ Gath f L left d))
    (fun _ wr => wr.rangeLeft k r)
  case atStart => exact ⟨_, _, [], _, _, rfl, hrg2, hJ⟩
  case round =>
    clear hrg2 hJ
    obtain ⟨left, cnt, d, A', c', rfl, hrg, HJ⟩ := hrel
    go_wp2_with (at_next; refine next_iu _ rfl _ rfl k r n D left cnt rfl hrg ?_ ?_)
    · intro _ hl0
      have hperm := HJ.out.2.2.2.done HS.out.1 hl0
      have hdl := hperm.length_eq
      have HC := keep (Sort_own hN w.heap.size A' c' d wr HJ.out.1 (by rw [hdl]; exact HL.out) HJ.out.2.1.size)
      have hcap : d.length ≤ c' := by
        obtain ⟨A2, c2, hv, _, hcap, _⟩ := own_shape HJ.out.1
        injection hv with _ _ hv
        rwa [← hv] at hcap
      have HP := keep (And.intro hperm (And.intro hdl hcap))
      clear hl0 hrg hperm hdl hcap
      go_wp2_with (go_at_call 108; refine HC.out.mono ?_; rintro e w4 ⟨rfl, h4, hb4⟩; replace h4 := keep (And.intro h4 hb4); clear hb4)
      go_ret
      exact ⟨A', c', by rw [HP.out.2.1]; rfl, by rw [← HP.out.2.1]; exact HP.out.2.2, h4.out.1 L HS.out.1.asc HP.out.1, HJ.out.2.1.trans (h4.out.2)⟩
    · intro x w3 cnt1 x0 x1 hlx hhx hrg3 hlt3 hg3 hs3 hen
      have hin : ht f x ∈ L := by
        rw [HS.out.2.1.there x x0 x1] at hhx
        simpa using hhx
      have hh := HS.out.1.top _ hin
      have hp3 : Part (fun i => i = r) wr w3 := Part.of_grown hg3 fun i hi => by simpa using hi.symm
      have hb3 : Below w.heap.size w w3 := HJ.out.2.1.trans (hp3.below HJ.out.2.1.size fun i hi => by rw [hi]; exact HR.out)
      have ho3 := hp3.own HJ.out.1 fun g hg he => (ranges_ne hrg HJ.out.1).2 (by rw [hg, he])
      have c0 := (H.out.step hb3).c0
      have HG := keep (And.intro (HJ.out.2.2.2.more HS.out.1 x0 x1 hin hlx) (And.intro hb3 ho3))
      have HD2 := keep fun w => Dist_any f x w
      rw [show dist32 f x = ((ht f x : Nat) : Int) from (ht_int f x).symm] at HD2
      obtain ⟨m, hm⟩ : ∃ m, ht f x = m := ⟨_, rfl⟩
      rw [hm] at HG HD2 hh
      have HRo := keep hrg
      have hd2 : d.length ≤ 1024 := by have := HJ.out.2.2.1; omega
      obtain ⟨q, hq⟩ : ∃ q, d.length = q := ⟨_, rfl⟩
      have HQ := keep hq
      rw [hq] at hd2 HG ⊢
      clear x0 x1 hlx hhx hrg hg3 hs3 hb3 hp3 ho3 hin hm hq
      go_wp2_with (first
        | (go_at_call 10; refine (HD2.out _).mono ?_; rintro e w' ⟨rfl, rfl⟩)
        | (at_builtin; refine wpList_append_own_at _ rfl (.tmp 22) (.tmp 30) 62 rfl w.heap.size 30 i0 (.int .u16 0) 1 2 Tryz.underlying62 hi0 hz0 hz1 hz2 rfl (by decide) (.slice A' q c') q (u16s d) rfl (HG.out.2.2.alloc _) ⟨w3.heap.size, 0, none⟩ 1 1 [.int .u16 m] rfl rfl (cell_one_new _ _ _) (u16s_one [m]) (by unfold maxLen; omega) (by omega) (by have := HG.out.2.1.size; simp; omega) ?_; intro v' w4 hown' hgrow hnil hloc; obtain ⟨A2, c2, rfl, y1, y2, y3⟩ := own_shape hown'; clear y1 y2 y3 hnil hloc; replace hown' := keep hown'; replace hgrow := keep hgrow))
      have hne := ranges_ne hrg3 HG.out.2.2
      have hrg4 := (hrg3.alloc (.cells #[.int .u16 m] 30)).kept hgrow.out hne.1 hne.2
      go_roundw
      case rel =>
        refine ⟨_, cnt1, d ++ [m], A2, c2, by rw [← HQ.out]; simp, hrg4, ?_, ?_, ?_, HG.out.1⟩
        · have := hown'.out
          rw [show (d ++ [m]).length = q + 1 by rw [← HQ.out]; simp, show u16s (d ++ [m]) = u16s d ++ [.int .u16 m] by simp [u16s]]
          exact this
        · exact (HG.out.2.1.alloc HG.out.2.1.size _).trans (grown_below hgrow.out (by have := HG.out.2.1.size; simp; omega) fun g hg => (HG.out.2.2.lt g hg).1)
        · have := HJ.out.2.2.1
          simp
          omega
      case measure => rw [hrg4.left_eq, HRo.out.left_eq]; exact hlt3
end
section
open Go.RowKit Go.Maps
def prs : List (Nat × Nat) → List Value
  | [] => []
  | p :: r => .int .u16 (p.1 : Int) :: .int .u16 (p.2 : Int) :: prs r
theorem prs_len : ∀ l : List (Nat × Nat), (prs l).length = l.length * 2
  | [] => rfl
  | p :: r => by simp [prs, prs_len r]; omega
theorem prs_app : ∀ l m : List (Nat × Nat), prs (l ++ m) = prs l ++ prs m
  | [], m => rfl
  | p :: r, m => by simp [prs, prs_app r m]
theorem prs_one : ∀ (l : List (Nat × Nat)), ∀ u ∈ prs l, u.oneCell' = true
  | [], u, hu => by simp [prs] at hu
  | p :: r, u, hu => by
    simp only [prs, List.mem_cons] at hu
    rcases hu with rfl | rfl | hu
    · rfl
    · rfl
    · exact prs_one r u hu
theorem prs_get : ∀ (l : List (Nat × Nat)) (i : Nat) (p : Nat × Nat), l[i]? = some p → (prs l)[i * 2]? = some (.int .u16 (p.1 : Int)) ∧ (prs l)[i * 2 + 1]? = some (.int .u16 (p.2 : Int))
  | [], i, p, h => by simp at h
  | q :: r, 0, p, h => by
    simp at h
    subst h
    simp [prs]
  | q :: r, i + 1, p, h => by
    have := prs_get r i p (by simpa using h)
    rw [show (i + 1) * 2 = i * 2 + 1 + 1 by omega, show i * 2 + 1 + 1 + 1 = (i * 2 + 1) + 1 + 1 by omega]
    simpa [prs] using this
theorem prs_last (l : List (Nat × Nat)) (a e h : Nat) : (prs (l ++ [(a, e)])).set (l.length * 2 + 1) (.int .u16 (h : Int)) = prs (l ++ [(a, h)]) := by
  rw [prs_app, prs_app, List.set_append_right _ _ (by rw [prs_len]; omega), prs_len, show l.length * 2 + 1 - l.length * 2 = 1 by omega]
  rfl
theorem own_set_gp {w : World} {base g n c : Nat} {e : TypeId} {size : Nat} {xs : List Value} (h : w.ownsRow base e size (.slice (some ⟨g, 0, none⟩) n c) n xs) {j : Nat} (hj : j < xs.length) (u : Value) :
    (w.setCell ⟨g, j, none⟩ u).ownsRow base e size (.slice (some ⟨g, 0, none⟩) n c) n (xs.set j u) := by
  refine ⟨by rw [List.length_set]; exact h.1, ?_⟩
  rcases h.2 with ⟨h0, _⟩ | ⟨g', cap, cur, hv, hg, hgg, h1, h2, h3, ht⟩
  · cases h0
  · injection hv with e1 _ e2
    injection e1 with e1
    injection e1 with e1
    subst e1 e2
    refine .inr ⟨g, c, cur.setIfInBounds j u, rfl, hg, ?_, h1, h2, by simpa using h3, ?_⟩
    · unfold World.setCell
      simp [Array.getElem?_modify, hgg]
    · rw [← ht] at hj ⊢
      rw [Array.toList_setIfInBounds, List.take_set]
theorem own_at {w : World} {base n : Nat} {e : TypeId} {size : Nat} {v : Value} {xs : List Value} (h : w.ownsRow base e size v n xs) {j : Nat} {u : Value} (hj : xs[j]? = some u) :
    ∃ g c, v = .slice (some ⟨g, 0, none⟩) n c ∧ n ≤ c ∧ base ≤ g ∧ g < w.heap.size ∧ w.cell? ⟨g, j, none⟩ = some u ∧ w.frozen? ⟨g, j, none⟩ = false := by
  rcases h.2 with ⟨_, h0⟩ | ⟨g', cap, cur, hv, hg, hgg, h1, h2, h3, ht⟩
  · have h1 := h.1
    rw [h0] at h1
    have : xs = [] := List.eq_nil_of_length_eq_zero (by simpa using h1)
    rw [this] at hj
    simp at hj
  · refine ⟨g', cap, hv, h1, hg, (Array.getElem?_eq_some_iff.1 hgg).1, ?_, by simp [World.frozen?, hgg]⟩
    rw [cell_of_row w g' j cur _ _ hgg]
    rw [← ht, List.getElem?_take] at hj
    split at hj
    · simpa using hj
    · cases hj
theorem cell_two_new (w : World) (x y : Value) (t : TypeId) : ∀ j u, [x, y][j]? = some u → (w.alloc (.cells #[x, y] t)).cell? ((⟨w.heap.size, 0, none⟩ : Addr).add j) = some u := by
  intro j u hj
  rw [Addr.add_lit, cell_of_row _ _ _ _ _ _ (heap_alloc_new w _)]
  simpa using hj
theorem block_info : (Tryz.prog.info? 143).map (fun i => (i.zero, i.size, i.bytes)) = some (some (.agg #[.int .u16 0, .int .u16 0]), 2, 4) := by kernel_rfl
theorem own_is {w : World} {base : Nat} {e : TypeId} {size n : Nat} {v : Value} {xs : List Value} (h : w.ownsRow base e size v n xs) : ∃ A c, v = .slice A n c ∧ n ≤ c := by
  rcases h.2 with ⟨rfl, rfl⟩ | ⟨g, cap, cur, rfl, _, _, hnc, _⟩
  · exact ⟨none, 0, rfl, Nat.le_refl _⟩
  · exact ⟨_, cap, rfl, hnc⟩
def RetR (w : World) (L : List Nat) (e : Ending) (w' : World) : Prop := ∃ A c, e = .returned (.slice A (runs L).length c) ∧ (runs L).length ≤ c ∧ w'.ownsRow w.heap.size 143 2 (.slice A (runs L).length c) (runs L).length (prs (runs L)) ∧ Below w.heap.size w w'
def sofar (L : List Nat) (j : Nat) : List (Nat × Nat) := (runsR (L.take j)).reverse
theorem sofar_snoc {L : List Nat} {j h : Nat} (hj : L[j]? = some h) : sofar L (j + 1) = (pushRun (runsR (L.take j)) h).reverse := by
  unfold sofar
  rw [List.take_add_one, hj]
  show (runsR (L.take j ++ [h])).reverse = _
  rw [runsR_snoc]
theorem sofar_none {L : List Nat} {j h : Nat} (hj : L[j]? = some h) (hs : sofar L j = []) : sofar L (j + 1) = [(h, h)] := by
  have : runsR (L.take j) = [] := List.reverse_eq_nil_iff.1 hs
  rw [sofar_snoc hj, this]
  rfl
theorem sofar_last {L : List Nat} {j h a e : Nat} {P : List (Nat × Nat)} (hj : L[j]? = some h) (hs : sofar L j = P ++ [(a, e)]) : runsR (L.take j) = (a, e) :: P.reverse := by
  have := congrArg List.reverse hs
  unfold sofar at this
  simpa using this
theorem sofar_on {L : List Nat} {j h a e : Nat} {P : List (Nat × Nat)} (hj : L[j]? = some h) (hs : sofar L j = P ++ [(a, e)]) (he : h = e + 1) : sofar L (j + 1) = P ++ [(a, h)] := by
  rw [sofar_snoc hj, sofar_last hj hs, push_on he]
  simp
theorem sofar_off {L : List Nat} {j h a e : Nat} {P : List (Nat × Nat)} (hj : L[j]? = some h) (hs : sofar L j = P ++ [(a, e)]) (he : ¬ h = e + 1) : sofar L (j + 1) = P ++ [(a, e)] ++ [(h, h)] := by
  rw [sofar_snoc hj, sofar_last hj hs, push_off he]
  simp
theorem sofar_full {L : List Nat} {j h a e : Nat} {P : List (Nat × Nat)} (hj : L[j]? = some h) (hs : sofar L j = P ++ [(a, e)]) (he : ¬ h = e + 1) (hl : P.length = 63) : runs L = P ++ [(a, e)] := by
  have h1 := runs_full (L.take j) (L.drop (j + 1)) h a e P.reverse (sofar_last hj hs) (by simpa using hl) he
  have h2 : L.take j ++ h :: L.drop (j + 1) = L := by
    obtain ⟨h3, h4⟩ := List.getElem?_eq_some_iff.1 hj
    rw [← h4, ← List.drop_eq_getElem_cons h3, List.take_append_drop]
  rw [h2, sofar_last hj hs] at h1
  rw [h1]
  simp
theorem sofar_all {L : List Nat} (h : (sofar L L.length).length ≤ 64) : runs L = sofar L L.length := by
  unfold sofar at *
  rw [List.take_length] at *
  exact runs_small L (by simpa using h)
theorem push_all {S : Nat → Prop} : ∀ (t : List Nat) (acc : List (Nat × Nat)), (∀ p ∈ acc, S p.1 ∧ S p.2) → (∀ h ∈ t, S h) → ∀ p ∈ t.foldl pushRun acc, S p.1 ∧ S p.2
  | [], acc, ha, _ => ha
  | h :: t, acc, ha, ht => by
    rw [List.foldl_cons]
    refine push_all t _ ?_ fun x hx => ht x (by simp [hx])
    have hh := ht h (by simp)
    rcases acc with _ | ⟨⟨a, e⟩, r⟩
    · intro p hp
      simp [pushRun] at hp
      rw [hp]
      exact ⟨hh, hh⟩
    · by_cases hb : h = e + 1
      · rw [push_on hb]
        intro p hp
        rcases List.mem_cons.1 hp with rfl | hp
        · exact ⟨(ha (a, e) (by simp)).1, hh⟩
        · exact ha p (by simp [hp])
      · rw [push_off hb]
        intro p hp
        rcases List.mem_cons.1 hp with rfl | hp
        · exact ⟨hh, hh⟩
        · exact ha p hp
theorem sofar_mem {L : List Nat} {j : Nat} : ∀ p ∈ sofar L j, p.1 ∈ L ∧ p.2 ∈ L := fun p hp =>
  push_all (S := (· ∈ L)) (L.take j) [] (fun p hp => absurd hp List.not_mem_nil) (fun h hh => List.mem_of_mem_take hh) p (by simpa [sofar, runsR] using hp)
def nat_of : Value → Nat
  | .int _ x => x.toNat
  | _ => 0
set_option maxHeartbeats 8000000 in
theorem Blocks_set {N : Nat} (hN : SortOK N) {b k : Nat} {v : Value} {f : Int} {L : List Nat} {T : List Int} {w : World} (h : SetAt w b k v f L T) (hL : L.length ≤ N) :
    Calls Tryz.prog 41 #[.pointer (some ⟨b, 0, none⟩)] w fun e w' => RetR w L e w' := by
  obtain ⟨i0, hi0, hz0, hz1, hz2⟩ := info_parts block_info
  have HH := keep (heights_set hN h hL)
  have HT := keep h.map.1.top
  have hlen := h.map.1.len
  obtain ⟨n, hn⟩ : ∃ n, L.length = n := ⟨_, rfl⟩
  unfold RetH at HH
  rw [hn] at hlen HH
  have HN := keep hn
  clear h hL hn
  go_enter Tryz.func41, Tryz.ntmps41
  go_wp2_with (go_at_call 73; refine HH.out.mono ?_; rintro e w1 ⟨A, c, rfl, hc1, hs1, hb1⟩; replace hs1 := keep hs1; replace hb1 := keep hb1)
  clear HH
  go_loopw [3, 10] (fun vb vi wr => ∃ (j m : Nat) (A' : Option Addr) (c' : Nat), vi = .int .i64 j ∧ vb = .slice A' m c' ∧ j ≤ n ∧ m ≤ 64 ∧ Hid (m = (sofar L j).length ∧ wr.ownsRow w1.heap.size 143 2 (.slice A' m c') m (prs (sofar L j)) ∧ Below w1.heap.size w1 wr))
    (fun _ vi _ => n - nat_of vi)
  case atStart => exact ⟨0, 0, none, 0, rfl, rfl, by omega, by omega, rfl, World.ownsRow_nil _ _ _ _, Below.refl _ _⟩
  case round =>
    obtain ⟨j, m, A', c', rfl, rfl, hj, hm, HJ⟩ := hrel
    by_cases hjn : j < n
    · obtain ⟨x, hx⟩ : ∃ x, L[j]? = some x := ⟨_, List.getElem?_eq_getElem (by rw [HN.out]; exact hjn)⟩
      obtain ⟨gh, oh, eA, _, hcell⟩ := SR.at_ (hs1.out.step HJ.out.2.2) (j := j) (by rw [u16s_len, HN.out]; exact hjn)
      subst eA
      have hx2 : (u16s L)[j]'(by rw [u16s_len, HN.out]; exact hjn) = .int .u16 (x : Int) := by
        have e1 : (u16s L)[j]? = some (.int .u16 (x : Int)) := by simp [u16s, hx]
        exact (List.getElem?_eq_some_iff.1 e1).2
      rw [hx2] at hcell
      have hxt := HT.out x (List.mem_of_getElem? hx)
      have HX := keep hx
      have hjz : (j : Int) < (n : Int) := by omega
      clear hx hx2
      rcases List.eq_nil_or_concat (sofar L j) with hP | ⟨P, ⟨a, e⟩, hP⟩
      · have hm0 := HJ.out.1
        rw [hP] at hm0
        have HS := keep (sofar_none HX.out hP)
        have HO := keep HJ.out.2.1
        rw [hP] at HO
        simp at hm0
        subst hm0
        clear hP
        go_wp2_with (at_builtin; refine wpList_append_own_at _ rfl (.tmp 40) (.tmp 44) 36 rfl w1.heap.size 143 i0 (.agg #[.int .u16 0, .int .u16 0]) 2 4 Tryz.underlying36 hi0 hz0 hz1 hz2 rfl (by decide) (.slice A' 0 c') 0 (prs []) rfl (HO.out.alloc _) ⟨wr.heap.size, 0, none⟩ 1 1 [.int .u16 x, .int .u16 x] rfl rfl (cell_two_new _ _ _ _) (prs_one [(x, x)]) (by unfold maxLen; omega) (by omega) (by have := HJ.out.2.2.size; simp; omega) ?_; intro v' w4 hown' hgrow hnil hloc; obtain ⟨A2, c2, rfl, y1⟩ := own_is hown'; clear y1 hnil hloc; replace hown' := keep hown'; replace hgrow := keep hgrow)
        go_roundw
        case rel => exact ⟨j + 1, 1, A2, c2, by go_num, rfl, by omega, by omega, by rw [HS.out]; rfl, by rw [HS.out]; exact hown'.out, (HJ.out.2.2.alloc HJ.out.2.2.size _).trans (grown_below hgrow.out (by have := HJ.out.2.2.size; simp; omega) fun g hg => (HO.out.lt g hg).1)⟩
        case measure => simp [nat_of]; omega
      · rw [List.concat_eq_append] at hP
        have hm0 := HJ.out.1
        rw [hP, List.length_append, List.length_singleton] at hm0
        have HO := keep HJ.out.2.1
        rw [hP] at HO
        have hee := HT.out e (sofar_mem (a, e) (by rw [hP]; simp)).2
        obtain ⟨p, hp⟩ : ∃ p, P.length = p := ⟨_, rfl⟩
        rw [hp] at hm0
        subst hm0
        have HP := keep hp
        obtain ⟨g, c3, hv, hc3, hg, hglt, hge, hgf⟩ := own_at HO.out (j := p * 2 + 1) (u := .int .u16 (e : Int)) (by rw [← hp]; exact (prs_get _ P.length (a, e) (by simp)).2)
        injection hv with hv1 _ hv2
        subst hv1 hv2
        have HPP := keep hP
        clear hP hp
        by_cases hxe : x = e + 1
        · have HS := keep (sofar_on HX.out HPP.out hxe)
          have HW := keep (own_set_gp HO.out (j := p * 2 + 1) (by rw [prs_len, List.length_append, HP.out]; simp; omega) (.int .u16 (x : Int)))
          subst hxe
          go_wp2_with fail
          exact ⟨⟨j + 1, p + 1, _, _, by go_num, rfl, by omega, hm, by rw [HS.out]; simp [HP.out], by
            have := HW.out
            rw [← HP.out, prs_last] at this
            rw [HS.out, ← HP.out]
            exact this, HJ.out.2.2.setCell hg _⟩, by simp [nat_of]; omega⟩
        · have hxz : ¬ (x : Int) = (e : Int) + 1 := by omega
          by_cases hf : p + 1 < 64
          · have HS := keep (sofar_off HX.out HPP.out hxe)
            go_wp2_with (at_builtin; refine wpList_append_own_at _ rfl (.tmp 40) (.tmp 44) 36 rfl w1.heap.size 143 i0 (.agg #[.int .u16 0, .int .u16 0]) 2 4 Tryz.underlying36 hi0 hz0 hz1 hz2 rfl (by decide) (.slice (some ⟨g, 0, none⟩) (p + 1) c') ((p + 1)) (prs (P ++ [(a, e)])) rfl (HO.out.alloc _) ⟨wr.heap.size, 0, none⟩ 1 1 [.int .u16 x, .int .u16 x] rfl rfl (cell_two_new _ _ _ _) (prs_one [(x, x)]) (by unfold maxLen; omega) (by omega) (by have := HJ.out.2.2.size; simp; omega) ?_; intro v' w4 hown' hgrow hnil hloc; obtain ⟨A2, c2, rfl, y1⟩ := own_is hown'; clear y1 hnil hloc; replace hown' := keep hown'; replace hgrow := keep hgrow)
            go_roundw
            case rel => exact ⟨j + 1, p + 1 + 1, A2, c2, by go_num, rfl, by omega, by omega, by rw [HS.out]; simp [HP.out], by rw [HS.out, prs_app]; exact hown'.out, (HJ.out.2.2.alloc HJ.out.2.2.size _).trans (grown_below hgrow.out (by have := HJ.out.2.2.size; simp; omega) fun g hg => (HO.out.lt g hg).1)⟩
            case measure => simp [nat_of]; omega
          · have HR := keep (sofar_full HX.out HPP.out hxe (by rw [HP.out]; omega))
            go_wp2_with fail
            go_ret
            have hrl : (runs L).length = p + 1 := by rw [HR.out]; simp [HP.out]
            exact ⟨_, c', by rw [hrl]; rfl, by rw [hrl]; exact hc3, by rw [hrl, HR.out]; exact own_mono HO.out hb1.out.size, hb1.out.trans (HJ.out.2.2.mono hb1.out.size)⟩
    · obtain rfl : j = n := by omega
      have hge : ¬ (j : Int) < (j : Int) := by omega
      have hr := sofar_all (L := L) (by rw [HN.out, ← HJ.out.1]; exact hm)
      rw [HN.out] at hr
      have HR := keep hr
      clear hr
      go_wp2_with fail
      go_ret
      have hrl : (runs L).length = m := by rw [HR.out]; exact HJ.out.1.symm
      obtain ⟨A9, c9, hv9, hc9⟩ := own_is HJ.out.2.1
      injection hv9 with _ _ hc8
      exact ⟨A', c', by rw [hrl]; rfl, by rw [hrl, hc8]; exact hc9, by rw [hrl, HR.out]; exact own_mono HJ.out.2.1 hb1.out.size, hb1.out.trans (HJ.out.2.2.mono hb1.out.size)⟩
end
section
open Go.RowKit Go.Maps
end
section
open Go.RowKit Go.Maps
theorem SR.own {w : World} {base n c : Nat} {e : TypeId} {size : Nat} {A : Option Addr} {xs : List Value} (h : w.ownsRow base e size (.slice A n c) n xs) : SR w A xs := fun hx => by
  obtain ⟨u, hu⟩ : ∃ u, xs[0]? = some u := ⟨_, List.getElem?_eq_getElem (List.length_pos_iff.2 hx)⟩
  obtain ⟨g, c', hv, _, _, hlt, _⟩ := own_at h hu
  injection hv with hv _ _
  refine ⟨g, 0, hv, hlt, fun j u hu => ?_⟩
  obtain ⟨g', c2, hv', _, _, _, hc, _⟩ := own_at h hu
  injection hv' with hv' _ _
  rw [hv] at hv'
  injection hv' with hv'
  injection hv' with hv'
  rw [Nat.zero_add, hv']
  exact hc
def s1 : St := (St.new 10).add 12
def s2 : St := s1.add 13
def s3 : St := s2.add 10
end
section
open Go.RowKit Go.Maps
abbrev DV := DataW Value
def VE (v : Value) : Option (DV × List MemPlace) := some (.held v, [])
theorem VE_inv {v : Value} {d : DV} {ps : List MemPlace} (h : VE v = some (d, ps)) : d = .held v := by
  unfold VE at h
  injection h with h
  injection h with h1 h2
  exact h1.symm
abbrev KL (q : IntKind) (x : Int) : Lit := .int q x
theorem KL_lit (q : IntKind) (x : Int) : WideAt.IsKeyLit (KL q x) := by simp [WideAt.IsKeyLit]
theorem KL_inj {q : IntKind} {x y : Int} (h : KL q x = KL q y) : x = y := by injection h
theorem KL_ne {q : IntKind} {x y : Int} (h : x ≠ y) : KL q x ≠ KL q y := fun e => h (KL_inj e)
theorem wf32_jo {x : Int} (h0 : 0 ≤ x) (h1 : x < 4294967296) : (KL .u32 x).wf = true := by
  simp [Lit.wf, IntKind.min, IntKind.max, IntKind.signed, IntKind.bits]
  omega
theorem wf16 {x : Int} (h0 : 0 ≤ x) (h1 : x < 65536) : (KL .u16 x).wf = true := by
  simp [Lit.wf, IntKind.min, IntKind.max, IntKind.signed, IntKind.bits]
  omega
abbrev VM := Int → Option Value
def putV (g : VM) (n : Int) (v : Value) : VM := fun m => if m = n then some v else g m
def delV (g : VM) (n : Int) : VM := fun m => if m = n then none else g m
structure Shw (q : IntKind) (D : DV) (g : VM) : Prop where
  tidy : Tidy D
  wf : ∀ n v, g n = some v → (KL q n).wf = true
  only : ∀ k, has D k = true → ∃ n v, k = KL q n ∧ g n = some v
  there : ∀ n v, g n = some v → ∀ z, D.atKey (KL q n) z = .held v
theorem Shw.nil (q : IntKind) : Shw q (.map []) fun _ => none := ⟨tidy_empty, fun _ _ h => (by cases h), fun k h => (by cases h), fun _ _ h => (by cases h)⟩
theorem Shw.has_ {q : IntKind} {D : DV} {g : VM} (h : Shw q D g) (n : Int) : has D (KL q n) = (g n).isSome := by
  cases hg : g n with
  | some v => exact has_true_of_atKey (h.there n v hg)
  | none =>
    cases hc : has D (KL q n) with
    | false => rfl
    | true =>
      obtain ⟨m, v, e, hm⟩ := h.only _ hc
      rw [← KL_inj e, hg] at hm
      cases hm
theorem Shw.at_ {q : IntKind} {D : DV} {g : VM} (h : Shw q D g) (n : Int) (z : Value) : D.atKey (KL q n) (.held z) = .held ((g n).getD z) := by
  cases hg : g n with
  | some v => exact h.there n v hg _
  | none => exact atKey_of_not_has (by rw [h.has_ n, hg]; rfl) _
theorem Shw.put {q : IntKind} {D : DV} {g : VM} (h : Shw q D g) {n : Int} (hn : (KL q n).wf = true) (v : Value) : Shw q (D.put (KL q n) (.held v)) (putV g n v) := by
  refine ⟨h.tidy.put (KL_lit q n) _, fun m u hm => ?_, fun k hk => ?_, fun m u hm z => ?_⟩
  · unfold putV at hm
    by_cases e : m = n
    · rw [e]; exact hn
    · rw [if_neg e] at hm; exact h.wf m u hm
  · by_cases e : k = KL q n
    · exact ⟨n, v, e, by unfold putV; rw [if_pos rfl]⟩
    · rw [has_put_other e] at hk
      obtain ⟨m, u, e1, hm⟩ := h.only k hk
      refine ⟨m, u, e1, ?_⟩
      unfold putV
      rw [if_neg fun e2 => e (by rw [e1, e2]), hm]
  · unfold putV at hm
    by_cases e : m = n
    · rw [if_pos e] at hm
      injection hm with hm
      subst e hm
      exact atKey_put_same h.tidy.isMap (KL_lit q m) _ z
    · rw [if_neg e] at hm
      rw [atKey_put_other (KL_ne e)]
      exact h.there m u hm z
theorem Shw.del {q : IntKind} {D : DV} {g : VM} (h : Shw q D g) (n : Int) : Shw q (D.del (KL q n)) (delV g n) := by
  refine ⟨h.tidy.del _, fun m u hm => ?_, fun k hk => ?_, fun m u hm z => ?_⟩
  · unfold delV at hm
    by_cases e : m = n
    · rw [if_pos e] at hm; cases hm
    · rw [if_neg e] at hm; exact h.wf m u hm
  · by_cases e : k = KL q n
    · rw [e, has_del_same] at hk; cases hk
    · rw [has_del_other e] at hk
      obtain ⟨m, u, e1, hm⟩ := h.only k hk
      refine ⟨m, u, e1, ?_⟩
      unfold delV
      rw [if_neg fun e2 => e (by rw [e1, e2]), hm]
  · unfold delV at hm
    by_cases e : m = n
    · rw [if_pos e] at hm; cases hm
    · rw [if_neg e] at hm
      rw [atKey_del_other (KL_ne e)]
      exact h.there m u hm z
def MapV (w : World) (kt : TypeId) (q : IntKind) (k c : Nat) (g : VM) : Prop := ∃ D : DV, w.ownsMap Tryz.prog kt VE k c D ∧ Shw q D g ∧ Maps.size D = c
section
variable {kt : TypeId} {q : IntKind} {w : World} {k c : Nat} {g : VM}
theorem tight {n : Nat} {D : DV} (h : w.ownsMap Tryz.prog kt VE k n D) : w.ownsMap Tryz.prog kt VE k (Maps.size D) D := by
  obtain ⟨es, clock, hb, F, hs, hD⟩ := h
  refine ⟨es, clock, hb, F, ?_, hD⟩
  rw [hD]
  simp [Maps.size, length_sorted]
theorem MapV.lt (h : MapV w kt q k c g) : k < w.heap.size := by
  obtain ⟨D, hD, _⟩ := h
  exact hD.lt
theorem MapV.made (w : World) (kt : TypeId) (q : IntKind) : MapV (w.alloc (.map #[] 0)) kt q w.heap.size 0 fun _ => none :=
  ⟨_, World.ownsMap_made w Tryz.prog kt VE, Shw.nil q, rfl⟩
theorem MapV.block (h : MapV w kt q k c g) : ∃ es cl, w.heap[k]? = some (.map es cl) := by
  obtain ⟨D, ⟨es, cl, hb, _⟩, _⟩ := h
  exact ⟨es, cl, hb⟩
theorem MapV.same {w' : World} (h : MapV w kt q k c g) (hb : w'.heap[k]? = w.heap[k]?) : MapV w' kt q k c g := by
  obtain ⟨D, ⟨es, cl, h1, r⟩, h2⟩ := h
  exact ⟨D, ⟨es, cl, hb.trans h1, r⟩, h2⟩
theorem MapV.kept {S : Nat → Prop} {w' : World} (h : MapV w kt q k c g) (hp : Part S w w') (hk : ¬ S k) : MapV w' kt q k c g := h.same (hp.block k h.lt hk)
theorem MapV.some_pos (h : MapV w kt q k c g) {n : Int} {v : Value} (hg : g n = some v) : 0 < c := by
  obtain ⟨D, hD, hS, hc⟩ := h
  rcases Nat.eq_zero_or_pos c with h0 | h0
  · have h1 := hS.has_ n
    rw [hg] at h1
    obtain ⟨es, e, _⟩ := hS.tidy
    rw [e] at h1 hc
    rw [h0] at hc
    have : es = [] := List.length_eq_zero_iff.1 hc
    rw [this] at h1
    cases h1
  · exact h0
theorem MapV.look (h : MapV w kt q k c g) (hk : Tryz.prog.underlying kt = some (.int q)) {t e : TypeId} (ht : Tryz.prog.underlying t = some (.map kt e)) {z : Value} (hz : (zeroValue e).run Tryz.prog w = .ok z w) {n : Int} (hn : (KL q n).wf = true) :
    (Instr.lookup t (.map (some k)) (.int q n) false).run Tryz.prog w = .ok ((g n).getD z) w := by
  obtain ⟨D, hD, hS, _⟩ := h
  obtain ⟨v, ps, hrun, hv⟩ := hD.lookup (int_keyed hk) ht hz (zd := .held z) (zp := []) rfl (keyOf_int_mk hk hn)
  have := VE_inv hv
  rw [hS.at_] at this
  injection this with this
  rw [this]
  exact hrun
theorem MapV.look_ok (h : MapV w kt q k c g) (hk : Tryz.prog.underlying kt = some (.int q)) {t e : TypeId} (ht : Tryz.prog.underlying t = some (.map kt e)) {z : Value} (hz : (zeroValue e).run Tryz.prog w = .ok z w) {n : Int} (hn : (KL q n).wf = true) :
    (Instr.lookup t (.map (some k)) (.int q n) true).run Tryz.prog w = .ok (.tuple #[(g n).getD z, .bool (g n).isSome]) w := by
  obtain ⟨D, hD, hS, _⟩ := h
  obtain ⟨v, ps, hrun, hv⟩ := hD.look_ok (int_keyed hk) ht hz (zd := .held z) (zp := []) rfl (keyOf_int_mk hk hn)
  have := VE_inv hv
  rw [hS.at_] at this
  injection this with this
  rw [hS.has_] at hrun
  rw [this]
  exact hrun
theorem MapV.drop (h : MapV w kt q k c g) (hk : Tryz.prog.underlying kt = some (.int q)) {t e : TypeId} (ht : Tryz.prog.underlying t = some (.map kt e)) {n : Int} (hn : (KL q n).wf = true) (ty : TypeId) :
    ∃ w', (Builtin.delete_ #[t, kt] ty #[.map (some k), .int q n]).run Tryz.prog w = .ok (.tuple #[]) w' ∧ MapV w' kt q k (c - if (g n).isSome = true then 1 else 0) (delV g n) ∧ w.grownBy w' (some k) ∧ w'.heap.size = w.heap.size := by
  obtain ⟨D, hD, hS, hc⟩ := h
  obtain ⟨w', hrun, hD', hT⟩ := hD.drop (int_keyed hk) ht (keyOf_int_mk hk hn) ty
  have hs := size_del (k := KL q n) hS.tidy
  rw [hS.has_ n, hc] at hs
  have e : Maps.size (D.del (KL q n)) = c - if (g n).isSome = true then 1 else 0 := by omega
  have h1 := tight hD'
  rw [e] at h1
  refine ⟨w', hrun, ⟨_, h1, hS.del n, e⟩, hT.grown, ?_⟩
  obtain ⟨es, cl, es', cl', _, rfl⟩ := hT
  simp [Go.ChangeMaps.setBlock]
theorem MapV.store (h : MapV w kt q k c g) (hk : Tryz.prog.underlying kt = some (.int q)) {t e : TypeId} (ht : Tryz.prog.underlying t = some (.map kt e)) {n : Int} (hn : (KL q n).wf = true) (hc9 : c < maxLen) (v : Value) :
    ∃ w', (Instr.mapUpdate t (.map (some k)) (.int q n) v).run Tryz.prog w = .ok () w' ∧ MapV w' kt q k (if (g n).isSome = true then c else c + 1) (putV g n v) ∧ w.grownBy w' (some k) ∧ w'.heap.size = w.heap.size := by
  obtain ⟨D, hD, hS, hc⟩ := h
  obtain ⟨w', hrun, hD', hT⟩ := hD.store (int_keyed hk) ht hc9 (keyOf_int_mk hk hn) (val := v) (d := .held v) (ps := []) rfl
  have e : Maps.size (D.put (KL q n) (.held v)) = if (g n).isSome = true then c else c + 1 := by rw [size_put hS.tidy, hS.has_ n, hc]
  have h1 := tight hD'
  rw [e] at h1
  refine ⟨w', hrun, ⟨_, h1, hS.put hn v, e⟩, hT.grown, ?_⟩
  obtain ⟨es, cl, es', cl', _, rfl⟩ := hT
  simp [Go.ChangeMaps.setBlock]
end
section
variable (w : World) {ops : Array Oper} {rest : List Oper} {o : Oper} {a : Act} {Q : Exit → Act → World → Prop} {kt e : TypeId} {q : IntKind} {k c : Nat} {g : VM}
theorem wpl_del (hg : o.guard = none) (m x : Operand) (t : TypeId) (hop : o.op = Op.call { callee := Callee.builtin Builtin.delete, args := #[m, x], argTypes := #[t, kt] }) (hk : Tryz.prog.underlying kt = some (.int q)) (ht : Tryz.prog.underlying t = some (.map kt e))
    (hm : a.eval m = .map (some k)) (h : MapV w kt q k c g) {n : Int} (hx : a.eval x = .int q n) (hn : (KL q n).wf = true)
    (hK : ∀ w', MapV w' kt q k (c - if (g n).isSome = true then 1 else 0) (delV g n) → w.grownBy w' (some k) → w'.heap.size = w.heap.size → wpList Tryz.prog ops Q rest (a.put o.dst (.tuple #[])) w') : wpList Tryz.prog ops Q (o :: rest) a w := by
  refine wpList_plain hg fun K' hK' => ?_
  obtain ⟨w', hrun, h1, h2, h3⟩ := h.drop hk ht hn o.type
  unfold Oper.wp
  simp [execOp, hop, resolve, invoke, builtin, hm, hx, hrun, Result.andThen]
  exact hK' _ _ (hK w' h1 h2 h3)
theorem wpl_put (hg : o.guard = none) (m x v : Operand) (t : TypeId) (hop : o.op = Op.mapUpdate t m x v) (hk : Tryz.prog.underlying kt = some (.int q)) (ht : Tryz.prog.underlying t = some (.map kt e))
    (hm : a.eval m = .map (some k)) (h : MapV w kt q k c g) (hc9 : c < maxLen) {n : Int} {u : Value} (hx : a.eval x = .int q n) (hn : (KL q n).wf = true) (hv : a.eval v = u)
    (hK : ∀ w', MapV w' kt q k (if (g n).isSome = true then c else c + 1) (putV g n u) → w.grownBy w' (some k) → w'.heap.size = w.heap.size → wpList Tryz.prog ops Q rest (a.put o.dst undef) w') : wpList Tryz.prog ops Q (o :: rest) a w := by
  refine wpList_plain hg fun K' hK' => ?_
  obtain ⟨w', hrun, h1, h2, h3⟩ := h.store hk ht hn hc9 u
  unfold Oper.wp
  simp [execOp, hop, hm, hx, hv, hrun, Result.andThen]
  exact hK' _ _ (hK w' h1 h2 h3)
end
end
end Go.Proofs.YtnlkdlnmffibhaaGreat
