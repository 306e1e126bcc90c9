/- SendqFloor: what is told flies; where the floor is behind an answer. -/
import Derived.Test.YtbkepkiaabeliaaQ50
import Derived.Test.YtbkepkiaabeliaaQ42
import Derived.Test.YtbkepkiaabeliaaQ31
namespace Go.Proofs.Ytbkepkiaabeliaa
open Go.RowKit Go.Maps
set_option linter.unusedVariables false

theorem take_told {now : Int} {n : Nat} : ∀ (k i : Nat) (es : List En) (r : Int) (t : List CZ), (∀ c ∈ t, ∃ (j : Nat) (e : En), es[j]? = some e ∧ e.c = c ∧ e.st = 1) → ∀ c ∈ (takeGo now n k i es r t).2, ∃ (j : Nat) (e : En), (takeGo now n k i es r t).1[j]? = some e ∧ e.c = c ∧ e.st = 1
  | 0, i, es, r, t, h => h
  | k + 1, i, es, r, t, h => by
    cases he : es[ixD n i]? with
    | none =>
      have : takeGo now n (k + 1) i es r t = (es, t) := by rw [takeGo, he]
      rw [this]
      exact h
    | some e =>
      by_cases hs : e.st = phD n i
      · by_cases hr : r < (e.c.da.2.1 : Int)
        · rw [takeGo_full he hs hr]
          exact h
        · rw [takeGo_yes he hs hr]
          refine take_told k (i + 1) _ _ _ (fun c hc => ?_)
          have hl := (List.getElem?_eq_some_iff.1 he).1
          rcases List.mem_append.1 hc with hc | hc
          · obtain ⟨j, e', h1, h2, h3⟩ := h c hc
            have hne : ixD n i ≠ j := fun hj => by
              subst hj
              rw [he] at h1
              injection h1 with h1
              subst h1
              rw [h3] at hs
              unfold phD at hs
              split at hs <;> exact absurd hs (by decide)
            exact ⟨j, e', by rw [List.getElem?_set, if_neg hne]; exact h1, h2, h3⟩
          · rw [List.mem_singleton.1 hc]
            exact ⟨ixD n i, sendE now e, by rw [List.getElem?_set, if_pos rfl, if_pos hl], rfl, rfl⟩
      · rw [takeGo_no he hs]
        exact take_told k (i + 1) es r t h
theorem State_qs {w W : World} {b : Nat} {G : Gq} {q : Qm} (h : QS w b G q W) (n : Int) : Calls Try.prog 21 #[.pointer (some ⟨b, 0, none⟩), .int .u32 n] W fun e w' => e = .returned (stOut (stI q n)) ∧ ∃ k, w' = W.drewN k := by
  have hb := h.gb
  subst hb
  exact State_any h.qa n
theorem take_flr {q : Qm} (now room : Int) : flr (tkQ q now room) = flr q ∧ (tkQ q now room).es.length = q.es.length := by
  have h := (take_a (q.es.length + q.es.length) q.es.length now 0 q.es room []).2
  have h2 : (tkQ q now room).es.length = q.es.length := h
  refine ⟨?_, h2⟩
  unfold flr
  rw [h2]
  rfl
/-- What is told flies, and has not been reached. -/
theorem told_state {q : Qm} (hn : Nums q) (hle : q.es.length ≤ 1024) {i : Nat} {e : En} (he : q.es[i]? = some e) : stI q e.c.a = some e ∧ less32 (flr q) e.c.a = true := by
  have hi := (List.getElem?_eq_some_iff.1 he).1
  have hd : dist32 (flr q) e.c.a = ((i + 1 : Nat) : Int) := dist_of _ _ (i + 1) (by omega) (by rw [hn i e he]; congr 1; omega)
  have hs : stp q e.c.a = i + 1 := by
    unfold stp
    rw [hd, if_pos (by omega)]
    omega
  refine ⟨?_, ?_⟩
  · unfold stI
    rw [hs, if_neg (by omega), Nat.add_sub_cancel, he]
  · unfold less32 lessI
    rw [decide_eq_true_eq]
    have : dist 4294967296 (flr q) e.c.a = ((i + 1 : Nat) : Int) := hd
    omega
theorem take_len {now : Int} {n : Nat} : ∀ (k i : Nat) (es : List En) (r : Int) (t : List CZ), (takeGo now n k i es r t).2.length ≤ t.length + k
  | 0, i, es, r, t => Nat.le_refl _
  | k + 1, i, es, r, t => by
    rw [takeGo]
    split
    · exact Nat.le_add_right _ _
    · split
      · split
        · exact Nat.le_add_right _ _
        · have := take_len (now := now) (n := n) k (i + 1) (es.set (ixD n i) (sendE now ‹En›)) (r - (‹En›.c.da.2.1 : Int)) (t ++ [‹En›.c])
          rw [List.length_append, List.length_singleton] at this
          omega
      · have := take_len (now := now) (n := n) k (i + 1) es r t
        omega
theorem fl_take {w W : World} {b : Nat} {G : Gq} {q : Qm} (h : QS w b G q W) (now room : Int) (hr : room < 9223372036854775808) : Calls Try.prog 19 #[.pointer (some ⟨b, 0, none⟩), .int .i64 now, .int .i64 room] W fun e w' => ∃ t1 n c q', e = .returned (.slice t1 n c) ∧ Hid (n ≤ 2048) ∧ Hid (QS w b G q' w' ∧ flr q' = flr q ∧ q'.es.length = q.es.length) ∧ Hid (∀ i, i < n → ∃ go o a, t1 = some ⟨go, o, none⟩ ∧ w'.cell? ⟨go, o + i * 12 + 2, none⟩ = some (.int .u32 a) ∧ less32 (flr q) a = true ∧ ∃ e, stI q' a = some e ∧ e.st = 1) := by
  refine (Take_qs h now room hr).mono ?_
  rintro e w' ⟨⟨t1, t2, t3⟩, ys, rfl, hh⟩
  obtain ⟨ht, hq2⟩ := hh.out
  obtain ⟨f1, f2⟩ := take_flr (q := q) now room
  have hn2 : t2 ≤ 2048 := by
    have h1 := take_len (now := now) (n := q.es.length) (q.es.length + q.es.length) 0 q.es room []
    have h2 := congrArg List.length ht.ct
    rw [List.length_map, List.length_map] at h2
    have h3 := ht.row.1
    rw [flatF_len CZ.len] at h3
    dsimp only at h3
    have h4 := h.qa.le
    have h5 : (takeQ q now room).2.length ≤ 0 + (q.es.length + q.es.length) := h1
    omega
  refine ⟨t1, t2, t3, tkQ q now room, rfl, keep hn2, keep ⟨hq2, f1, f2⟩, keep fun i hi => ?_⟩
  have hzs : ZS w' (t1, t2, t3) ys := ⟨LR.of_own CZ.len (by decide) ht.row, fun y hy => (ht.zs y hy).1⟩
  obtain ⟨go, o, x, e1, _, e3, e4, _⟩ := hzs.at_ (j := i) hi
  have hct := congrArg (fun l => l[i]?) ht.ct
  rw [List.getElem?_map, e4, List.getElem?_map] at hct
  cases hx : (takeQ q now room).2[i]? with
  | none => rw [hx] at hct; cases hct
  | some c =>
    rw [hx] at hct
    injection hct with hct
    have ha : x.a = c.a := congrArg Ct.a hct
    obtain ⟨j, e, g1, g2, g3⟩ := take_told (now := now) (n := q.es.length) (q.es.length + q.es.length) 0 q.es room [] (fun c hc => by cases hc) c (List.mem_of_getElem? hx)
    obtain ⟨k1, k2⟩ := told_state (q := tkQ q now room) hq2.nu hq2.qa.le (i := j) (e := e) g1
    rw [f1] at k2
    refine ⟨go, o, x.a, e1, e3.2.2.1, ?_, e, ?_, g3⟩
    · rw [ha, ← g2]
      exact k2
    · rw [ha, ← g2]
      exact k1
theorem ackE_len (q : Qm) (cum : Int) (bl : List (Int × Int)) : (ackE q cum bl).length = q.es.length - stp q cum := by
  have h1 : (midL q cum bl).length = q.es.length - stp q cum := by unfold midL leftL; rw [List.length_mapIdx, List.length_drop]
  unfold ackE
  split
  · exact h1
  · rw [List.length_mapIdx, h1]
theorem ack_floor {q : Qm} {cum : Int} (hc : 0 ≤ cum ∧ cum < 4294967296) (bl : List (Int × Int)) (hre : reachedB q cum = true) : flr (ackQ q cum bl) = cum ∧ dist32 (flr q) cum = ((q.es.length - (ackQ q cum bl).es.length : Nat) : Int) ∧ (ackQ q cum bl).es.length ≤ q.es.length := by
  have h1 := reached_flr (q := q) (cum := cum) hc hre
  have hl := ackE_len q cum bl
  have hs := stp_le q cum
  have h2 : flr (ackQ q cum bl) = flr (cutQ q (stp q cum)) := by
    unfold flr
    show (q.nx - ((ackE q cum bl).length : Int) - 1) % 4294967296 = (q.nx - ((q.es.drop (stp q cum)).length : Int) - 1) % 4294967296
    rw [hl, List.length_drop]
  have h3 : (ackQ q cum bl).es.length = q.es.length - stp q cum := hl
  refine ⟨h2.trans h1, ?_, by omega⟩
  rw [h3, show q.es.length - (q.es.length - stp q cum) = stp q cum by omega]
  rw [cut_flr q _ hs] at h1
  refine dist_of _ _ _ ?_ h1.symm
  have h4 : (stp q cum : Int) ≤ dist32 (flr q) cum := by
    unfold stp
    have := dist32_lo (flr q) cum
    split <;> omega
  have := dist32_hi (flr q) cum
  omega
theorem fl_ack {w W : World} {b : Nat} {G : Gq} {q : Qm} (h : QS w b G q W) (cum now : Int) (hcum : 0 ≤ cum ∧ cum < 4294967296) (s0 : SL) (bl : List (Int × Int)) (hl : LR blC w s0 bl) (hn : s0.2.1 ≤ 1000000) (hok : BlOK bl) (hre : reachedB q cum = true) :
    Calls Try.prog 23 #[.pointer (some ⟨b, 0, none⟩), .int .u32 cum, .slice s0.1 s0.2.1 s0.2.2, .int .i64 now] W fun e w' => ∃ by_ sa lo mo, e = .returned (.tuple #[.agg #[.int .i64 by_, .int .i64 sa, .bool lo, .bool mo], .bool true]) ∧ ∃ G', Hid (QS w b G' (ackQ q cum bl) w' ∧ Part G.O W w' ∧ ∀ i, G'.O i ↔ G.O i) ∧ Hid (∀ i, G'.F i ↔ G.F i) := by
  have hap : InF (fun k => W.heap.size ≤ k ∨ k < w.heap.size) s0.1 ∨ bl = [] := by
    by_cases h0 : bl = []
    · exact .inr h0
    · left
      intro a ea
      have hne : flatF blC bl ≠ [] := by
        intro h1
        have h2 := flatF_len blC_len bl
        rw [h1] at h2
        have : bl.length ≠ 0 := fun h => h0 (List.eq_nil_of_length_eq_zero h)
        simp at h2
        omega
      obtain ⟨b5, o5, e1, e2, _⟩ := hl.2.2 hne
      rw [ea] at e1
      injection e1 with e1
      rw [e1]
      exact .inr e2
  refine (Ack_qs h cum now hcum s0 bl (hl.kept (ok := fun _ => True) (Kpt.of_below h.bl) (InF.all _)) hap hn hok hre).mono ?_
  rintro e w' ⟨rfl, hh⟩
  exact ⟨_, _, _, _, rfl, _, keep ⟨hh.out.1, hh.out.2, fun i => Iff.rfl⟩, keep fun i => Iff.rfl⟩
theorem fl_ack2 {w W : World} {b : Nat} {G : Gq} {q : Qm} (h : QS w b G q W) (cum now : Int) (hcum : 0 ≤ cum ∧ cum < 4294967296) (s0 : SL) (bl : List (Int × Int)) (hl : LR blC w s0 bl) (hn : s0.2.1 ≤ 1000000) (hok : BlOK bl) (hre : reachedB q cum = true) :
    Calls Try.prog 23 #[.pointer (some ⟨b, 0, none⟩), .int .u32 cum, .slice s0.1 s0.2.1 s0.2.2, .int .i64 now] W fun e w' => ∃ by_ sa lo mo G' q' d, e = .returned (.tuple #[.agg #[.int .i64 by_, .int .i64 sa, .bool lo, .bool mo], .bool true]) ∧ Hid (QS w b G' q' w' ∧ Part G.O W w' ∧ ∀ i, G'.O i ↔ G.O i) ∧ Hid (∀ i, G'.F i ↔ G.F i) ∧ Hid (flr q' = cum ∧ dist32 (flr q) cum = ((d : Nat) : Int) ∧ q.es.length = q'.es.length + d) := by
  obtain ⟨a1, a2, a3⟩ := ack_floor (q := q) hcum bl hre
  refine (fl_ack h cum now hcum s0 bl hl hn hok hre).mono ?_
  rintro e w' ⟨by_, sa, lo, mo, rfl, G', h1, h2⟩
  exact ⟨by_, sa, lo, mo, G', _, _, rfl, h1, h2, keep ⟨a1, a2, (Nat.add_sub_of_le a3).symm⟩⟩
theorem fl_no {w W : World} {b : Nat} {G : Gq} {q : Qm} (h : QS w b G q W) (cum now : Int) (s0 : SL) (hre : reachedB q cum = false) : Calls Try.prog 23 #[.pointer (some ⟨b, 0, none⟩), .int .u32 cum, .slice s0.1 s0.2.1 s0.2.2, .int .i64 now] W fun e w' => e = .returned ackNone ∧ Hid (QS w b G q w' ∧ Below W.heap.size W w') := by
  have hb := h.gb
  subst hb
  refine (Ack_no h.qa cum now s0 hre).mono ?_
  rintro e w' ⟨rfl, h1⟩
  exact ⟨rfl, keep ⟨h.step h1, h1⟩⟩
end Go.Proofs.Ytbkepkiaabeliaa
