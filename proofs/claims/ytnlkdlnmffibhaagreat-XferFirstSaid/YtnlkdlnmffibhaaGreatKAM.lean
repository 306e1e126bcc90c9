/- KAM of the stage: texts Q32, Q39, Q41, Q42, Q43, Q44, joined. -/
import Derived.Test.YtnlkdlnmffibhaaGreatKAL
import Derived.Test.YtnlkdlnmffibhaaGreatKAE
import Derived.BigRegionIn
import Derived.Test.YtnlkdlnmffibhaaGreatKAD
import Derived.Test.YtnlkdlnmffibhaaGreatKAH
set_option linter.unusedSimpArgs false
set_option linter.unusedVariables false
set_option maxRecDepth 8000
namespace Go.Proofs.YtnlkdlnmffibhaaGreat
section
open Go.RowKit Go.Maps
def lenE (e : En) : Nat := e.c.da.2.1
def octsL (es : List En) (sts : List Int) : Nat := ((es.filter fun e => decide (e.st ∈ sts)).map lenE).sum
theorem octs_take (es : List En) (sts : List Int) : ∀ k, sumF (octF es sts) k = octsL (es.take k) sts
  | 0 => by simp [sumF, octsL]
  | k + 1 => by
    rw [sumF, octs_take es sts k, List.take_add_one]
    unfold octF octsL
    cases he : es[k]? with
    | none => simp
    | some e =>
      dsimp only
      rw [Option.toList_some, List.filter_append, List.map_append, List.sum_append]
      by_cases hs : e.st ∈ sts
      · rw [if_pos hs, List.filter_cons_of_pos (by simpa using hs)]
        simp [lenE]
      · rw [if_neg hs, List.filter_cons_of_neg (by simpa using hs)]
        simp
theorem octs_eq (es : List En) (sts : List Int) : octs es sts = octsL es sts := by
  unfold octs
  rw [octs_take, List.take_length]
theorem octsL_app (a b : List En) (sts : List Int) : octsL (a ++ b) sts = octsL a sts + octsL b sts := by simp [octsL]
theorem octsL_all {es : List En} {sts : List Int} (h : ∀ e ∈ es, e.st ∈ sts) : octsL es sts = (es.map lenE).sum := by
  unfold octsL
  rw [List.filter_eq_self.2 fun e he => decide_eq_true (h e he)]
theorem octsL_none {es : List En} {sts : List Int} (h : ∀ e ∈ es, ¬ e.st ∈ sts) : octsL es sts = 0 := by
  unfold octsL
  rw [List.filter_eq_nil_iff.2 fun e he => by simpa using h e he]
  rfl
theorem take_skip {now : Int} {n : Nat} : ∀ (i k : Nat) (es : List En) (r : Int) (t : List CZ), es.length = n → i + k ≤ n → (∀ e ∈ es, e.st = 0) → ∀ m, takeGo now n (k + m) i es r t = takeGo now n m (i + k) es r t
  | i, 0, es, r, t, _, _, _, m => by rw [Nat.zero_add, Nat.add_zero]
  | i, k + 1, es, r, t, hl, hk, hz, m => by
    have he : es[ixD n i]? = some es[i] := by
      rw [show ixD n i = i by unfold ixD; rw [if_pos (by omega)]]
      exact List.getElem?_eq_getElem (by omega)
    rw [show k + 1 + m = (k + m) + 1 by omega, takeGo_no he (by
      rw [hz _ (List.getElem_mem _)]
      unfold phD
      rw [if_pos (by omega)]
      decide), take_skip (i + 1) k es r t hl (by omega) hz m, show i + 1 + k = i + (k + 1) by omega]
structure Tk (now : Int) (es : List En) (j : Nat) (r : Int) (t : List CZ) (R : List En × List CZ) (d : Nat) : Prop where
  hd : j + d ≤ es.length
  o : R.1 = es.take j ++ ((es.drop j).take d).map (sendE now) ++ es.drop (j + d)
  c : R.2 = t ++ ((es.drop j).take d).map En.c
  fit : d = 0 ∨ ((((es.drop j).take d).map lenE).sum : Int) ≤ r
  full : ∀ e, es[j + d]? = some e → r < ((((es.drop j).take d).map lenE).sum : Int) + (lenE e : Int)
theorem take_tk {now : Int} {n : Nat} : ∀ (k j : Nat) (es : List En) (r : Int) (t : List CZ), es.length = n → j + k = n → (∀ i e, j ≤ i → es[i]? = some e → e.st = 0) → ∃ d, Tk now es j r t (takeGo now n k (n + j) es r t) d
  | 0, j, es, r, t, hl, hk, hz => ⟨0, by omega, by simp [takeGo], by simp [takeGo], .inl rfl, fun e he => by
      have := (List.getElem?_eq_some_iff.1 he).1
      omega⟩
  | k + 1, j, es, r, t, hl, hk, hz => by
    have hj : j < es.length := by omega
    have hix : ixD n (n + j) = j := by unfold ixD; rw [if_neg (by omega)]; omega
    have he : es[ixD n (n + j)]? = some es[j] := by rw [hix]; exact List.getElem?_eq_getElem hj
    have hst : (es[j]).st = phD n (n + j) := by
      unfold phD
      rw [if_neg (by omega)]
      exact hz j _ (Nat.le_refl _) (List.getElem?_eq_getElem hj)
    by_cases hr : r < ((es[j]).c.da.2.1 : Int)
    · rw [takeGo_full he hst hr]
      refine ⟨0, by omega, by simp, by simp, .inl rfl, fun e he' => ?_⟩
      rw [Nat.add_zero, List.getElem?_eq_getElem hj] at he'
      injection he' with he'
      subst he'
      simpa [lenE] using hr
    · rw [takeGo_yes he hst hr, hix, show n + j + 1 = n + (j + 1) by omega]
      have hset : ∀ (i : Nat), (es.set j (sendE now es[j]))[i]? = if i = j then some (sendE now es[j]) else es[i]? := fun i => by
        rw [List.getElem?_set]
        by_cases h : j = i
        · subst h
          rw [if_pos rfl, if_pos hj, if_pos rfl]
        · rw [if_neg h, if_neg (fun x => h x.symm)]
      obtain ⟨d, h1, h2, h3, h4, h5⟩ := take_tk (now := now) (n := n) k (j + 1) (es.set j (sendE now es[j])) (r - ((es[j]).c.da.2.1 : Int)) (t ++ [(es[j]).c]) (by rw [List.length_set]; exact hl) (by omega) (fun i e hi he' => by
        rw [hset, if_neg (by omega)] at he'
        exact hz i e (by omega) he')
      have hdrop : ∀ m, j < m → (es.set j (sendE now es[j])).drop m = es.drop m := fun m hm => List.drop_set_of_lt hm
      have htake : (es.set j (sendE now es[j])).take (j + 1) = es.take j ++ [sendE now es[j]] := by
        rw [List.take_add_one, List.take_set_of_le (Nat.le_refl _), hset, if_pos rfl]
        rfl
      rw [hdrop _ (by omega)] at h2 h3 h4 h5
      rw [hdrop _ (by omega), htake] at h2
      have hcons : es.drop j = es[j] :: es.drop (j + 1) := List.drop_eq_getElem_cons hj
      rw [Nat.add_right_comm j 1 d] at h1 h2
      rw [List.length_set] at h1
      refine ⟨d + 1, by omega, ?_, ?_, .inr ?_, fun e he' => ?_⟩
      · rw [h2, hcons, List.take_succ_cons, List.map_cons, show j + (d + 1) = j + d + 1 by omega]
        simp
      · rw [h3, hcons, List.take_succ_cons, List.map_cons]
        simp
      · rw [hcons, List.take_succ_cons, List.map_cons, List.sum_cons]
        rcases h4 with h4 | h4
        · subst h4
          simp [lenE]
          omega
        · unfold lenE at h4 ⊢
          omega
      · have h6 := h5 e (by
          rw [hset, if_neg (by omega), show j + 1 + d = j + (d + 1) by omega]
          exact he')
        rw [hcons, List.take_succ_cons, List.map_cons, List.sum_cons]
        unfold lenE at h6 ⊢
        omega
theorem take_new {q : Qm} (hz : ∀ e ∈ q.es, e.st = 0) (now room : Int) : ∃ d, Tk now q.es 0 room [] (takeQ q now room) d := by
  unfold takeQ
  have h1 := take_skip (now := now) (n := q.es.length) 0 q.es.length q.es room [] rfl (by omega) hz q.es.length
  rw [Nat.zero_add] at h1
  rw [h1]
  have h2 := take_tk (now := now) (n := q.es.length) q.es.length 0 q.es room [] rfl (by omega) (fun i e _ he => hz e (List.mem_of_getElem? he))
  rwa [Nat.add_zero] at h2
theorem room_octs {q : Qm} (hz : ∀ e ∈ q.es, e.st = 0) {now room : Int} {d : Nat} (h : Tk now q.es 0 room [] (takeQ q now room) d) : octs (takeQ q now room).1 [1] = ((q.es.take d).map lenE).sum ∧ octs (takeQ q now room).1 [2, 0] = ((q.es.drop d).map lenE).sum := by
  have ho := h.o
  rw [List.take_zero, List.nil_append, List.drop_zero, Nat.zero_add] at ho
  have hs : ∀ e ∈ (q.es.take d).map (sendE now), e.st = 1 := fun e he => by
    obtain ⟨x, _, rfl⟩ := List.mem_map.1 he
    rfl
  have hl : ∀ l : List En, (l.map (sendE now)).map lenE = l.map lenE := fun l => by
    rw [List.map_map]
    rfl
  have hd : ∀ e ∈ q.es.drop d, e.st = 0 := fun e he => hz e (List.mem_of_mem_drop he)
  rw [ho, octs_eq, octs_eq, octsL_app, octsL_app]
  constructor
  · rw [octsL_all (fun e he => by rw [hs e he]; decide), octsL_none (es := q.es.drop d) (fun e he => by rw [hd e he]; decide), hl]
    rfl
  · rw [octsL_none (fun e he => by rw [hs e he]; decide), octsL_all (es := q.es.drop d) (fun e he => by rw [hd e he]; decide), Nat.zero_add]
theorem and1023 (i : Int) : ∃ k : Nat, bits .and .i64 i 1023 = (k : Int) ∧ k < 1024 := by
  have h := and_i64 i 10 (by decide)
  refine ⟨(i % 1024).toNat, ?_, by omega⟩
  rw [show ((2 ^ 10 - 1 : Nat) : Int) = 1023 by decide] at h
  rw [h]
  omega
end
section
open Go.RowKit Go.Maps
attribute [local go_sem] Oper.semAt_some
theorem in_x {ps : List Nat} {sts : List Int} {i : Nat} {A B : World} {N : Nat} (st : StN N A B) (h : InX ps sts i A) : InX ps sts i B := by
  obtain ⟨p, y, h1, h2, h3⟩ := h
  exact ⟨p, y, h1, st.cell h2, h3⟩
end
section
open Go.RowKit Go.Maps
attribute [local go_sem] Oper.semAt_some
def expB (now : Int) (e : En) (g : Mg) : Bool := (decide (0 ≤ g.un) && decide (g.un < now)) || (decide (0 ≤ g.tr) && (e.st == 2) && decide (g.tr < e.sn))
set_option maxHeartbeats 8000000 in
theorem expired_at (p m : Nat) (now : Int) (st sn un tr : Int) (w : World) (u1 u2 t1 t2 t3 : Bool) (hu1 : decide (0 ≤ un) = u1) (hu2 : decide (un < now) = u2) (ht1 : decide (0 ≤ tr) = t1) (ht2 : (st == 2) = t2) (ht3 : decide (tr < sn) = t3) (c12 : w.cell? ⟨p, 12, none⟩ = some (.pointer (some ⟨m, 0, none⟩))) (c13 : w.cell? ⟨p, 13, none⟩ = some (.int .i64 st)) (c14 : w.cell? ⟨p, 14, none⟩ = some (.int .i64 sn)) (m0 : w.cell? ⟨m, 0, none⟩ = some (.int .i64 un)) (m1 : w.cell? ⟨m, 1, none⟩ = some (.int .i64 tr)) :
    Calls Tryz.prog 38 #[.pointer (some ⟨p, 0, none⟩), .int .i64 now] w fun e w' => e = .returned (.bool ((u1 && u2) || (t1 && t2 && t3))) ∧ ∃ k, w' = w.drewN k := by
  cases u1 <;> cases u2 <;> cases t1 <;> cases t2 <;> cases t3
  all_goals
    go_enter Tryz.func38, Tryz.ntmps38
    go_wp2
    go_quiet (fail)
    go_wp2
    go_ret
    exact ⟨rfl, _, rfl⟩
end
section
open Go.RowKit Go.Maps
attribute [local go_sem] Oper.semAt_some
def setGv (mg : Nat → Mg) (m : Nat) : Nat → Mg := fun x => if x = m then ⟨(mg m).un, (mg m).tr, true⟩ else mg x
def exC (now : Int) (mg : Nat → Mg) (e : En) : Bool := (e.st == 0 || e.st == 1 || e.st == 2) && !(mg e.m).gv && expB now e (mg e.m)
def exM (now : Int) (es : List En) (mg : Nat → Mg) : Nat → Nat → Mg
  | 0 => mg
  | i + 1 => match es[i]? with | some e => if exC now (exM now es mg i) e = true then setGv (exM now es mg i) e.m else exM now es mg i | none => exM now es mg i
def exN (now : Int) (es : List En) (mg : Nat → Mg) : Nat → Nat
  | 0 => 0
  | i + 1 => exN now es mg i + match es[i]? with | some e => if exC now (exM now es mg i) e = true then 1 else 0 | none => 0
theorem exN_le (now : Int) (es : List En) (mg : Nat → Mg) : ∀ i, exN now es mg i ≤ i
  | 0 => Nat.le_refl _
  | i + 1 => by
    have := exN_le now es mg i
    rw [exN]
    split
    · split <;> omega
    · omega
theorem exM_yes {now : Int} {es : List En} {mg : Nat → Mg} {i : Nat} {e : En} (he : es[i]? = some e) (h : exC now (exM now es mg i) e = true) : exM now es mg (i + 1) = setGv (exM now es mg i) e.m ∧ exN now es mg (i + 1) = exN now es mg i + 1 := by
  constructor
  · rw [exM, he]
    dsimp only
    rw [if_pos h]
  · rw [exN, he]
    dsimp only
    rw [if_pos h]
theorem exM_no {now : Int} {es : List En} {mg : Nat → Mg} {i : Nat} {e : En} (he : es[i]? = some e) (h : ¬ exC now (exM now es mg i) e = true) : exM now es mg (i + 1) = exM now es mg i ∧ exN now es mg (i + 1) = exN now es mg i := by
  constructor
  · rw [exM, he]
    dsimp only
    rw [if_neg h]
  · rw [exN, he]
    dsimp only
    rw [if_neg h]
    rfl
def gvE (mg : Nat → Mg) (e : En) : En := if (e.st = 0 ∨ e.st = 1 ∨ e.st = 2 ∨ e.st = 3) ∧ (mg e.m).gv = true then { e with st := 4 } else e
theorem LQ.start2 {w A : World} {G : Gq} {nx : Int} {S : Nat} {es : List En} {mg : Nat → Mg} (h : QA A G ⟨es, nx, mg⟩) (hp : Part G.O w A) (hS : A.heap.size = S) (sts : List Int) : LQ w G nx S sts (es.map En.p) es mg (((A.alloc (.cells (sts.map (Value.int .i64)).toArray 3)).alloc (.cells #[.slice G.s.1 G.s.2.1 G.s.2.2] 89)).alloc (.cells #[.slice (some ⟨S, 0, none⟩) sts.length sts.length] 23)) :=
  ⟨h.step (below_in A _ _ _), rfl, InB.start A S hS G.s sts, hp.trans (Part.of_below (fun _ => False) (below_in A _ _ _)) fun _ h => h.elim⟩
theorem KeepsOthers.drewN (A : World) : ∀ k, KeepsOthers A (A.drewN k)
  | 0 => KeepsOthers.refl A
  | k + 1 => by
    have h := KeepsOthers.drewN A k
    exact h.trans (KeepsOthers.drew (A.drewN k))
structure ExJ (w : World) (G : Gq) (q : Qm) (now : Int) (i : Nat) (A : World) : Prop where
  lq : LQ w G q.nx (w.heap.size + 2) [0, 1, 2] (q.es.map En.p) q.es (exM now q.es q.mg i) A
  tb : A.heap[w.heap.size]? = some (.cells #[.int .i64 now] 3 (0, 0))
  nb : A.heap[w.heap.size + 1]? = some (.cells #[.int .i64 (exN now q.es q.mg i : Int)] 3 (0, 0))
structure ExK (w : World) (G : Gq) (q : Qm) (mg : Nat → Mg) (n : Nat) (S D : Nat) (i : Nat) (A : World) : Prop where
  lq : LQ w G q.nx S [0, 1, 2, 3] (q.es.map En.p) (updL (fun _ => gvE mg) q.es i) mg A
  nb : A.heap[w.heap.size + 1]? = some (.cells #[.int .i64 (n : Int)] 3 (0, 0))
  df : A.heap[D]? = some (.deferred (some []))
theorem st012 {x : Int} (h : x ∈ [(0 : Int), 1, 2]) : (x == 0 || x == 1 || x == 2) = true := by
  simp only [List.mem_cons, List.not_mem_nil, or_false] at h
  rcases h with rfl | rfl | rfl <;> rfl
set_option maxRecDepth 100000 in
set_option maxHeartbeats 4000000 in
theorem Expire_any {w : World} {G : Gq} {q : Qm} (h : QA w G q) (now : Int) :
    Calls Tryz.prog 19 #[.pointer (some ⟨G.b, 0, none⟩), .int .i64 now] w fun e w' => e = .returned (.int .i64 ((exN now q.es q.mg q.es.length : Nat) : Int)) ∧ QA w' G ⟨q.es.map (gvE (exM now q.es q.mg q.es.length)), q.nx, exM now q.es q.mg q.es.length⟩ ∧ Ltr w G w' G := by
  have F1 : Fence.wide.fn 37 := trivial
  have F2 : Fence.wide.fn 36 := trivial
  have F3 : Fence.wide.fn 38 := trivial
  have HL := keep (fun W (hb : Below w.heap.size w W) => list_at G.b _ _ _ W (h.step hb).b0.1)
  have HO := keep h.olt
  have HF := keep h.flt
  have HQ := keep h
  have hle := h.le
  clear h
  obtain ⟨mg', hmg⟩ : ∃ m, exM now q.es q.mg q.es.length = m := ⟨_, rfl⟩
  obtain ⟨nn, hnn⟩ : ∃ n, exN now q.es q.mg q.es.length = n := ⟨_, rfl⟩
  rw [hmg, hnn]
  have HMN := keep (And.intro hmg hnn)
  clear hmg hnn
  refine (callsIn_wide (n := 5)).1 ?_
  refine callsIn_of_wp_marks Tryz.func19 rfl trivial ?_ rfl
  simp only [Tryz.ntmps19, List.size_toArray, List.length_cons, List.length_nil, Nat.reduceAdd, Nat.reduceSub, Array.replicate_succ, Array.replicate_zero, List.push_toArray, List.append_toArray, List.nil_append, List.cons_append]
  gi_wp2_with (first
    | (gi_at_call 37; refine (callsIn_wide.2 (HL.out _ (up (below_lay w _) (below_lay _ _)))).mono ?_; rintro e w' ⟨rfl, rfl⟩)
    | (gi_at_call 36; refine (callsIn_wide.2 (in_any _ _ _ _ _ _ _)).mono ?_; rintro e w' ⟨rfl, rfl⟩))
  generalize hW1 : World.alloc _ _ = W1
  have J0 : ExJ w G q now 0 W1 := by
    rw [← hW1]
    exact ⟨LQ.start HQ.out (up (below_lay w _) (below_lay _ _)) (by simp) [0, 1, 2], below_new (below_new (below_new (below_new (heap_new_at rfl)))), below_new (below_new (below_new (heap_new_at (by simp))))⟩
  have hs1 : w.heap.size ≤ W1.heap.size := J0.lq.pt.size
  clear hW1
  have hps : (q.es.map En.p).length = q.es.length := List.length_map _
  refine rangeFunc_ix (n := 5) rfl (by omega) (gf := 71) (lb := #[.pointer (some ⟨w.heap.size + 1 + 1 + 1, 0, none⟩), .pointer (some ⟨w.heap.size + 1 + 1 + 1 + 1, 0, none⟩)]) rfl trivial (enters_of Tryz.func71 (by kernel_rfl) rfl) (N := (q.es.map En.p).length) (enc := encP (q.es.map En.p)) (fun _ => rfl)
    (InX (q.es.map En.p) [0, 1, 2]) (fun _ => InOwn (w.heap.size + 2 + 1) (w.heap.size + 2 + 2) G.s (some ⟨w.heap.size + 2, 0, none⟩, 3, 3) (q.es.map En.p) [0, 1, 2]) (fun _ _ => True)
    (ExJ w G q now) (fun _ _ => False)
    (in1_seq (5 - 1) (by omega) _ _ _ _ (q.es.map En.p) [0, 1, 2] (by rw [hps]; exact hle) (by decide) _ _)
    (fun i A B st h => ⟨h.lq.st st hs1, st.cells h.tb, st.cells h.nb⟩) (fun _ _ _ _ h => h) (fun i A B st h => in_x st h)
    (fun _ _ _ _ _ _ _ _ _ _ _ _ _ _ => trivial)
    (fun i A h => h.lq.own)
    (fun i A hi h hx => by
      obtain ⟨e, he, _⟩ := h.lq.get hi
      have hne := fun hh => hx ((h.lq.x he).2 hh)
      have hno : ¬ exC now (exM now q.es q.mg i) e = true := fun hc => hne (by
        unfold exC at hc
        rw [Bool.and_eq_true, Bool.and_eq_true, Bool.or_eq_true, Bool.or_eq_true, beq_iff_eq, beq_iff_eq, beq_iff_eq] at hc
        simp only [List.mem_cons, List.not_mem_nil, or_false]
        rcases hc.1.1 with (h1 | h1) | h1
        · exact .inl h1
        · exact .inr (.inl h1)
        · exact .inr (.inr h1))
      obtain ⟨e1, e2⟩ := exM_no he hno
      exact ⟨by rw [e1]; exact h.lq, h.tb, by rw [e2]; exact h.nb⟩)
    J0 ?round ?done (fun _ _ _ _ h _ => h.elim)
  case round =>
    rintro l i A hl hi hJ hx
    obtain ⟨e, he, hge⟩ := hJ.lq.get hi
    have hst := (hJ.lq.x he).1 hx
    simp only [Array.zip, encP]
    rw [hge]
    have HI := keep hi
    have HE := keep he
    have HST := keep (st012 hst)
    clear hJ hx he hge hi hst
    gi_wp2
    refine ⟨by first | rfl | trivial, fun A2 hJ2 hx2 => ?_⟩
    have he := HE.out
    have hea := hJ2.lq.qa.en e (List.mem_of_getElem? he)
    obtain ⟨c12, c13, c14, _, _⟩ := hea.1.c12
    obtain ⟨m0, m1, m2, f2⟩ := hea.2.2.1.at_
    have cn := upd_cell hJ2.nb 0 _ rfl
    have fn' := upd_fz hJ2.nb 0
    have ct := upd_cell hJ2.tb 0 _ rfl
    have hne : e.m ≠ w.heap.size := by have := HO.out _ hea.2.2.2; omega
    have hne1 : e.m ≠ w.heap.size + 1 := by have := HO.out _ hea.2.2.2; omega
    have hn0 : (0 : Int) ≤ (exN now q.es q.mg i : Int) := by omega
    have hn1 : (exN now q.es q.mg i : Int) ≤ 1024 := by
      have := exN_le now q.es q.mg i
      have := HI.out
      omega
    have HJ := keep hJ2
    have HMG := keep (show ∀ g, exM now q.es q.mg i e.m = g → exC now (exM now q.es q.mg i) e = (!g.gv && expB now e g) from fun g hg => by
      subst hg
      unfold exC
      rw [HST.out, Bool.true_and])
    obtain ⟨g, hg⟩ : ∃ g, exM now q.es q.mg i e.m = g := ⟨_, rfl⟩
    have HC := keep (HMG.out g hg)
    have HG := keep hg
    dsimp only at m0 m1 m2 hea
    rw [hg] at m0 m1 m2
    obtain ⟨un, tr, gv⟩ := g
    dsimp only at m0 m1 m2
    clear hJ2 hx2 he hg HMG hea
    cases gv with
    | true =>
      obtain ⟨e1, e2⟩ := exM_no HE.out (by rw [HC.out]; simp)
      have HE1 := keep (And.intro e1 e2)
      clear e1 e2
      gi_wp2
      exact ⟨(KeepsOthers.refl A2).from _, trivial, ⟨by rw [HE1.out.1]; exact HJ.out.lq, HJ.out.tb, by rw [HE1.out.2]; exact HJ.out.nb⟩⟩
    | false =>
      obtain ⟨r, hr⟩ : ∃ r, expB now e ⟨un, tr, false⟩ = r := ⟨_, rfl⟩
      have KE := expired_at e.p e.m now e.st e.sn un tr A2 _ _ _ _ _ rfl rfl rfl rfl rfl c12 c13 c14 m0 m1
      have hr2 : ((decide (0 ≤ un) && decide (un < now)) || (decide (0 ≤ tr) && (e.st == 2) && decide (tr < e.sn))) = r := hr
      rw [hr2] at KE
      replace KE := keep KE
      replace HC := keep (HC.out.trans (show (!false && expB now e ⟨un, tr, false⟩) = r by rw [hr]; rfl))
      clear hr hr2
      cases r with
      | false =>
        obtain ⟨e1, e2⟩ := exM_no HE.out (by rw [HC.out]; simp)
        have HE1 := keep (And.intro e1 e2)
        clear e1 e2
        gi_wp2_with (gi_at_call 38; refine (CallsIn.inRound l (callsIn_wide.2 KE.out)).mono ?_; rintro e5 w' ⟨rfl, k, rfl⟩)
        exact ⟨(KeepsOthers.drewN A2 k).from _, trivial, ⟨by rw [HE1.out.1]; exact HJ.out.lq.st (StN.drewN w.heap.size A2 k) (Nat.le_refl _), HJ.out.tb, by rw [HE1.out.2]; exact HJ.out.nb⟩⟩
      | true =>
        obtain ⟨e1, e2⟩ := exM_yes HE.out HC.out
        have HE1 := keep (And.intro e1 e2)
        clear e1 e2
        gi_wp2_with (gi_at_call 38; refine (CallsIn.inRound l (callsIn_wide.2 KE.out)).mono ?_; rintro e5 w' ⟨rfl, k, rfl⟩)
        have hq0 := HJ.out.lq.st (StN.drewN w.heap.size A2 k) (Nat.le_refl _)
        have hq1 := (hq0.setG (by omega) HO.out (List.mem_of_getElem? HE.out) true).box HO.out HF.out (b := w.heap.size + 1) (by omega) (.inl (by omega)) 0 (.int .i64 ((exN now q.es q.mg i : Int) + 1))
        refine ⟨(((KeepsOthers.drewN A2 k).trans (KeepsOthers.setCell _ _ _)).trans (KeepsOthers.setCell _ _ _)).from _, trivial, ⟨?_, ?_, ?_⟩⟩
        · rw [HE1.out.1]
          exact hq1
        · exact set_other (set_other (show (A2.drewN k).heap[w.heap.size]? = _ from HJ.out.tb) (fun h => hne h.symm)) (by omega)
        · rw [HE1.out.2]
          exact heap_setCell_same _ _ 0 _ _ _ (set_other (show (A2.drewN k).heap[w.heap.size + 1]? = _ from HJ.out.nb) (fun h => hne1 h.symm))
  case done =>
    intro D A hD hJ hDd
    rw [hps] at hJ
    have HJ := keep hJ
    have HL2 := keep (list_at G.b _ _ _ A hJ.lq.qa.b0.1)
    clear hJ J0
    gi_wp2_with (first
      | (gi_at_call 37; refine (callsIn_wide.2 HL2.out).mono ?_; rintro e w' ⟨rfl, rfl⟩)
      | (gi_at_call 36; refine (callsIn_wide.2 (in_any _ _ _ _ _ _ _)).mono ?_; rintro e w' ⟨rfl, rfl⟩))
    generalize hW2 : World.alloc _ _ = W2
    have hnb := HJ.out.nb
    have hlq := HJ.out.lq
    rw [HMN.out.2] at hnb
    rw [HMN.out.1] at hlq
    have J2 : ExK w G q mg' nn A.heap.size D 0 W2 := by
      rw [← hW2]
      exact ⟨by rw [updL_zero]; exact LQ.start2 hlq.qa hlq.pt rfl [0, 1, 2, 3], below_new (below_new (below_new hnb)), below_new (below_new (below_new hDd))⟩
    have hs2 : w.heap.size ≤ W2.heap.size := J2.lq.pt.size
    have hD2 : D < W2.heap.size := (Array.getElem?_eq_some_iff.1 J2.df).1
    have hSA : w.heap.size ≤ A.heap.size := hlq.pt.size
    have hNA : w.heap.size + 1 < A.heap.size := (Array.getElem?_eq_some_iff.1 hnb).1
    obtain ⟨S2, hS2⟩ : ∃ S2, A.heap.size = S2 := ⟨_, rfl⟩
    rw [hS2] at J2 hSA hNA ⊢
    clear hW2 hS2 HJ hDd hnb hlq HL2
    refine rangeFunc_ix (n := 5) rfl (by omega) (gf := 71) (lb := #[.pointer (some ⟨S2 + 1, 0, none⟩), .pointer (some ⟨S2 + 1 + 1, 0, none⟩)]) rfl trivial (enters_of Tryz.func71 (by kernel_rfl) rfl) (N := (q.es.map En.p).length) (enc := encP (q.es.map En.p)) (fun _ => rfl)
      (InX (q.es.map En.p) [0, 1, 2, 3]) (fun _ => InOwn (S2 + 1) (S2 + 2) G.s (some ⟨S2, 0, none⟩, 4, 4) (q.es.map En.p) [0, 1, 2, 3]) (fun _ _ => True)
      (ExK w G q mg' nn S2 D) (fun _ _ => False)
      (in1_seq (5 - 1) (by omega) _ _ _ _ (q.es.map En.p) [0, 1, 2, 3] (by rw [hps]; exact hle) (by decide) _ _)
      (fun i A B st h => ⟨h.lq.st st hs2, st.cells h.nb, st.blk _ _ h.df (.inr hD2)⟩) (fun _ _ _ _ h => h) (fun i A B st h => in_x st h)
      (fun _ _ _ _ _ _ _ _ _ _ _ _ _ _ => trivial)
      (fun i A h => h.lq.own)
      (fun i A hi h hx => by
        obtain ⟨e, he, _⟩ := h.lq.get hi
        have hne := fun hh => hx ((h.lq.x he).2 hh)
        rw [updL_at] at he
        have hno : gvE mg' e = e := by
          unfold gvE
          rw [if_neg]
          rintro ⟨h1, _⟩
          exact hne (by simp only [List.mem_cons, List.not_mem_nil, or_false]; exact h1)
        exact ⟨by rw [updL_same _ _ _ he hno]; exact h.lq, h.nb, h.df⟩)
      J2 ?round2 ?done2 (fun _ _ _ _ h _ => h.elim)
    case round2 =>
      rintro l i A hl hi hJ hx
      obtain ⟨e, he, hge⟩ := hJ.lq.get hi
      have hst := (hJ.lq.x he).1 hx
      simp only [Array.zip, encP]
      rw [hge]
      have HI := keep hi
      have HE := keep he
      have HST := keep (show e.st = 0 ∨ e.st = 1 ∨ e.st = 2 ∨ e.st = 3 by simpa using hst)
      clear hJ hx he hge hi hst
      gi_wp2
      refine ⟨by first | rfl | trivial, fun A2 hJ2 hx2 => ?_⟩
      have he := HE.out
      have hea := hJ2.lq.qa.en e (List.mem_of_getElem? he)
      obtain ⟨c12, c13, _, _, _⟩ := hea.1.c12
      have f13 := hea.1.fz 13
      obtain ⟨m0, m1, m2, f2⟩ := hea.2.2.1.at_
      have hne : w.heap.size + 1 ≠ e.p := by have := HO.out _ hea.2.1; omega
      have hneD : D ≠ e.p := by have := HO.out _ hea.2.1; omega
      have HJ := keep hJ2
      rw [updL_at] at he
      have HU := keep (updL_next (fun _ => gvE mg') q.es i he)
      have HV := keep (fun h => updL_same (fun _ => gvE mg') q.es i he h)
      have HGV := keep (show ∀ v, (mg' e.m).gv = v → gvE mg' e = if v = true then { e with st := 4 } else e from fun v hv => by
        subst hv
        unfold gvE
        by_cases hg : (mg' e.m).gv = true
        · rw [if_pos ⟨HST.out, hg⟩, if_pos hg]
        · rw [if_neg (fun h => hg h.2), if_neg hg])
      obtain ⟨gv, hg⟩ : ∃ g, (mg' e.m).gv = g := ⟨_, rfl⟩
      dsimp only at m0 m1 m2
      rw [hg] at m2
      have HG := keep (HGV.out gv hg)
      clear hJ2 hx2 he hg HGV hea
      cases gv with
      | false =>
        gi_wp2
        exact ⟨(KeepsOthers.refl A2).from _, trivial, ⟨by rw [HV.out (by rw [HG.out]; rfl)]; exact HJ.out.lq, HJ.out.nb, HJ.out.df⟩⟩
      | true =>
        gi_wp2
        have hq1 := HJ.out.lq.setE hSA HO.out (e' := { e with st := 4 }) HE.out 13 (.int .i64 4) rfl rfl rfl rfl
        refine ⟨(KeepsOthers.setCell _ _ _).from _, trivial, ⟨?_, set_other HJ.out.nb hne, set_other HJ.out.df hneD⟩⟩
        rw [HU.out, HG.out, if_pos trivial]
        exact hq1
    case done2 =>
      intro D2 A2 hDD hJ hDd2
      rw [hps] at hJ
      have cn := upd_cell hJ.nb 0 _ rfl
      have HJ := keep hJ
      have k1 := StN.putObj (N := W2.heap.size) (.deferred none) hDd2 rfl hDD
      have hDd3 := k1.blk _ _ hJ.df (.inr hD2)
      have k2 := StN.putObj (N := W1.heap.size) (.deferred none) hDd3 rfl hD
      clear hJ
      gi_wp2
      refine ⟨by simp, .inl ⟨_, _, rfl, run_takeDeferred hDd2, by simp, .inl ⟨_, _, rfl, run_takeDeferred hDd3, ?_⟩⟩⟩
      have hl := (HJ.out.lq.st k1 hs2).st k2 hs1
      rw [updL_map] at hl
      exact ⟨_, results_tmp rfl _ _ _, rfl, hl.qa, rfl, hl.pt, fun _ h => .inl h, fun _ h => .inl h⟩
end
section
open Go.RowKit Go.Maps
attribute [local go_sem] Oper.semAt_some
def dnN (es : List En) : Nat := (es.takeWhile fun e => !openB e).length
theorem dnN_le (es : List En) : dnN es ≤ es.length := (List.takeWhile_sublist _).length_le
theorem tw_self {p : En → Bool} : ∀ {l : List En}, (∀ e ∈ l, p e = true) → l.takeWhile p = l
  | [], _ => rfl
  | e :: r, h => by rw [List.takeWhile_cons_of_pos (h e (List.mem_cons_self ..)), tw_self fun x hx => h x (List.mem_cons_of_mem _ hx)]
theorem dnN_fst {es : List En} {z : Int} (h : FstAt openB es z) : (z = -1 ∧ dnN es = es.length) ∨ z = (dnN es : Int) ∧ dnN es < es.length := by
  rcases h with ⟨rfl, h⟩ | ⟨j, rfl, h1, ⟨e, h2, h3⟩, h4⟩
  · left
    refine ⟨rfl, ?_⟩
    unfold dnN
    rw [tw_self fun e he => List.all_eq_true.1 h e he]
  · right
    have hd : dnN es = j := by
      have e1 : es = es.take j ++ (e :: es.drop (j + 1)) := by
        have h5 : es[j] = e := by
          rw [List.getElem?_eq_getElem h1] at h2
          exact Option.some.inj h2
        rw [← h5, ← List.drop_eq_getElem_cons h1, List.take_append_drop]
      unfold dnN
      rw [e1, List.takeWhile_append_of_pos (fun x hx => by rw [h4 x hx]; rfl), List.takeWhile_cons_of_neg (by rw [h3]; decide), List.append_nil, List.length_take]
      omega
    rw [hd]
    exact ⟨rfl, h1⟩
set_option maxHeartbeats 2000000 in
theorem done_any {w : World} {G : Gq} {q : Qm} (h : QA w G q) :
    Calls Tryz.prog 110 #[.pointer (some ⟨G.b, 0, none⟩)] w fun e w' => (∃ A c, e = .returned (.slice A (dnN q.es) c) ∧ dnN q.es ≤ c ∧ (dnN q.es ≠ 0 → A = G.s.1)) ∧ w = w' := by
  have HL := keep (list_at G.b _ _ _ w h.b0.1)
  have K := keep (openIndex_any G.s q.es w h.es_ (by rw [h.n]; have := h.le; omega))
  have hn := h.n
  have hc := h.sr.1
  obtain ⟨d, hd⟩ : ∃ d, dnN q.es = d := ⟨_, rfl⟩
  have HD := keep (show ∀ z, FstAt openB q.es z → (z = -1 ∧ d = G.s.2.1) ∨ z = (d : Int) ∧ d < G.s.2.1 from fun z hz => by
    have := dnN_fst hz
    rw [hd, ← hn] at this
    exact this)
  rw [hd]
  clear h hd
  obtain ⟨b, ⟨s1, s2, s3⟩, O, F⟩ := G
  dsimp only at HL K hn hc HD ⊢
  by_cases h1 : d < s2
  · have K2 := K.out.mono (fun e w' hh => show e = .returned (.int .i64 (d : Int)) ∧ w = w' from by
      obtain ⟨⟨z, rfl, hz⟩, rfl⟩ := hh
      rcases HD.out z hz.out with ⟨_, h2⟩ | ⟨rfl, _⟩
      · omega
      · exact ⟨rfl, rfl⟩)
    replace K := keep K2
    have hd0 : (0 : Int) ≤ (d : Int) := by omega
    have hd1 : (d : Int) ≤ (s3 : Int) := by omega
    have HH := keep (show d ≤ s3 by omega)
    clear h1 hn HD K2 hc
    go_enter Tryz.func110, Tryz.ntmps110
    go_wp2_with (first
      | (go_at_call 37; refine HL.out.mono ?_; rintro e w' ⟨rfl, rfl⟩)
      | (go_at_call 133; refine K.out.mono ?_; rintro e w1 ⟨rfl, rfl⟩))
    go_ret
    exact ⟨⟨_, _, rfl, HH.out, fun _ => rfl⟩, rfl⟩
  · have K2 := K.out.mono (fun e w' hh => show e = .returned (.int .i64 (-1)) ∧ w = w' ∧ d = s2 from by
      obtain ⟨⟨z, rfl, hz⟩, rfl⟩ := hh
      rcases HD.out z hz.out with ⟨rfl, h2⟩ | ⟨rfl, h2⟩
      · exact ⟨rfl, rfl, h2⟩
      · exact absurd h2 h1)
    replace K := keep K2
    have HC := keep hc
    clear h1 hn HD K2 hc
    go_enter Tryz.func110, Tryz.ntmps110
    go_wp2_with (first
      | (go_at_call 37; refine HL.out.mono ?_; rintro e w' ⟨rfl, rfl⟩)
      | (go_at_call 133; refine K.out.mono ?_; rintro e w1 ⟨rfl, rfl, hd⟩; replace hd := keep hd))
    go_ret
    rw [hd.out]
    exact ⟨⟨_, _, rfl, HC.out, fun _ => rfl⟩, rfl⟩
end
section
open Go.RowKit Go.Maps
theorem own_put {w : World} {base : Nat} {e : TypeId} {K n c : Nat} {A : Option Addr} {xs : List Value} (h : w.ownsRow base e K (.slice A n c) n xs) {g : Nat} (hA : A = some ⟨g, 0, none⟩) (j : Nat) (v : Value) (hj : j < xs.length) : (w.setCell ⟨g, j, none⟩ v).ownsRow base e K (.slice A n c) n (xs.set j v) := by
  refine ⟨by rw [List.length_set]; exact h.1, ?_⟩
  rcases h.2 with ⟨h0, h1⟩ | ⟨g', cap, cur, hv, hb, hg, hnc, hm, hsz, ht⟩
  · have := h.1
    rw [h1, Nat.zero_mul] at this
    omega
  · subst hA
    injection hv with a1 a2 a3
    injection a1 with a1
    injection a1 with a1
    subst a1 a3
    refine .inr ⟨g, c, cur.setIfInBounds j v, rfl, hb, heap_setCell_same _ g j _ _ _ hg, hnc, hm, by simpa using hsz, ?_⟩
    rw [← ht, Array.toList_setIfInBounds, List.take_set]
def skL : List (Int × Int) → Int → Int → List (Int × Int)
  | [], o, s => [(o, s)]
  | x :: r, o, s => if x.1 = o then (x.1, s) :: r else x :: skL r o s
theorem skL_at : ∀ {l : List (Int × Int)} {o s t : Int} {j : Nat}, (∀ y ∈ l.take j, y.1 ≠ o) → l[j]? = some (o, t) → skL l o s = l.set j (o, s)
  | [], o, s, t, j, _, h => by cases h
  | x :: r, o, s, t, 0, _, h => by
    injection h with h
    subst h
    rw [skL, if_pos rfl]
    rfl
  | x :: r, o, s, t, j + 1, hn, h => by
    rw [skL, if_neg (hn x (by rw [List.take_succ_cons]; exact List.mem_cons_self ..)), skL_at (t := t) (j := j) (fun y hy => hn y (by rw [List.take_succ_cons]; exact List.mem_cons_of_mem _ hy)) h]
    rfl
theorem skL_none : ∀ {l : List (Int × Int)} {o s : Int}, (∀ y ∈ l, y.1 ≠ o) → skL l o s = l ++ [(o, s)]
  | [], o, s, _ => rfl
  | x :: r, o, s, hn => by
    rw [skL, if_neg (hn x (List.mem_cons_self ..)), skL_none (l := r) fun y hy => hn y (List.mem_cons_of_mem _ hy)]
    rfl
theorem skL_len (l : List (Int × Int)) (o s : Int) : (skL l o s).length ≤ l.length + 1 := by
  induction l with
  | nil => exact Nat.le_refl _
  | cons x r ih =>
    rw [skL]
    split
    · simp
    · simp only [List.length_cons]; omega
theorem flat_set : ∀ {l : List (Int × Int)} {j : Nat} {o t s : Int}, l[j]? = some (o, t) → (flatF blC l).set (j * 2 + 1) (.int .u16 s) = flatF blC (l.set j (o, s))
  | [], j, o, t, s, h => by cases h
  | x :: r, 0, o, t, s, h => by
    injection h with h
    subst h
    rfl
  | x :: r, j + 1, o, t, s, h => by
    have h1 := flat_set (l := r) (j := j) (o := o) (t := t) (s := s) h
    show (Value.int .u16 x.1 :: Value.int .u16 x.2 :: flatF blC r).set ((j + 1) * 2 + 1) _ = Value.int .u16 x.1 :: Value.int .u16 x.2 :: flatF blC (r.set j (o, s))
    rw [← h1, show (j + 1) * 2 + 1 = (j * 2 + 1) + 1 + 1 by omega]
    rfl
structure SkP (w : World) (base : Nat) (A : Option Addr) (n c : Nat) (l' : List (Int × Int)) (s : SL) (w' : World) : Prop where
  row : w'.ownsRow base 167 2 (.slice s.1 s.2.1 s.2.2) s.2.1 (flatF blC l')
  part : Part (fun i => (Value.slice A n c).ownBlock = some i) w w'
  ko : KeepsOthers w w'
theorem ko_below {w w' : World} (h : Below w.heap.size w w') : KeepsOthers w w' := ⟨h.size, fun k o hk _ => (h.block k (Array.getElem?_eq_some_iff.1 hk).1).trans hk⟩
set_option maxRecDepth 100000 in
set_option maxHeartbeats 2000000 in
theorem skipping_any {base : Nat} {A : Option Addr} {n c : Nat} {l : List (Int × Int)} {w : World} (h : w.ownsRow base 167 2 (.slice A n c) n (flatF blC l)) (hn : n ≤ 2000) (hb : base ≤ w.heap.size) (x : CZ) :
    Calls Tryz.prog 111 #[.slice A n c, .agg x.cells.toArray] w fun e w' => ∃ s, e = .returned (.slice s.1 s.2.1 s.2.2) ∧ SkP w base A n c (skL l x.ou x.si) s w' := by
  obtain ⟨i0, hi0, hz0, hz1, hz2⟩ := info_parts cSkip_info
  have hnl : n = l.length := by
    have := h.1
    rw [flatF_len blC_len] at this
    omega
  have HB := keep (below_lay w (.cells x.cells.toArray 41))
  have hz := (show ZB (w.alloc (.cells x.cells.toArray 41)) w.heap.size x from heap_alloc_new w _).all
  obtain ⟨⟨z0, z1, z2, z3, z4, z5, z6⟩, z7, z8, z9, z10, z11⟩ := hz
  have HO := keep (own_step h HB.out)
  have HH := keep h
  have HNL := keep hnl
  have HBS := keep hb
  obtain ⟨xk, xf, xa, xb, xo, xs, xp, ⟨x1, x2, x3⟩, ⟨x4, x5, x6⟩, ⟨x7, x8, x9⟩, ⟨x10, x11, x12⟩, ⟨x13, x14, x15⟩, xbl, xdu, xsk, xpr, xbs⟩ := x
  dsimp only [CZ.cells] at *
  clear h hnl z0 z1 z2 z3 z6 z7 z8 z9 z10 z11 hb
  generalize hW : w.alloc _ = W at *
  go_enter Tryz.func111, Tryz.ntmps111
  go_wp2
  go_loopw [5, 8] (fun _ i wr => ∃ (j k : Nat), j ≤ n ∧ i = .int .i64 j ∧ Hid (∀ y ∈ l.take j, y.1 ≠ xo) ∧ wr = W.drewN k) (fun _ i _ => n - (intOf i).toNat)
  case atStart => exact ⟨0, 0, Nat.zero_le _, rfl, keep (by simp), rfl⟩
  case round =>
    obtain ⟨j, k, hj, rfl, hno, rfl⟩ := hrel
    have HOK := keep (own_step HO.out (show Below W.heap.size W (W.drewN k) from below_drewN_sq (Below.refl _ W) k))
    have HBK := keep (below_drewN_sq HB.out k)
    by_cases hlt : j < n
    · have hjl : j < l.length := by have := HNL.out; omega
      obtain ⟨⟨o, t⟩, hl⟩ : ∃ y, l[j]? = some y := ⟨_, List.getElem?_eq_getElem hjl⟩
      have hne : flatF blC l ≠ [] := fun h0 => by
        have h1 := flatF_len blC_len l
        rw [h0] at h1
        simp at h1
        omega
      obtain ⟨g, rfl, hgb, hcs, hfz, _⟩ := own_row_at HOK.out hne
      have h0 : W.cell? ⟨g, j * 2, none⟩ = _ := hcs (j * 2) (.int .u16 o) (flatF_get (f := blC) blC_len l j (o, t) hl 0 (by decide))
      have h1 : W.cell? ⟨g, j * 2 + 1, none⟩ = _ := hcs (j * 2 + 1) (.int .u16 t) (flatF_get (f := blC) blC_len l j (o, t) hl 1 (by decide))
      have f1 : W.frozen? ⟨g, j * 2 + 1, none⟩ = false := hfz (j * 2 + 1)
      have hjI : (j : Int) < (n : Int) := by omega
      have hj0 : (0 : Int) ≤ (j : Int) := by omega
      have hn1 : (n : Int) ≤ 2000 := by omega
      have HL := keep hl
      have HG := keep hgb
      clear hjl hne hcs hfz hl hgb
      by_cases ho : o = xo
      · subst ho
        go_wp2
        go_quiet (fail)
        go_wp2
        go_ret
        have HBN := below_drewN_sq HB.out (k + nq)
        have HON := own_step HO.out (show Below W.heap.size W (W.drewN (k + nq)) from below_drewN_sq (Below.refl _ W) (k + nq))
        refine ⟨(some ⟨g, 0, none⟩, n, c), rfl, ⟨?_, ?_, ?_⟩⟩
        · rw [skL_at hno.out HL.out, ← flat_set HL.out]
          exact own_put HON rfl _ _ (by rw [flatF_len blC_len]; have := HNL.out; omega)
        · exact (Part.of_below (fun i => (Value.slice (some ⟨g, 0, none⟩) n c).ownBlock = some i) HBN).setCell (p := ⟨g, j * 2 + 1, none⟩) (.inl rfl) _
        · exact (ko_below HBN).trans (KeepsOthers.setCell _ _ _)
      · have hob : (o == xo) = false := by simpa using ho
        have HNE := keep ho
        clear ho
        go_wp2
        go_quiet (fail)
        go_wp2
        go_roundw
        case rel =>
          refine ⟨j + 1, k + nq, by omega, by go_num, keep fun y hy => ?_, rfl⟩
          rw [List.take_add_one, HL.out] at hy
          rcases List.mem_append.1 hy with hy | hy
          · exact hno.out y hy
          · rw [Option.toList_some, List.mem_singleton] at hy
            rw [hy]
            exact HNE.out
        case measure => simp [intOf]; omega
    · obtain rfl : n = j := by omega
      go_wp2_with (at_builtin; refine wpl_appendK (S := 2) (by decide) rfl (.tmp 27) (.tmp 33) 38 rfl base 167 i0 (.agg #[.int .u16 0, .int .u16 0]) Tryz.underlying38 hi0 hz0 hz1 rfl _ n (flatF blC l) rfl (own_step HOK.out (below_lay _ (.cells #[.int .u16 xo, .int .u16 xs] 167))) (some ⟨(W.drewN k).heap.size, 0, none⟩) 1 1 [.int .u16 xo, .int .u16 xs] rfl rfl (SR.row (heap_alloc_new (W.drewN k) _)) (by intro u hu; simp only [List.mem_cons, List.not_mem_nil, or_false] at hu; rcases hu with rfl | rfl <;> rfl) (by unfold maxLen; omega) (by rw [hz2]; omega) (Nat.le_trans (Nat.le_trans HBS.out HBK.out.size) (below_lay _ _).size) ?_
                   intro A5 c5 w5 ho5 hb5 hg5)
      go_ret
      have hno := hno.out
      rw [List.take_of_length_le (by have := HNL.out; omega)] at hno
      have hp := Part.of_grown (S := fun i => (Value.slice A n c).ownBlock = some i) hg5.out fun k hk => hk
      refine ⟨(A5, n + 1, c5), rfl, ⟨?_, ?_, ?_⟩⟩
      · rw [skL_none hno, flatF_append]
        exact ho5.out
      · exact (Part.of_below (fun i => (Value.slice A n c).ownBlock = some i) (up HBK.out (below_lay _ _))).trans hp fun i hi => .inl hi
      · refine (ko_below (up HBK.out (below_lay _ _))).trans (KeepsOthers.of_grownBy hg5.out fun j2 o ej hj => ?_)
        obtain ⟨cv, f2, hcv⟩ := own_cells (own_step HOK.out (below_lay _ (.cells #[.int .u16 xo, .int .u16 xs] 167))) ej
        rw [hcv] at hj
        cases hj
        rfl
end
end Go.Proofs.YtnlkdlnmffibhaaGreat
