/- KBQ of the stage: texts R13, R14, joined. -/
import Derived.Test.YtffjdknmfmlfnaaKBL
import Derived.Test.YtffjdknmfmlfnaaKBM
import Derived.Test.YtffjdknmfmlfnaaKBN
import Derived.Test.YtffjdknmfmlfnaaKBP
import Derived.Test.YtffjdknmfmlfnaaKBO
set_option linter.unusedSimpArgs false
set_option linter.unusedVariables false
namespace Go.Proofs.Ytffjdknmfmlfnaa
section
open Go.RowKit Go.Maps

theorem RA.lo_ {w W : World} {b : Nat} {s : SL} {q : Rm} (h : RA w b s q W) : ∀ i, Rb b s i → w.heap.size ≤ i := fun i hi => by
  rcases hi with rfl | hi
  · exact h.lo
  · rcases h.row.2 with ⟨h0, _⟩ | ⟨g, cap, cur, hv', hb, _⟩
    · rw [h0] at hi; cases hi
    · rw [hv'] at hi
      injection hi with hi
      subst hi
      exact hb
structure Tw (x : Nat → Obj → Prop) (w : World) (b : Nat) (G : Gq) (q : Qm) (c : Nat) (s : SL) (p : Rm) (W : World) : Prop where
  qs : QS w b G q W
  ra : RA w c s p W
  ap : ∀ i, Rb c s i → ¬ G.O i ∧ ¬ G.F i
  bx : ∀ B X, x B X → W.heap[B]? = some X ∧ ¬ G.O B ∧ ¬ Rb c s B ∧ ¬ G.F B
section
variable {x : Nat → Obj → Prop} {w W W' : World} {b c : Nat} {G G' : Gq} {q q' : Qm} {s s' : SL} {p p' : Rm}
theorem Tw.step (h : Tw x w b G q c s p W) (hb : Below W.heap.size W W') : Tw x w b G q c s p W' := ⟨h.qs.step hb, h.ra.step hb, h.ap, fun B X hx => ⟨(hb.block B (Array.getElem?_eq_some_iff.1 (h.bx B X hx).1).1).trans (h.bx B X hx).1, (h.bx B X hx).2⟩⟩
theorem Tw.left (h : Tw x w b G q c s p W) (hq : QA W' G' q') (hn : Nums q') (hl : Ltr W G W' G') : Tw x w b G' q' c s p W' :=
  ⟨h.qs.ltr hq hn hl, h.ra.part hl.part fun i hi => ⟨h.qs.lo i hi, fun hc => (h.ap i hc).1 hi⟩, fun i hi => ⟨fun hc => by
    rcases hl.o i hc with h1 | h1
    · exact (h.ap i hi).1 h1
    · exact absurd (h.ra.lt i hi) (Nat.not_lt.2 h1), fun hc => by
    rcases hl.f i hc with h1 | h1
    · exact (h.ap i hi).2 h1
    · exact absurd (h.ra.lt i hi) (Nat.not_lt.2 h1)⟩, fun B X hx => by
    obtain ⟨a1, a2, a3, a5⟩ := h.bx B X hx
    have a4 := (Array.getElem?_eq_some_iff.1 a1).1
    refine ⟨(hl.part.block B a4 a2).trans a1, fun hc => ?_, a3, fun hc => ?_⟩
    · rcases hl.o B hc with h1 | h1
      · exact a2 h1
      · omega
    · rcases hl.f B hc with h1 | h1
      · exact a5 h1
      · omega⟩
theorem Tw.right (h : Tw x w b G q c s p W) (hr : RA w c s' p' W') (hp : Part (fun i => Rb c s i ∨ W.heap.size ≤ i) W W') (hs : ∀ i, Rb c s' i → Rb c s i ∨ W.heap.size ≤ i) : Tw x w b G q c s' p' W' :=
  ⟨⟨h.qs.qa.apart hp (fun i hi hc => by
      rcases hc with h1 | h1
      · exact (h.ap i h1).1 hi
      · exact absurd (h.qs.qa.olt i hi) (Nat.not_lt.2 h1)) (fun i hi hc => by
      rcases hc with h1 | h1
      · exact (h.ap i h1).2 hi
      · exact absurd (h.qs.qa.flt i hi) (Nat.not_lt.2 h1)), h.qs.nu, h.qs.gb, h.qs.lo, h.qs.bl.trans (hp.below h.qs.bl.size fun i hi => by
      rcases hi with h1 | h1
      · exact h.ra.lo_ i h1
      · exact Nat.le_trans h.qs.bl.size h1)⟩, hr, fun i hi => by
    rcases hs i hi with h1 | h1
    · exact h.ap i h1
    · exact ⟨fun hc => absurd (h.qs.qa.olt i hc) (Nat.not_lt.2 h1), fun hc => absurd (h.qs.qa.flt i hc) (Nat.not_lt.2 h1)⟩, fun B X hx => by
    obtain ⟨a1, a2, a3, a5⟩ := h.bx B X hx
    have a4 := (Array.getElem?_eq_some_iff.1 a1).1
    refine ⟨(hp.block B a4 fun hc => ?_).trans a1, a2, fun hc => ?_, a5⟩
    · rcases hc with h1 | h1
      · exact a3 h1
      · omega
    · rcases hs B hc with h1 | h1
      · exact a3 h1
      · omega⟩
/-- A box more. -/
theorem Tw.box (h : Tw x w b G q c s p W) (X : Obj) : Tw (fun B Y => x B Y ∨ (B = W.heap.size ∧ Y = X)) w b G q c s p (W.alloc X) := by
  have h1 := h.step (below_lay W X)
  refine ⟨h1.qs, h1.ra, h1.ap, fun B Y he => ?_⟩
  rcases he with he | ⟨e1, e2⟩
  · exact h1.bx B Y he
  · subst e1 e2
    exact ⟨heap_alloc_new W Y, fun hc => absurd (h.qs.qa.olt _ hc) (Nat.lt_irrefl _), fun hc => absurd (h.ra.lt _ hc) (Nat.lt_irrefl _), fun hc => absurd (h.qs.qa.flt _ hc) (Nat.lt_irrefl _)⟩
theorem Tw.unbox (h : Tw x w b G q c s p W) : Tw (fun _ _ => False) w b G q c s p W := ⟨h.qs, h.ra, h.ap, fun B X he => he.elim⟩
theorem Tw.mono {y : Nat → Obj → Prop} (h : Tw x w b G q c s p W) (hy : ∀ B X, y B X → x B X) : Tw y w b G q c s p W := ⟨h.qs, h.ra, h.ap, fun B X hb => h.bx B X (hy B X hb)⟩
/-- One box that stays is written anew. -/
theorem Tw.put (h : Tw x w b G q c s p W) {B : Nat} {X X' : Obj} (hB : x B X) (hlo : w.heap.size ≤ B) (hp : Part (fun i => i = B) W W') (hX : W'.heap[B]? = some X') : Tw (fun C Y => (C ≠ B ∧ x C Y) ∨ (C = B ∧ Y = X')) w b G q c s p W' := by
  obtain ⟨a1, a2, a3, a5⟩ := h.bx B X hB
  have a4 := (Array.getElem?_eq_some_iff.1 a1).1
  refine ⟨⟨h.qs.qa.apart hp (fun i hi e => a2 (by rw [← e]; exact hi)) (fun i hi e => a5 (by rw [← e]; exact hi)), h.qs.nu, h.qs.gb, h.qs.lo, h.qs.bl.trans (hp.below h.qs.bl.size fun i hi => by rw [hi]; exact hlo)⟩, h.ra.part hp fun i hi => ⟨by rw [hi]; exact hlo, by rw [hi]; exact a3⟩, h.ap, fun C Y hx => ?_⟩
  rcases hx with ⟨hC, hx⟩ | ⟨rfl, rfl⟩
  · obtain ⟨b1, b2, b3, b5⟩ := h.bx C Y hx
    exact ⟨(hp.block C (Array.getElem?_eq_some_iff.1 b1).1 hC).trans b1, b2, b3, b5⟩
  · exact ⟨hX, a2, a3, a5⟩
theorem Tw.right' (h : Tw x w b G q c s p W) (hr : RA w c s' p' W') (hp : Part (Rb c s) W W') (hs : ∀ i, Rb c s' i → Rb c s i ∨ W.heap.size ≤ i) : Tw x w b G q c s' p' W' := h.right hr (hp.mono fun _ h => .inl h) hs

theorem pushL (h : Tw x w b G q c s p W) {z : SL} {ls : List CZ} (hz : ZS w z ls) (hn : z.2.1 ≤ 1000) (hsm : ∀ x ∈ ls, Sm x) (un tr : Int) :
    Calls Try.prog 10 #[.pointer (some ⟨b, 0, none⟩), .slice z.1 z.2.1 z.2.2, .int .i64 un, .int .i64 tr] W fun e w' => e = .returned (.int .i64 (pushE q ls)) ∧ ∃ G' q', Hid (Tw x w b G' q' c s p w' ∧ PushS q ls un tr q') := by
  have hb := h.qs.gb
  subst hb
  have hzW := hz.step h.qs.bl
  by_cases hu : ls = [] ∨ ls.any unfitB = true
  · have hE : pushE q ls = 1 := by unfold pushE; rw [if_pos hu]
    rw [hE]
    refine (Push_arg h.qs.qa hzW (by omega) un tr hu).mono ?_
    rintro e w' ⟨rfl, h1⟩
    exact ⟨rfl, G, q, keep ⟨h.step h1, .inl ⟨by rw [hE]; decide, rfl⟩⟩⟩
  · by_cases hf : 1024 < q.es.length + ls.length
    · have hE : pushE q ls = 9 := by unfold pushE; rw [if_neg hu, if_pos hf]
      rw [hE]
      refine (Push_full h.qs.qa hzW (by omega) un tr hu hf).mono ?_
      rintro e w' ⟨rfl, h1⟩
      exact ⟨rfl, G, q, keep ⟨h.step h1, .inl ⟨by rw [hE]; decide, rfl⟩⟩⟩
    · have hE : pushE q ls = 0 := by unfold pushE; rw [if_neg hu, if_neg hf]
      rw [hE]
      refine (Push_okR h.qs.qa hzW (by omega) hsm (fun W' hp => hz.step (h.qs.bl.trans (hp.below h.qs.bl.size fun i hi => h.qs.lo i hi))) un tr hu hf).mono ?_
      rintro e w' ⟨rfl, m, hm, G', new, h1, h2, h3, h4, h5⟩
      refine ⟨rfl, G', _, keep ⟨h.left h1 (push_nums h.qs.nu h3 (Nat.le_refl _) un tr) h2, .inr ⟨hE, new, m, rfl, h3, fun e he hc => ?_⟩⟩⟩
      have h6 := h.qs.qa.olt _ (h.qs.qa.en e he).2.2.2
      omega
theorem pushR (h : Tw x w b G q c s p W) {A : Option Addr} {n k : Nat} {ls : List CZ} (hl : ZS w (A, n, k) ls) (hsm : ∀ x ∈ ls, Sm x) (hn : n ≤ 1000) (un tr : Int) (hct : 0 ≤ p.ct ∧ p.ct ≤ 1000000) :
    Calls Try.prog 16 #[.pointer (some ⟨c, 0, none⟩), .slice A n k, .int .i64 un, .int .i64 tr] W fun e w' => e = .returned (.int .i64 (rPe p ls)) ∧ ∃ s', Hid (Tw x w b G q c s' (if rPe p ls = 0 then rPsh p ls un tr else p) w') := by
  refine (refPush15_any h.ra hl hsm hn un tr hct).mono ?_
  rintro e w' ⟨rfl, s', h1⟩
  exact ⟨rfl, s', keep (h.right' h1.out.1 h1.out.2.1 h1.out.2.2)⟩
theorem Sim.pushed {l : PL} (h : Sim l q p) {ls : List CZ} {un tr : Int} (hq : PushS q ls un tr q') : pushE q ls = rPe p ls ∧ ∃ l', Sim l' q' (if rPe p ls = 0 then rPsh p ls un tr else p) := by
  have hE : pushE q ls = rPe p ls := by
    unfold pushE rPe
    rw [h.es, h.rs, List.length_map, List.length_map]
  refine ⟨hE, ?_⟩
  rw [← hE]
  rcases hq with ⟨h1, rfl⟩ | ⟨h1, new, m, rfl, h2, h3⟩
  · rw [if_neg h1]; exact ⟨l, h⟩
  · rw [if_pos h1]; exact h.push h2 h3 un tr
theorem timeL (h : Tw x w b G q c s p W) : Calls Try.prog 21 #[.pointer (some ⟨b, 0, none⟩)] W fun e w' => e = .returned (.int .i64 ((cnt1 q.es q.es.length : Nat) : Int)) ∧ Hid (Tw x w b G { q with es := q.es.map toutE } c s p w') := by
  have hb := h.qs.gb
  subst hb
  refine (Timeout_any h.qs.qa).mono ?_
  rintro e w' ⟨rfl, h1, h2⟩
  refine ⟨rfl, keep (h.left h1 (nums_of h.qs.nu rfl ?_) h2)⟩
  show (q.es.map toutE).map (fun e => e.c.a) = _
  rw [List.map_map]
  refine List.map_congr_left fun e _ => ?_
  show (toutE e).c.a = e.c.a
  unfold toutE
  split <;> rfl
theorem timeR (h : Tw x w b G q c s p W) : Calls Try.prog 22 #[.pointer (some ⟨c, 0, none⟩)] W fun e w' => e = .returned (.int .i64 ((rCnt p.rs p.rs.length : Nat) : Int)) ∧ Hid (Tw x w b G q c s { p with rs := p.rs.map rTo } w') := by
  refine (refTimeout15_any h.ra).mono ?_
  rintro e w' ⟨rfl, h1⟩
  exact ⟨rfl, keep (h.right' h1.out.1 h1.out.2 fun _ h => .inl h)⟩
theorem exL (h : Tw x w b G q c s p W) (now : Int) : Calls Try.prog 23 #[.pointer (some ⟨b, 0, none⟩), .int .i64 now] W fun e w' => e = .returned (.int .i64 ((exN now q.es q.mg q.es.length : Nat) : Int)) ∧ Hid (Tw x w b G ⟨q.es.map (gvE (exM now q.es q.mg q.es.length)), q.nx, exM now q.es q.mg q.es.length⟩ c s p w') := by
  have hb := h.qs.gb
  subst hb
  refine (Expire_any h.qs.qa now).mono ?_
  rintro e w' ⟨rfl, h1, h2⟩
  refine ⟨rfl, keep (h.left h1 (nums_of h.qs.nu rfl ?_) h2)⟩
  show (q.es.map (gvE _)).map (fun e => e.c.a) = _
  rw [List.map_map]
  refine List.map_congr_left fun e _ => ?_
  show (gvE _ e).c.a = e.c.a
  unfold gvE
  split <;> rfl
theorem exR (h : Tw x w b G q c s p W) (now : Int) : Calls Try.prog 24 #[.pointer (some ⟨c, 0, none⟩), .int .i64 now] W fun e w' => e = .returned (.int .i64 (((rEx now p.rs p.rs.length).2 : Nat) : Int)) ∧ Hid (Tw x w b G q c s { p with rs := (rEx now p.rs p.rs.length).1 } w') := by
  refine (refExpire15_any h.ra now).mono ?_
  rintro e w' ⟨rfl, h1⟩
  exact ⟨rfl, keep (h.right' h1.out.1 h1.out.2 fun _ h => .inl h)⟩
theorem ackL (h : Tw x w b G q c s p W) (cum now : Int) (hcum : 0 ≤ cum ∧ cum < 4294967296) (s0 : SL) (bl : List (Int × Int)) (hl : LR blC w s0 bl) (hn : s0.2.1 ≤ 1000000) (hok : BlOK bl) (hre : reachedB q cum = true) :
    Calls Try.prog 13 #[.pointer (some ⟨b, 0, none⟩), .int .u32 cum, .slice s0.1 s0.2.1 s0.2.2, .int .i64 now] W fun e w' => e = .returned (ackOut (ackR q cum bl now) true) ∧ Hid (Tw x w b (cutG G (stp q cum)) (ackQ q cum bl) c s p w') := by
  have hb := h.qs.gb
  subst hb
  have hlW := hl.kept (ok := fun _ => True) (Kpt.of_below h.qs.bl) (InF.all _)
  have hap : InF (fun i => ¬ G.O i) s0.1 ∨ bl = [] := by
    by_cases hb0 : bl = []
    · exact .inr hb0
    · refine .inl fun a ea ho => ?_
      have hne : flatF blC bl ≠ [] := by
        intro h0
        have h1 := flatF_len blC_len bl
        rw [h0, List.length_nil] at h1
        exact hb0 (List.eq_nil_of_length_eq_zero (by omega))
      obtain ⟨g, o, e1, hlt, _⟩ := hl.2.2 hne
      rw [ea] at e1
      injection e1 with e1
      subst e1
      exact absurd (h.qs.lo _ ho) (Nat.not_le.2 hlt)
  refine (Ack_any h.qs.qa h.qs.nu cum now hcum s0 bl hlW hap hn hok hre).mono ?_
  rintro e w' ⟨rfl, h1⟩
  exact ⟨rfl, keep (h.left h1.qa (ack_nums h.qs.nu cum bl) h1.lt)⟩
theorem ackL_no (h : Tw x w b G q c s p W) (cum now : Int) (s0 : SL) (hre : reachedB q cum = false) : Calls Try.prog 13 #[.pointer (some ⟨b, 0, none⟩), .int .u32 cum, .slice s0.1 s0.2.1 s0.2.2, .int .i64 now] W fun e w' => e = .returned ackNone ∧ Hid (Tw x w b G q c s p w') := by
  have hb := h.qs.gb
  subst hb
  refine (Ack_no h.qs.qa cum now s0 hre).mono ?_
  rintro e w' ⟨rfl, h1⟩
  exact ⟨rfl, keep (h.step h1)⟩
theorem ackR_no (h : Tw x w b G q c s p W) (cum now : Int) (hcu : 0 ≤ cum ∧ cum < 4294967296) {A : Option Addr} {n k : Nat} (hno : rMayB p cum = false) :
    Calls Try.prog 20 #[.pointer (some ⟨c, 0, none⟩), .int .u32 cum, .slice A n k, .int .i64 now] W fun e w' => e = .returned (.tuple #[.int .i64 0, .int .i64 0, .bool false, .bool false, .bool false]) ∧ Hid (Tw x w b G q c s p w') := by
  refine (refAck15_no h.ra cum now hcu hno).mono ?_
  rintro e w' ⟨rfl, k, rfl⟩
  exact ⟨rfl, keep (h.step (below_drewN (Below.refl _ _) _))⟩
theorem ackR_ (h : Tw x w b G q c s p W) (cum now : Int) (hcu : 0 ≤ cum ∧ cum < 4294967296) {A : Option Addr} {n k : Nat} {bl : List (Int × Int)} (hl : LR blC w (A, n, k) bl) (hok : BlOK bl) (hn : n ≤ 1000) {j : Nat} (hk : rGo p cum = (j : Int)) (hyes : rMayB p cum = true) :
    Calls Try.prog 20 #[.pointer (some ⟨c, 0, none⟩), .int .u32 cum, .slice A n k, .int .i64 now] W fun e w' => e = .returned (.tuple #[.int .i64 ((rBy (p.rs.take j) j + rCb bl (p.rs.drop j) (p.rs.drop j).length : Nat) : Int), .int .i64 (rSa now (p.rs.take j) j), .bool (rLo (rTop bl (p.rs.drop j) (p.rs.drop j).length) ((p.rs.drop j).mapIdx (rCome bl)) ((p.rs.drop j).mapIdx (rCome bl)).length), .bool (decide (0 < j)), .bool true]) ∧ ∃ s', Hid (Tw x w b G q c s' { p with rs := rAk p j bl } w') := by
  refine (refAck15_any h.ra cum now hcu hl hok hn hk hyes).mono ?_
  rintro e w' ⟨rfl, h1⟩
  obtain ⟨s', a1, a2, a3⟩ := h1.out.ex
  exact ⟨rfl, s', keep (h.right' a1 a2 a3)⟩
end
end
section
open Go.RowKit Go.Maps

theorem sm_of {w w' : World} {x y : CZ} (hx : ZV w x) (hy : ZV w' y) (hs : Sm y) (h : x.ct = y.ct) : Sm x := by
  have b1 : x.bls = y.bls := congrArg Ct.bls h
  have b2 : x.dus = y.dus := congrArg Ct.dus h
  have b3 : x.sks = y.sks := congrArg Ct.sks h
  have b4 := congrArg List.length (congrArg Ct.prs h)
  have b5 : x.bs = y.bs := congrArg Ct.bs h
  dsimp only [CZ.ct] at b4
  rw [List.length_map, List.length_map] at b4
  refine ⟨?_, ?_, ?_, ?_, ?_⟩
  · rw [hx.bl.1, b1, ← hy.bl.1]; exact hs.bl
  · rw [hx.du.1, b2, ← hy.du.1]; exact hs.du
  · rw [hx.sk.1, b3, ← hy.sk.1]; exact hs.sk
  · rw [hx.pr.1, b4, ← hy.pr.1]; exact hs.pr
  · rw [hx.da.len, b5, ← hy.da.len]; exact hs.da
theorem rSnd_from {st now : Int} {Q : CZ → Prop} : ∀ (k i : Nat) (rs : List RE) (r : Int) (t : List CZ), (∀ x ∈ rs, Q x.c) → (∀ x ∈ t, Q x) → (∀ x ∈ (rSnd st now k i rs r t).1, Q x.c) ∧ ∀ x ∈ (rSnd st now k i rs r t).2.1, Q x := by
  intro k
  induction k with
  | zero => intro i rs r t h1 h2; exact ⟨h1, h2⟩
  | succ k ih =>
    intro i rs r t h1 h2
    unfold rSnd
    cases he : rs[i]? with
    | none => exact ⟨h1, h2⟩
    | some e =>
      dsimp only
      have hq := h1 e (List.mem_of_getElem? he)
      split
      · split
        · exact ⟨h1, h2⟩
        · refine ih _ _ _ _ (fun x hx => ?_) (fun x hx => ?_)
          · rcases List.mem_or_eq_of_mem_set hx with h3 | h3
            · exact h1 x h3
            · rw [h3]; exact hq
          · rcases List.mem_append.1 hx with h3 | h3
            · exact h2 x h3
            · rw [List.mem_singleton.1 h3]; exact hq
      · exact ih _ _ _ _ h1 h2
theorem rTk_from {now room : Int} {Q : CZ → Prop} (rs : List RE) (h : ∀ x ∈ rs, Q x.c) : ∀ x ∈ (rTk rs now room).2, Q x := by
  unfold rTk
  have h1 := rSnd_from (st := 2) (now := now) rs.length 0 rs room [] h (fun x hx => by cases hx)
  split
  · exact (rSnd_from rs.length 0 _ _ _ h1.1 h1.2).2
  · exact h1.2
section
variable {x : Nat → Obj → Prop} {w W W' : World} {b c : Nat} {G G' : Gq} {q q' : Qm} {s s' : SL} {p p' : Rm}
/-- What is told lies in blocks that the call laid. -/
structure Told (W0 W : World) (z : SL) (ys : List CZ) : Prop where
  row : W.ownsRow W0.heap.size 45 12 (.slice z.1 z.2.1 z.2.2) z.2.1 (flatF CZ.cells ys)
  zs : ∀ y ∈ ys, ZV W y ∧ ∀ k, adB y k → W0.heap.size ≤ k ∧ k < W.heap.size
theorem Told.right {W0 : World} {z : SL} {ys : List CZ} (h : Told W0 W z ys) {S : Nat → Prop} (hp : Part (fun i => S i ∨ W.heap.size ≤ i) W W') (hS : ∀ i, S i → i < W0.heap.size) : ZS W' z ys := by
  have hk : Kpt (fun i => ¬ (S i ∨ W.heap.size ≤ i)) W W' := Kpt.of_part hp fun _ h => h
  refine ⟨LR.of_own CZ.len (by decide) (hp.own h.row fun g hg hc => ?_), fun y hy => (h.zs y hy).1.kept hk fun A hA a ea hc => ?_⟩
  · rcases h.row.2 with ⟨h0, _⟩ | ⟨g', cap, cur, hv', hb, hgg, _⟩
    · rw [h0] at hg; cases hg
    · rw [hv'] at hg
      injection hg with hg
      have hg : g' = g := hg
      subst hg
      have h1 := (Array.getElem?_eq_some_iff.1 hgg).1
      rcases hc with h2 | h2
      · have := hS _ h2; omega
      · omega
  · have h1 := (h.zs y hy).2 a.block ⟨A, hA, a, ea, rfl⟩
    rcases hc with h2 | h2
    · have := hS _ h2; omega
    · omega
theorem takeL (h : Tw x w b G q c s p W) (now room : Int) (hr : room < 9223372036854775808) :
    Calls Try.prog 12 #[.pointer (some ⟨b, 0, none⟩), .int .i64 now, .int .i64 room] W fun e w' => ∃ z ys, e = .returned (.slice z.1 z.2.1 z.2.2) ∧ Hid (Tw x w b G (tkQ q now room) c s p w' ∧ Told W w' z ys ∧ ys.map CZ.ct = (takeQ q now room).2.map CZ.ct ∧ W.heap.size ≤ w'.heap.size) := by
  have hb := h.qs.gb
  subst hb
  refine (Take_any h.qs.qa now room hr).mono ?_
  rintro e w' ⟨z, ys, rfl, h1⟩
  exact ⟨z, ys, rfl, keep ⟨h.left h1.qa (take_nums h.qs.nu now room) h1.lt, ⟨h1.row, fun y hy => ⟨(h1.zs y hy).1, (h1.zs y hy).2.1⟩⟩, h1.ct, h1.lt.part.size⟩⟩
theorem takeR {W0 : World} {z : SL} {ys : List CZ} (h : Tw x w b G q c s p W) (hT : Told W0 W z ys) (h0 : ∀ i, Rb c s i → i < W0.heap.size) (now room : Int) (hr : room < 9223372036854775808) :
    Calls Try.prog 19 #[.pointer (some ⟨c, 0, none⟩), .int .i64 now, .int .i64 room] W fun e w' => ∃ A n k, e = .returned (.slice A n k) ∧ Hid (Tw x w b G q c s { p with rs := (rTk p.rs now room).1 } w' ∧ ZS w' z ys ∧ ZS w' (A, n, k) (rTk p.rs now room).2 ∧ n ≤ 2048 ∧ ∀ x ∈ (rTk p.rs now room).2, ZV w x ∧ Sm x) := by
  have hz := rTk_from (now := now) (room := room) (Q := fun x => ZV w x ∧ Sm x) p.rs h.ra.zv
  refine (refTake15_any h.ra h.qs.bl.size now room hr).mono ?_
  rintro e w' ⟨A, n, k, rfl, h1, h2⟩
  have h1 := h1.out
  exact ⟨A, n, k, rfl, keep ⟨h.right h1.ra h1.pt fun i hi => .inl hi, hT.right h1.pt h0, ⟨LR.of_own CZ.len (by decide) h1.row, fun x hx => (hz x hx).1.step h1.ra.bl⟩, h2.out, hz⟩⟩
/-- What both tell is the same. -/
theorem took {l : PL} (h : Sim l q p) (now room : Int) {z : SL} {ys : List CZ} {A : Option Addr} {n k : Nat} (hc : ys.map CZ.ct = (takeQ q now room).2.map CZ.ct) (h1 : ZS W z ys) (h2 : ZS W (A, n, k) (rTk p.rs now room).2) (h3 : n ≤ 2048) (h4 : ∀ x ∈ (rTk p.rs now room).2, ZV w x ∧ Sm x) :
    Calls Try.prog 17 #[.slice z.1 z.2.1 z.2.2, .slice A n k] W fun e w' => e = .returned (.bool true) ∧ Below W.heap.size W w' := by
  obtain ⟨l', _, h5⟩ := h.take now room
  have he := hc.trans h5
  have hl : z.2.1 = n := by
    have a1 := h1.1.1
    have a2 := h2.1.1
    have a3 := congrArg List.length he
    rw [List.length_map, List.length_map] at a3
    dsimp only at a2
    omega
  obtain ⟨z1, z2, z3⟩ := z
  dsimp only at hl
  subst hl
  refine sameChunks_z z1 A z2 z3 k ys _ W h1 h2 (fun x hx => ?_) he (by omega)
  obtain ⟨i, hi, rfl⟩ := List.getElem_of_mem hx
  have a1 := congrArg (fun m => m[i]?) he
  rw [List.getElem?_map, List.getElem?_map, List.getElem?_eq_getElem hi] at a1
  cases hy : (rTk p.rs now room).2[i]? with
  | none => rw [hy] at a1; cases a1
  | some y =>
    rw [hy] at a1
    injection a1 with a1
    have a2 := h4 y (List.mem_of_getElem? hy)
    exact sm_of (h1.2 _ (List.getElem_mem hi)) a2.1 a2.2 a1
end
end
end Go.Proofs.Ytffjdknmfmlfnaa
