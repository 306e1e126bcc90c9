/- KBI of the stage: texts S3, joined. -/
import Derived.Test.YtffjdknmfmlfnaaKBH
set_option linter.unusedSimpArgs false
set_option linter.unusedVariables false
namespace Go.Proofs.Ytffjdknmfmlfnaa
section
open Go.RowKit Go.Maps

def rIn (bl : List (Int × Int)) (i : Nat) : Bool := bl.any fun b => decide (b.1 ≤ (i : Int) + 1) && decide ((i : Int) + 1 ≤ b.2)
def rHit (bl : List (Int × Int)) (i : Nat) (r : RE) : Bool := rIn bl i && (r.st == 1 || r.st == 2)
def rCome (bl : List (Int × Int)) (i : Nat) (r : RE) : RE := if rHit bl i r = true then { r with st := 3 } else if !rIn bl i && r.st == 3 then { r with st := 1, ms := 0 } else r
def rOff (r : RE) : Bool := r.st == 3 || r.st == 4
def rBy (rs : List RE) : Nat → Nat
  | 0 => 0
  | i + 1 => rBy rs i + match rs[i]? with | some r => if rOff r = true then 0 else r.c.da.2.1 | none => 0
def rSa (now : Int) (rs : List RE) : Nat → Int
  | 0 => -1
  | i + 1 => match rs[i]? with | some r => if !rOff r && r.sn == 1 then IntKind.i64.wrap (now - r.la) else rSa now rs i | none => rSa now rs i
def rCb (bl : List (Int × Int)) (rs : List RE) : Nat → Nat
  | 0 => 0
  | i + 1 => rCb bl rs i + match rs[i]? with | some r => if rHit bl i r = true then r.c.da.2.1 else 0 | none => 0
def rTop (bl : List (Int × Int)) (rs : List RE) : Nat → Int
  | 0 => -1
  | i + 1 => match rs[i]? with | some r => if rHit bl i r = true then (i : Int) else rTop bl rs i | none => rTop bl rs i
def rMis (top : Int) (i : Nat) (r : RE) : RE := if (i : Int) < top ∧ r.st = 1 then (if 3 ≤ wrap64 (r.ms + 1) then { r with ms := wrap64 (r.ms + 1), st := 2 } else { r with ms := wrap64 (r.ms + 1) }) else r
def rLo (top : Int) (rs : List RE) : Nat → Bool
  | 0 => false
  | i + 1 => rLo top rs i || match rs[i]? with | some r => decide ((i : Int) < top ∧ r.st = 1 ∧ 3 ≤ wrap64 (r.ms + 1)) | none => false
theorem rmx_ge {f : Int → Bool} {h : Int} (hh : 0 < h) : ∀ {bl : List (Int × Int)}, decide (h ≤ rmx f bl) = bl.any fun b => f b.1 && decide (h ≤ b.2) := by
  intro bl
  have key : ∀ (l : List (Int × Int)) (m : Int), decide (h ≤ l.foldl (fun m b => max m b.2) m) = (decide (h ≤ m) || l.any fun b => decide (h ≤ b.2)) := by
    intro l
    induction l with
    | nil => intro m; rw [List.foldl_nil, List.any_nil, Bool.or_false]
    | cons b r ih =>
      intro m
      rw [List.foldl_cons, ih, List.any_cons, ← Bool.or_assoc]
      congr 1
      rw [Bool.eq_iff_iff, decide_eq_true_eq, Bool.or_eq_true, decide_eq_true_eq, decide_eq_true_eq]
      omega
  unfold rmx
  rw [key, decide_eq_false (by omega), Bool.false_or, List.any_filter]
theorem told_in (bl : List (Int × Int)) (i : Nat) : toldB bl i = rIn bl i := by
  unfold toldB rch rIn
  rw [rmx_ge (by omega)]
  simp only [Int.natCast_add, Int.cast_ofNat_Int]
/-- One entry and what blocks tell of it. -/
theorem come_hit {mg : Nat → Mg} {ct : Int} {x : En × RE} (h : Pr mg ct x) (bl : List (Int × Int)) (i : Nat) : (toldB bl i = true ∧ (x.1.st = 1 ∨ x.1.st = 2)) ↔ rHit bl i x.2 = true := by
  unfold rHit
  rw [told_in, h.sm.st]
  simp
theorem pr_come {mg : Nat → Mg} {ct : Int} {x : En × RE} (h : Pr mg ct x) (bl : List (Int × Int)) (i : Nat) : Pr mg ct (comeE bl i x.1, rCome bl i x.2) := by
  have hsm := h.sm
  unfold comeE rCome rHit
  rw [told_in, hsm.st]
  have hst := h.st
  cases hi : rIn bl i with
  | true =>
    rw [if_pos rfl]
    by_cases h1 : x.2.st = 1 ∨ x.2.st = 2
    · rw [if_pos h1, if_pos (by simpa using h1)]
      exact ⟨⟨hsm.ct, hsm.dl, rfl, hsm.sn, hsm.la, hsm.ms⟩, h.un, h.tr, ⟨fun h2 => by have := h.gv.1 h2; omega, fun h2 => by dsimp only at h2; omega⟩, ⟨by dsimp only; omega, by dsimp only; omega⟩, fun h2 => by dsimp only at h2; omega, h.lt⟩
    · rw [if_neg h1, if_neg (by simpa using h1), if_neg (by simp)]
      exact h
  | false =>
    rw [if_neg (show ¬ (false = true) from fun h9 => by cases h9), if_neg (show ¬ ((false && (x.2.st == 1 || x.2.st == 2)) = true) from fun h9 => by cases h9)]
    by_cases h1 : x.2.st = 3
    · rw [if_pos h1, if_pos (show ((!false && x.2.st == 3) = true) by simp [h1])]
      exact ⟨⟨hsm.ct, hsm.dl, rfl, hsm.sn, hsm.la, rfl⟩, h.un, h.tr, ⟨fun h2 => by have := h.gv.1 h2; omega, fun h2 => by dsimp only at h2; omega⟩, ⟨by dsimp only; omega, by dsimp only; omega⟩, fun h2 => ⟨by dsimp only; omega, by dsimp only; omega⟩, h.lt⟩
    · rw [if_neg h1, if_neg (show ¬ ((!false && x.2.st == 3) = true) by simp [h1])]
      exact h
theorem pr_miss {mg : Nat → Mg} {ct : Int} {x : En × RE} (h : Pr mg ct x) (idx i : Nat) : Pr mg ct (missE idx i x.1, rMis (idx : Int) i x.2) ∧ (x.1.st = 1 ∧ i < idx ∧ wrap64 (x.1.ms + 1) = 3 ↔ (i : Int) < (idx : Int) ∧ x.2.st = 1 ∧ 3 ≤ wrap64 (x.2.ms + 1)) := by
  have hsm := h.sm
  have hst := h.st
  have hfl := h.fl
  unfold missE rMis
  rw [hsm.st, hsm.ms]
  by_cases h1 : x.2.st = 1 ∧ i < idx
  · have hm := hfl h1.1
    have hw : wrap64 (x.2.ms + 1) = x.2.ms + 1 := by unfold wrap64; omega
    rw [hw, if_pos h1, if_pos (show (i : Int) < (idx : Int) ∧ x.2.st = 1 from ⟨by omega, h1.1⟩)]
    refine ⟨?_, by omega⟩
    by_cases h2 : x.2.ms + 1 = 3
    · rw [if_pos h2, if_pos (show 3 ≤ x.2.ms + 1 by omega)]
      exact ⟨⟨hsm.ct, hsm.dl, rfl, hsm.sn, hsm.la, rfl⟩, h.un, h.tr, ⟨fun h3 => by have := h.gv.1 h3; omega, fun h3 => by dsimp only at h3; omega⟩, ⟨by dsimp only; omega, by dsimp only; omega⟩, fun h3 => by dsimp only at h3; omega, h.lt⟩
    · rw [if_neg h2, if_neg (show ¬ 3 ≤ x.2.ms + 1 by omega)]
      exact ⟨⟨hsm.ct, hsm.dl, rfl, hsm.sn, hsm.la, rfl⟩, h.un, h.tr, h.gv, hst, fun h3 => ⟨by dsimp only; omega, by dsimp only; omega⟩, h.lt⟩
  · rw [if_neg h1, if_neg (show ¬ ((i : Int) < (idx : Int) ∧ x.2.st = 1) from fun h2 => h1 ⟨h2.2, by omega⟩)]
    exact ⟨h, by omega⟩
theorem octA_snoc (es : List En) (e : En) : octsA (es ++ [e]) = octsA es + e.c.da.2.1 := by
  unfold octsA
  rw [List.length_append, List.length_singleton, sumF]
  have h1 : ∀ k, k ≤ es.length → sumF (octA (es ++ [e])) k = sumF (octA es) k := by
    intro k
    induction k with
    | zero => intro _; rfl
    | succ k ih =>
      intro hk
      rw [sumF, sumF, ih (by omega)]
      unfold octA
      rw [List.getElem?_append_left (by omega)]
  rw [h1 _ (Nat.le_refl _)]
  unfold octA
  simp
section
variable {mg : Nat → Mg} {ct : Int} {L : PL} (hL : ∀ x ∈ L, Pr mg ct x) (bl : List (Int × Int))
include hL
theorem cam_sim : ∀ i, i ≤ L.length → octsA (camG bl (L.map Prod.fst) i) = rCb bl (L.map Prod.snd) i ∧ rTop bl (L.map Prod.snd) i = if camG bl (L.map Prod.fst) i = [] then -1 else ((lastI bl (L.map Prod.fst) i : Nat) : Int) := by
  intro i
  induction i with
  | zero => intro _; exact ⟨rfl, rfl⟩
  | succ i ih =>
    intro hi
    obtain ⟨h1, h2⟩ := ih (by omega)
    have hli : i < L.length := by omega
    have hx := hL _ (List.getElem_mem hli)
    have e1 : (L.map Prod.fst)[i]? = some (L[i]).1 := by rw [List.getElem?_map, List.getElem?_eq_getElem hli]; rfl
    have e2 : (L.map Prod.snd)[i]? = some (L[i]).2 := by rw [List.getElem?_map, List.getElem?_eq_getElem hli]; rfl
    by_cases hc : toldB bl i = true ∧ ((L[i]).1.st = 1 ∨ (L[i]).1.st = 2)
    · have hr := (come_hit hx bl i).1 hc
      have hcg : camG bl (L.map Prod.fst) (i + 1) = camG bl (L.map Prod.fst) i ++ [{ (L[i]).1 with st := 3 }] := by rw [camG, e1]; dsimp only; rw [if_pos hc]
      rw [hcg, rCb, rTop, lastI, e1, e2]
      dsimp only
      rw [if_pos hr, if_pos hr, if_pos hc, octA_snoc, h1, if_neg (show ¬ (camG bl (L.map Prod.fst) i ++ [({ (L[i]).1 with st := 3 } : En)] = []) by simp)]
      exact ⟨by rw [← hx.sm.dl], rfl⟩
    · have hr : ¬ rHit bl i (L[i]).2 = true := fun h => hc ((come_hit hx bl i).2 h)
      have hcg : camG bl (L.map Prod.fst) (i + 1) = camG bl (L.map Prod.fst) i := by rw [camG, e1]; dsimp only; rw [if_neg hc, List.append_nil]
      rw [hcg, rCb, rTop, lastI, e1, e2]
      dsimp only
      rw [if_neg hr, if_neg hr, if_neg hc]
      exact ⟨by rw [h1]; rfl, h2⟩
theorem gone_sim (now : Int) (hw : ∀ x ∈ L, x.1.st ≠ 0) : ∀ i, i ≤ L.length → octsL ((L.take i).map Prod.fst) [1, 2] = rBy (L.map Prod.snd) i ∧ smp now (L.map Prod.fst) i = rSa now (L.map Prod.snd) i := by
  intro i
  induction i with
  | zero => intro _; exact ⟨by simp [octsL, rBy], rfl⟩
  | succ i ih =>
    intro hi
    obtain ⟨h1, h2⟩ := ih (by omega)
    have hli : i < L.length := by omega
    have hx := hL _ (List.getElem_mem hli)
    have hw0 := hw _ (List.getElem_mem hli)
    have e1 : (L.map Prod.fst)[i]? = some (L[i]).1 := by rw [List.getElem?_map, List.getElem?_eq_getElem hli]; rfl
    have e2 : (L.map Prod.snd)[i]? = some (L[i]).2 := by rw [List.getElem?_map, List.getElem?_eq_getElem hli]; rfl
    have hst := hx.st
    have hs := hx.sm.st
    rw [rBy, rSa, smp, e1, e2, ← h1, ← h2, List.take_add_one, List.getElem?_eq_getElem hli, List.map_append, octsL_app]
    dsimp only
    by_cases ho : rOff (L[i]).2 = true
    · have hn : ¬ ((L[i]).1.st = 1 ∨ (L[i]).1.st = 2) := by unfold rOff at ho; simp at ho; omega
      rw [if_pos ho, if_neg (fun h => hn h.1), ho]
      refine ⟨?_, rfl⟩
      show _ + octsL [(L[i]).1] [1, 2] = _
      rw [octsL_none (es := [(L[i]).1]) fun e he => by rw [List.mem_singleton.1 he]; simpa using hn]
    · have ho' : rOff (L[i]).2 = false := by simpa using ho
      have hn : (L[i]).1.st = 1 ∨ (L[i]).1.st = 2 := by unfold rOff at ho; simp at ho; omega
      rw [if_neg ho, ho']
      refine ⟨?_, ?_⟩
      · congr 1
        simp [octsL, hn, lenE, hx.sm.dl]
      · rw [hx.sm.sn, hx.sm.la]
        by_cases h3 : (L[i]).2.sn = 1
        · rw [if_pos ⟨hn, h3⟩, if_pos (by simp [h3])]
        · rw [if_neg (fun h => h3 h.2), if_neg (by simp [h3])]
theorem miss_sim (idx : Nat) : ∀ i, i ≤ L.length → missL idx (L.map Prod.fst) i = rLo (idx : Int) (L.map Prod.snd) i := by
  intro i
  induction i with
  | zero => intro _; rfl
  | succ i ih =>
    intro hi
    have hli : i < L.length := by omega
    have hx := hL _ (List.getElem_mem hli)
    have e1 : (L.map Prod.fst)[i]? = some (L[i]).1 := by rw [List.getElem?_map, List.getElem?_eq_getElem hli]; rfl
    have e2 : (L.map Prod.snd)[i]? = some (L[i]).2 := by rw [List.getElem?_map, List.getElem?_eq_getElem hli]; rfl
    rw [missL, rLo, ih (by omega), e1, e2]
    dsimp only
    congr 1
    rw [Bool.eq_iff_iff, decide_eq_true_eq, decide_eq_true_eq]
    exact (pr_miss hx idx i).2
end
/-- The document's Ack. -/
def rAk (p : Rm) (n : Nat) (bl : List (Int × Int)) : List RE := ((p.rs.drop n).mapIdx (rCome bl)).mapIdx (rMis (rTop bl (p.rs.drop n) (p.rs.drop n).length))
structure RAck (p : Rm) (n : Nat) (bl : List (Int × Int)) (now : Int) (r : AckR) : Prop where
  by_ : r.by_ = rBy (p.rs.take n) n + rCb bl (p.rs.drop n) (p.rs.drop n).length
  sa : r.sa = rSa now (p.rs.take n) n
  lo : r.lo = rLo (rTop bl (p.rs.drop n) (p.rs.drop n).length) ((p.rs.drop n).mapIdx (rCome bl)) ((p.rs.drop n).mapIdx (rCome bl)).length
  mo : r.mo = decide (0 < n)
theorem Sim.reach {l : PL} {q : Qm} {p : Rm} (h : Sim l q p) {cum : Int} (hc : 0 ≤ cum ∧ cum < 4294967296) : reachedB q cum = rMayB p cum ∧ (reachedB q cum = true → rGo p cum = ((stp q cum : Nat) : Int)) := by
  have hfl := flr_in q
  have hll : q.es.length = l.length := by rw [h.es, List.length_map]
  have hrl : p.rs.length = l.length := by rw [h.rs, List.length_map]
  have hg : rGo p cum = dist32 (Go.Proofs.Ytffjdknmfmlfnaa.flr q) cum := by unfold rGo; rw [h.flr]
  obtain ⟨d, hd⟩ : ∃ d : Nat, dist32 (Go.Proofs.Ytffjdknmfmlfnaa.flr q) cum = (d : Int) := ⟨(dist32 (Go.Proofs.Ytffjdknmfmlfnaa.flr q) cum).toNat, by unfold dist32 dist; omega⟩
  have hdn : cum = (Go.Proofs.Ytffjdknmfmlfnaa.flr q + (d : Int)) % 4294967296 ∧ (d : Int) < 4294967296 := by unfold dist32 dist at hd; omega
  unfold reachedB rMayB
  rw [hg, hd, hrl]
  by_cases hr : d ≤ l.length
  · have hst : stp q cum = d := by unfold stp; rw [hd, if_pos (by omega)]; omega
    have h1 : (decide (0 < d) || cum == Go.Proofs.Ytffjdknmfmlfnaa.flr q) = true := by
      rcases Nat.eq_zero_or_pos d with h0 | h0
      · have : cum = Go.Proofs.Ytffjdknmfmlfnaa.flr q := by omega
        rw [this]
        simp
      · simp [h0]
    rw [hst, h1, Bool.true_and, decide_eq_true (show (d : Int) ≤ (l.length : Int) by omega), Bool.true_and, Int.toNat_natCast]
    refine ⟨?_, fun _ => rfl⟩
    rw [h.es, h.rs, ← List.map_take, ← List.map_take, List.any_map, List.all_map, List.not_any_eq_all_not]
    rw [Bool.eq_iff_iff, List.all_eq_true, List.all_eq_true]
    refine ⟨fun h2 x hx => ?_, fun h2 x hx => ?_⟩
    · have h3 := h2 x hx
      have h4 := (h.al x (List.mem_of_mem_take hx)).sm.st
      simp only [Function.comp_apply, waitsB] at h3 ⊢
      rwa [h4] at h3
    · have h3 := h2 x hx
      have h4 := (h.al x (List.mem_of_mem_take hx)).sm.st
      simp only [Function.comp_apply, waitsB] at h3 ⊢
      rwa [h4]
  · have hst : stp q cum = 0 := by unfold stp; rw [hd, if_neg (by omega)]
    have h1 : ¬ cum = Go.Proofs.Ytffjdknmfmlfnaa.flr q := by omega
    rw [hst, decide_eq_false (show ¬ (d : Int) ≤ (l.length : Int) by omega)]
    simp [h1]
theorem Sim.ack {l : PL} {q : Qm} {p : Rm} (h : Sim l q p) {cum : Int} (bl : List (Int × Int)) (now : Int) (hre : reachedB q cum = true) : (∃ l', Sim l' (ackQ q cum bl) { p with rs := rAk p (stp q cum) bl }) ∧ RAck p (stp q cum) bl now (ackR q cum bl now) := by
  have hll : q.es.length = l.length := by rw [h.es, List.length_map]
  have hk : stp q cum ≤ l.length := by have := stp_le q cum; omega
  obtain ⟨k, hk2⟩ : ∃ k, stp q cum = k := ⟨_, rfl⟩
  have hgo : goneL q cum = (l.take k).map Prod.fst := by unfold goneL; rw [hk2, h.es, List.map_take]
  have hle : leftL q cum = (l.drop k).map Prod.fst := by unfold leftL; rw [hk2, h.es, List.map_drop]
  have hrt : p.rs.take k = (l.take k).map Prod.snd := by rw [h.rs, List.map_take]
  have hrd : p.rs.drop k = (l.drop k).map Prod.snd := by rw [h.rs, List.map_drop]
  have hal : ∀ x ∈ l.drop k, Pr q.mg p.ct x := fun x hx => h.al x (List.mem_of_mem_drop hx)
  have hat : ∀ x ∈ l.take k, Pr q.mg p.ct x := fun x hx => h.al x (List.mem_of_mem_take hx)
  have hlen : (leftL q cum).length = (l.drop k).length := by rw [hle, List.length_map]
  have hgl : (goneL q cum).length = (l.take k).length := by rw [hgo, List.length_map]
  have htk : (l.take k).length = k := by rw [List.length_take]; omega
  obtain ⟨c1, c2⟩ := cam_sim hal bl (l.drop k).length (Nat.le_refl _)
  have hcl : camL q cum bl = camG bl ((l.drop k).map Prod.fst) (l.drop k).length := by unfold camL; rw [hlen, hle]
  have hla : lasI q cum bl = lastI bl ((l.drop k).map Prod.fst) (l.drop k).length := by unfold lasI; rw [hlen, hle]
  rw [← hcl, ← hla] at c2
  rw [← hcl] at c1
  have hmid : midL q cum bl = ((l.drop k).mapIdx fun i x => (comeE bl i x.1, rCome bl i x.2)).map Prod.fst := by
    unfold midL
    rw [hle]
    apply List.ext_getElem?
    intro i
    simp [List.getElem?_mapIdx, List.getElem?_map, Option.map_map, Function.comp_def]
  have hrm : (p.rs.drop k).mapIdx (rCome bl) = ((l.drop k).mapIdx fun i x => (comeE bl i x.1, rCome bl i x.2)).map Prod.snd := by
    rw [hrd]
    apply List.ext_getElem?
    intro i
    simp [List.getElem?_mapIdx, List.getElem?_map, Option.map_map, Function.comp_def]
  obtain ⟨M, hM⟩ : ∃ M : PL, ((l.drop k).mapIdx fun i x => (comeE bl i x.1, rCome bl i x.2)) = M := ⟨_, rfl⟩
  rw [hM] at hmid hrm
  have hMal : ∀ x ∈ M, Pr q.mg p.ct x := fun x hx => by
    rw [← hM] at hx
    obtain ⟨i, hi, rfl⟩ := List.mem_mapIdx.1 hx
    exact pr_come (hal _ (List.getElem_mem hi)) bl i
  have hMmm : Mm M := by
    rw [← hM]
    refine (h.mm.sub fun x hx => List.mem_of_mem_drop hx).mapIdx fun i x => ⟨?_, ?_⟩
    · dsimp only; unfold comeE; split <;> split <;> rfl
    · dsimp only; unfold rCome; split
      · rfl
      · split <;> rfl
  have hrl : (p.rs.drop k).length = (l.drop k).length := by rw [hrd, List.length_map]
  have htop : rTop bl (p.rs.drop k) (p.rs.drop k).length = if camL q cum bl = [] then -1 else ((lasI q cum bl : Nat) : Int) := by rw [hrl, hrd]; exact c2
  have hwt : ∀ x ∈ l.take k, x.1.st ≠ 0 := fun x hx h0 => by
    unfold reachedB at hre
    rw [Bool.and_eq_true, Bool.not_eq_true', List.any_eq_false] at hre
    have h1 := hre.2 x.1 (by rw [hk2, h.es, ← List.map_take]; exact List.mem_map_of_mem hx)
    unfold waitsB at h1
    rw [h0] at h1
    exact h1 rfl
  obtain ⟨g1, g2⟩ := gone_sim hat now hwt k (by omega)
  rw [List.take_of_length_le (by omega)] at g1
  have hby : octs (goneL q cum) [1, 2] + octsA (camL q cum bl) = rBy (p.rs.take k) k + rCb bl (p.rs.drop k) (p.rs.drop k).length := by
    rw [octs_eq, hgo, g1, hrt, c1, hrl, hrd]
  have hsa : smp now (goneL q cum) (goneL q cum).length = rSa now (p.rs.take k) k := by rw [hgl, htk, hgo, g2, hrt]
  by_cases hcam : camL q cum bl = []
  · rw [if_pos hcam] at htop
    have hmis : ∀ i r, rMis (-1) i r = r := fun i r => by unfold rMis; rw [if_neg (by omega)]
    have hlo : ∀ rs i, rLo (-1) rs i = false := fun rs i => by
      induction i with
      | zero => rfl
      | succ i ih =>
        rw [rLo, ih, Bool.false_or]
        split
        · exact decide_eq_false (by omega)
        · rfl
    refine ⟨⟨M, ?_, ?_, h.nx, hMal, hMmm⟩, ?_, ?_, ?_, ?_⟩
    · show ackE q cum bl = _
      unfold ackE
      rw [if_pos hcam, hmid]
    · show rAk p (stp q cum) bl = _
      unfold rAk
      rw [hk2, htop, hrm]
      apply List.ext_getElem?
      intro i
      rw [List.getElem?_mapIdx]
      cases (M.map Prod.snd)[i]? with
      | none => rfl
      | some r => exact congrArg some (hmis i r)
    · rw [hk2]; exact hby
    · rw [hk2]; exact hsa
    · show (if camL q cum bl = [] then false else _) = _
      rw [if_pos hcam, hk2, htop, hlo]
    · rfl
  · rw [if_neg hcam] at htop
    refine ⟨⟨M.mapIdx fun i x => (missE (lasI q cum bl) i x.1, rMis (lasI q cum bl : Int) i x.2), ?_, ?_, h.nx, fun x hx => ?_, hMmm.mapIdx fun i x => ⟨?_, ?_⟩⟩, ?_, ?_, ?_, ?_⟩
    · show ackE q cum bl = _
      unfold ackE
      rw [if_neg hcam, hmid]
      apply List.ext_getElem?
      intro i
      simp [List.getElem?_mapIdx, List.getElem?_map, Option.map_map, Function.comp_def]
    · show rAk p (stp q cum) bl = _
      unfold rAk
      rw [hk2, htop, hrm]
      apply List.ext_getElem?
      intro i
      simp [List.getElem?_mapIdx, List.getElem?_map, Option.map_map, Function.comp_def]
    · obtain ⟨i, hi, rfl⟩ := List.mem_mapIdx.1 hx
      exact (pr_miss (hMal _ (List.getElem_mem hi)) _ i).1
    · dsimp only; unfold missE; split
      · split <;> rfl
      · rfl
    · dsimp only; unfold rMis; split
      · split <;> rfl
      · rfl
    · rw [hk2]; exact hby
    · rw [hk2]; exact hsa
    · show (if camL q cum bl = [] then false else _) = _
      rw [if_neg hcam, hk2, htop, hmid, hrm, List.length_map, List.length_map]
      exact miss_sim hMal _ _ (Nat.le_refl _)
    · rfl
end
end Go.Proofs.Ytffjdknmfmlfnaa
