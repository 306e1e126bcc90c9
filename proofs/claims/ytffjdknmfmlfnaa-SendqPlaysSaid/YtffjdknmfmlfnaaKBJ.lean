/- KBJ of the stage: texts S4, R4, joined. -/
import Derived.Test.YtffjdknmfmlfnaaKBI
import Derived.Deep.MidRow
import Derived.Deep.WholeRow
set_option linter.unusedSimpArgs false
set_option linter.unusedVariables false
namespace Go.Proofs.Ytffjdknmfmlfnaa
section
open Go.RowKit Go.Maps

/-- Is an entry a reason to give its message up? -/
def rLateB (now : Int) (r : RE) : Bool := (decide (0 ≤ r.un) && decide (r.un < now)) || (decide (0 ≤ r.tr) && (r.st == 2) && decide (r.tr < r.sn))
def rOver (rs : List RE) (m now : Int) : Bool := rs.any (fun r => r.mg == m && decide (r.st < 3)) && rs.any (fun r => r.mg == m && rLateB now r)
def rGiv (m : Int) (r : RE) : RE := if r.mg = m then { r with st := 4 } else r
/-- Behind the first i entries: the entries, how many messages were given up. -/
def rEx (now : Int) (rs : List RE) : Nat → List RE × Nat
  | 0 => (rs, 0)
  | i + 1 => match (rEx now rs i).1[i]? with | some r => if rOver (rEx now rs i).1 r.mg now = true then ((rEx now rs i).1.map (rGiv r.mg), (rEx now rs i).2 + 1) else rEx now rs i | none => rEx now rs i
/-- The messages that are taken, one by one, each once. -/
def gre (c : En × RE → Bool) (l : PL) : Nat → List Nat
  | 0 => []
  | i + 1 => match l[i]? with | some x => if c x = true ∧ x.1.m ∉ gre c l i then gre c l i ++ [x.1.m] else gre c l i | none => gre c l i
theorem gre_nd (c : En × RE → Bool) (l : PL) : ∀ i, (gre c l i).Nodup
  | 0 => List.nodup_nil
  | i + 1 => by
    rw [gre]
    split
    · split
      · rename_i h
        rw [List.nodup_append]
        refine ⟨gre_nd c l i, by simp, fun a ha b hb => ?_⟩
        rw [List.mem_singleton.1 hb]
        intro h2
        rw [h2] at ha
        exact h.2 ha
      · exact gre_nd c l i
    · exact gre_nd c l i
theorem gre_mem (c : En × RE → Bool) (l : PL) : ∀ i (m : Nat), m ∈ gre c l i ↔ ∃ (j : Nat) (x : En × RE), j < i ∧ l[j]? = some x ∧ c x = true ∧ x.1.m = m
  | 0, m => by simp [gre]
  | i + 1, m => by
    have ih := gre_mem c l i
    constructor
    · intro h
      rw [gre] at h
      cases hx : l[i]? with
      | none =>
        rw [hx] at h
        obtain ⟨j, x, h1, h2⟩ := (ih m).1 h
        exact ⟨j, x, by omega, h2⟩
      | some x =>
        rw [hx] at h
        dsimp only at h
        by_cases hc : c x = true ∧ x.1.m ∉ gre c l i
        · rw [if_pos hc] at h
          rcases List.mem_append.1 h with h | h
          · obtain ⟨j, y, h1, h2⟩ := (ih m).1 h
            exact ⟨j, y, by omega, h2⟩
          · exact ⟨i, x, by omega, hx, hc.1, (List.mem_singleton.1 h).symm⟩
        · rw [if_neg hc] at h
          obtain ⟨j, y, h1, h2⟩ := (ih m).1 h
          exact ⟨j, y, by omega, h2⟩
    · rintro ⟨j, x, h1, h2, h3, h4⟩
      have hsub : ∀ m', m' ∈ gre c l i → m' ∈ gre c l (i + 1) := fun m' hm => by
        rw [gre]
        split
        · split
          · exact List.mem_append_left _ hm
          · exact hm
        · exact hm
      by_cases hj : j < i
      · exact hsub m ((ih m).2 ⟨j, x, hj, h2, h3, h4⟩)
      · obtain rfl : j = i := by omega
        by_cases hm : x.1.m ∈ gre c l j
        · rw [← h4]; exact hsub _ hm
        · rw [gre, h2]
          dsimp only
          rw [if_pos ⟨h3, hm⟩, ← h4]
          exact List.mem_append_right _ (List.mem_singleton.2 rfl)
theorem nd_le : ∀ {a b : List Nat}, a.Nodup → (∀ x ∈ a, x ∈ b) → a.length ≤ b.length
  | [], b, _, _ => Nat.zero_le _
  | x :: r, b, hn, hs => by
    rw [List.nodup_cons] at hn
    have h1 := nd_le (a := r) (b := b.erase x) hn.2 fun y hy => by
      refine (List.mem_erase_of_ne ?_).2 (hs y (List.mem_cons_of_mem _ hy))
      intro h2
      rw [h2] at hy
      exact hn.1 hy
    have h2 := List.length_erase_of_mem (hs x (List.mem_cons_self ..))
    have h3 : 0 < b.length := List.length_pos_of_mem (hs x (List.mem_cons_self ..))
    rw [List.length_cons]
    omega
section
variable {mg : Nat → Mg} {ct now : Int} {l : PL}
def cP (mg : Nat → Mg) (now : Int) (x : En × RE) : Bool := (x.1.st == 0 || x.1.st == 1 || x.1.st == 2) && expB now x.1 (mg x.1.m)
def cR (l : PL) (now : Int) (x : En × RE) : Bool := rOver (l.map Prod.snd) x.2.mg now
theorem exp_late (h : ∀ x ∈ l, Pr mg ct x) {x : En × RE} (hx : x ∈ l) : expB now x.1 (mg x.1.m) = rLateB now x.2 := by
  have hp := h x hx
  unfold expB rLateB
  rw [hp.un, hp.tr, hp.sm.st, hp.sm.sn]
theorem open_st (h : ∀ x ∈ l, Pr mg ct x) {x : En × RE} (hx : x ∈ l) : (x.1.st == 0 || x.1.st == 1 || x.1.st == 2) = decide (x.2.st < 3) := by
  have hp := h x hx
  have := hp.st
  rw [hp.sm.st, Bool.eq_iff_iff, decide_eq_true_eq]
  simp
  omega
/-- A message is to be given up just if one of its entries that are open is a reason. -/
theorem over_iff (h : ∀ x ∈ l, Pr mg ct x) (hm : Mm l) {x : En × RE} (hx : x ∈ l) : cR l now x = true ↔ ∃ y ∈ l, y.1.m = x.1.m ∧ cP mg now y = true := by
  unfold cR rOver
  rw [Bool.and_eq_true, List.any_map, List.any_map, List.any_eq_true, List.any_eq_true]
  simp only [Function.comp_apply, Bool.and_eq_true, beq_iff_eq, decide_eq_true_eq]
  constructor
  · rintro ⟨⟨y, hy, hy1, hy2⟩, ⟨z, hz, hz1, hz2⟩⟩
    have hpy := h y hy
    have hpz := h z hz
    have em : y.1.m = x.1.m := (hm y hy x hx).2 hy1
    have emz : z.1.m = x.1.m := (hm z hz x hx).2 hz1
    have hz3 := hz2
    unfold rLateB at hz3
    rw [Bool.or_eq_true] at hz3
    rcases hz3 with h1 | h1
    · refine ⟨y, hy, em, ?_⟩
      unfold cP
      rw [open_st h hy, exp_late h hy, decide_eq_true hy2, Bool.true_and]
      unfold rLateB
      have e1 : y.2.un = z.2.un := by rw [← hpy.un, ← hpz.un, em, emz]
      rw [e1, h1, Bool.true_or]
    · refine ⟨z, hz, emz, ?_⟩
      unfold cP
      rw [open_st h hz, exp_late h hz, hz2, Bool.and_true, decide_eq_true_eq]
      simp at h1
      omega
  · rintro ⟨y, hy, em, hc⟩
    unfold cP at hc
    rw [open_st h hy, exp_late h hy, Bool.and_eq_true, decide_eq_true_eq] at hc
    have e := (hm y hy x hx).1 em
    exact ⟨⟨y, hy, e, hc.1⟩, ⟨y, hy, e, hc.2⟩⟩
def gvM (mg : Nat → Mg) (D : List Nat) : Nat → Mg := fun m => if m ∈ D then ⟨(mg m).un, (mg m).tr, true⟩ else mg m
theorem ex_prog (h : ∀ x ∈ l, Pr mg ct x) : ∀ i, exM now (l.map Prod.fst) mg i = gvM mg (gre (cP mg now) l i) ∧ exN now (l.map Prod.fst) mg i = (gre (cP mg now) l i).length
  | 0 => by
    refine ⟨?_, rfl⟩
    funext m
    simp [exM, gvM, gre]
  | i + 1 => by
    obtain ⟨h1, h2⟩ := ex_prog h i
    rw [exM, exN, h1, h2, List.getElem?_map]
    cases hx : l[i]? with
    | none =>
      have : gre (cP mg now) l (i + 1) = gre (cP mg now) l i := by rw [gre, hx]
      rw [this]
      exact ⟨rfl, rfl⟩
    | some x =>
      have hp := h x (List.mem_of_getElem? hx)
      have hst := open_st h (List.mem_of_getElem? hx)
      simp only [Option.map_some]
      have hc : exC now (gvM mg (gre (cP mg now) l i)) x.1 = true ↔ (cP mg now x = true ∧ x.1.m ∉ gre (cP mg now) l i) := by
        generalize gre (cP mg now) l i = D
        unfold exC cP gvM
        by_cases hm : x.1.m ∈ D
        · rw [if_pos hm]
          simp [hm]
        · rw [if_neg hm]
          simp only [hm, not_false_eq_true, and_true, Bool.and_eq_true]
          constructor
          · rintro ⟨⟨a, b⟩, c⟩
            exact ⟨a, c⟩
          · rintro ⟨a, c⟩
            refine ⟨⟨a, ?_⟩, c⟩
            rw [Bool.not_eq_true']
            cases hg : (mg x.1.m).gv with
            | false => rfl
            | true =>
              have h4 := hp.gv.1 hg
              rw [hst, decide_eq_true_eq] at a
              omega
      by_cases hcc : cP mg now x = true ∧ x.1.m ∉ gre (cP mg now) l i
      · have hg : gre (cP mg now) l (i + 1) = gre (cP mg now) l i ++ [x.1.m] := by rw [gre, hx]; dsimp only; rw [if_pos hcc]
        rw [if_pos (hc.2 hcc), if_pos (hc.2 hcc), hg]
        refine ⟨?_, by simp⟩
        funext m
        unfold setGv gvM
        by_cases hm : m = x.1.m
        · subst hm
          rw [if_pos rfl, if_neg hcc.2, if_pos (by simp)]
        · rw [if_neg hm]
          by_cases hm2 : m ∈ gre (cP mg now) l i
          · rw [if_pos hm2, if_pos (by simp [hm2])]
          · rw [if_neg hm2, if_neg (by simp [hm2, hm])]
      · have hg : gre (cP mg now) l (i + 1) = gre (cP mg now) l i := by rw [gre, hx]; dsimp only; rw [if_neg hcc]
        rw [if_neg (fun h9 => hcc (hc.1 h9)), if_neg (fun h9 => hcc (hc.1 h9)), hg]
        exact ⟨rfl, rfl⟩
def gvR (D : List Nat) (x : En × RE) : RE := if x.1.m ∈ D then { x.2 with st := 4 } else x.2
theorem gvR_mg (D : List Nat) (x : En × RE) : (gvR D x).mg = x.2.mg := by unfold gvR; split <;> rfl
theorem over_gv (h : ∀ x ∈ l, Pr mg ct x) (hm : Mm l) (D : List Nat) {x : En × RE} (hx : x ∈ l) : rOver (l.map (gvR D)) x.2.mg now = true ↔ (cR l now x = true ∧ x.1.m ∉ D) := by
  have key : ∀ p : RE → Bool, x.1.m ∉ D → ((l.map (gvR D)).any (fun r => r.mg == x.2.mg && p r) = (l.map Prod.snd).any fun r => r.mg == x.2.mg && p r) := fun p hD => by
    rw [Bool.eq_iff_iff, List.any_map, List.any_map, List.any_eq_true, List.any_eq_true]
    simp only [Function.comp_apply, Bool.and_eq_true, beq_iff_eq]
    have e1 : ∀ y ∈ l, y.2.mg = x.2.mg → gvR D y = y.2 := fun y hy he => by
      unfold gvR
      rw [if_neg]
      rw [(hm y hy x hx).2 he]
      exact hD
    constructor
    · rintro ⟨y, hy, h1, h2⟩
      rw [gvR_mg] at h1
      rw [e1 y hy h1] at h2
      exact ⟨y, hy, h1, h2⟩
    · rintro ⟨y, hy, h1, h2⟩
      exact ⟨y, hy, by rw [gvR_mg]; exact h1, by rw [e1 y hy h1]; exact h2⟩
  by_cases hD : x.1.m ∈ D
  · refine ⟨fun h1 => ?_, fun h1 => absurd hD h1.2⟩
    unfold rOver at h1
    rw [Bool.and_eq_true, List.any_map, List.any_eq_true] at h1
    obtain ⟨⟨y, hy, h2⟩, _⟩ := h1
    simp only [Function.comp_apply, Bool.and_eq_true, beq_iff_eq, decide_eq_true_eq] at h2
    rw [gvR_mg] at h2
    have e := (hm y hy x hx).2 h2.1
    have h3 := h2.2
    unfold gvR at h3
    rw [if_pos (by rw [e]; exact hD)] at h3
    dsimp only at h3
    omega
  · unfold cR rOver
    rw [key _ hD, key _ hD]
    simp [hD]
theorem ex_ref (h : ∀ x ∈ l, Pr mg ct x) (hm : Mm l) : ∀ i, rEx now (l.map Prod.snd) i = (l.map (gvR (gre (cR l now) l i)), (gre (cR l now) l i).length)
  | 0 => by
    have : l.map (gvR (gre (cR l now) l 0)) = l.map Prod.snd := List.map_congr_left fun x _ => by simp [gvR, gre]
    rw [this]
    rfl
  | i + 1 => by
    have ih := ex_ref h hm i
    rw [rEx, ih]
    dsimp only
    rw [List.getElem?_map]
    cases hx : l[i]? with
    | none =>
      have : gre (cR l now) l (i + 1) = gre (cR l now) l i := by rw [gre, hx]
      rw [this]
      rfl
    | some x =>
      have hxl := List.mem_of_getElem? hx
      simp only [Option.map_some]
      rw [gvR_mg]
      have ho := over_gv (now := now) h hm (gre (cR l now) l i) hxl
      by_cases hc : cR l now x = true ∧ x.1.m ∉ gre (cR l now) l i
      · have hg : gre (cR l now) l (i + 1) = gre (cR l now) l i ++ [x.1.m] := by rw [gre, hx]; dsimp only; rw [if_pos hc]
        rw [if_pos (ho.2 hc), hg, List.length_append, List.length_singleton, List.map_map]
        congr 1
        refine List.map_congr_left fun y hy => ?_
        have e := hm y hy x hxl
        simp only [Function.comp_apply]
        unfold rGiv
        rw [gvR_mg]
        unfold gvR
        by_cases h1 : y.2.mg = x.2.mg
        · rw [if_pos h1, if_pos (show y.1.m ∈ gre (cR l now) l i ++ [x.1.m] by rw [e.2 h1]; simp)]
          split <;> rfl
        · have h2 : ¬ y.1.m = x.1.m := fun h3 => h1 (e.1 h3)
          rw [if_neg h1]
          by_cases h3 : y.1.m ∈ gre (cR l now) l i
          · rw [if_pos h3, if_pos (by simp [h3])]
          · rw [if_neg h3, if_neg (by simp [h3, h2])]
      · have hg : gre (cR l now) l (i + 1) = gre (cR l now) l i := by rw [gre, hx]; dsimp only; rw [if_neg hc]
        rw [if_neg (fun h9 => hc (ho.1 h9)), hg]
end
theorem Sim.expire {l : PL} {q : Qm} {p : Rm} (h : Sim l q p) (now : Int) : (∃ l', Sim l' ⟨q.es.map (gvE (exM now q.es q.mg q.es.length)), q.nx, exM now q.es q.mg q.es.length⟩ { p with rs := (rEx now p.rs p.rs.length).1 }) ∧ exN now q.es q.mg q.es.length = (rEx now p.rs p.rs.length).2 := by
  have hll : q.es.length = l.length := by rw [h.es, List.length_map]
  have hrl : p.rs.length = l.length := by rw [h.rs, List.length_map]
  obtain ⟨p1, p2⟩ := ex_prog (now := now) h.al l.length
  have p3 := ex_ref (now := now) h.al h.mm l.length
  rw [← h.es] at p1 p2
  rw [← h.rs] at p3
  rw [hll, hrl, p1, p2, p3]
  have hmem : ∀ m, m ∈ gre (cP q.mg now) l l.length ↔ m ∈ gre (cR l now) l l.length := fun m => by
    rw [gre_mem, gre_mem]
    constructor
    · rintro ⟨j, x, h1, h2, h3, h4⟩
      exact ⟨j, x, h1, h2, (over_iff h.al h.mm (List.mem_of_getElem? h2)).2 ⟨x, List.mem_of_getElem? h2, rfl, h3⟩, h4⟩
    · rintro ⟨j, x, h1, h2, h3, h4⟩
      obtain ⟨y, hy, e, hc⟩ := (over_iff h.al h.mm (List.mem_of_getElem? h2)).1 h3
      obtain ⟨k, hk⟩ := List.getElem?_of_mem hy
      exact ⟨k, y, (List.getElem?_eq_some_iff.1 hk).1, hk, hc, by rw [e]; exact h4⟩
  refine ⟨⟨l.map fun x => (gvE (gvM q.mg (gre (cP q.mg now) l l.length)) x.1, gvR (gre (cR l now) l l.length) x), ?_, ?_, h.nx, ?_, ?_⟩, Nat.le_antisymm (nd_le (gre_nd _ _ _) fun m hm => (hmem m).1 hm) (nd_le (gre_nd _ _ _) fun m hm => (hmem m).2 hm)⟩
  · show q.es.map _ = _
    rw [h.es, List.map_map, List.map_map]
    rfl
  · show l.map _ = _
    rw [List.map_map]
    rfl
  · intro y hy
    obtain ⟨x, hx, rfl⟩ := List.mem_map.1 hy
    have hp := h.al x hx
    have hst := hp.st
    have hs := hp.sm.st
    have hgm : (gvE (gvM q.mg (gre (cP q.mg now) l l.length)) x.1).m = x.1.m := by unfold gvE; split <;> rfl
    by_cases hD : x.1.m ∈ gre (cR l now) l l.length
    · have hP := (hmem _).2 hD
      have e1 : gvM q.mg (gre (cP q.mg now) l l.length) x.1.m = ⟨(q.mg x.1.m).un, (q.mg x.1.m).tr, true⟩ := by unfold gvM; rw [if_pos hP]
      have e2 : gvR (gre (cR l now) l l.length) x = { x.2 with st := 4 } := by unfold gvR; rw [if_pos hD]
      have e3 : gvE (gvM q.mg (gre (cP q.mg now) l l.length)) x.1 = { x.1 with st := 4 } := by
        unfold gvE
        rw [e1]
        by_cases h4 : x.1.st = 4
        · rw [if_neg (by omega), ← h4]
        · rw [if_pos ⟨by omega, rfl⟩]
      dsimp only
      rw [e2, e3]
      refine ⟨⟨hp.sm.ct, hp.sm.dl, rfl, hp.sm.sn, hp.sm.la, hp.sm.ms⟩, ?_, ?_, ?_, ?_, ?_, hp.lt⟩
      · show (gvM q.mg _ x.1.m).un = _
        rw [e1]; exact hp.un
      · show (gvM q.mg _ x.1.m).tr = _
        rw [e1]; exact hp.tr
      · show (gvM q.mg _ x.1.m).gv = true ↔ (4 : Int) = 4
        rw [e1]; simp
      · show (0 : Int) ≤ 4 ∧ (4 : Int) ≤ 4; omega
      · intro h9; exact absurd h9 (by show ¬ (4 : Int) = 1; omega)
    · have hP : x.1.m ∉ gre (cP q.mg now) l l.length := fun h9 => hD ((hmem _).1 h9)
      have e1 : gvM q.mg (gre (cP q.mg now) l l.length) x.1.m = q.mg x.1.m := by unfold gvM; rw [if_neg hP]
      have e2 : gvR (gre (cR l now) l l.length) x = x.2 := by unfold gvR; rw [if_neg hD]
      have e3 : gvE (gvM q.mg (gre (cP q.mg now) l l.length)) x.1 = x.1 := by
        unfold gvE
        rw [e1, if_neg]
        rintro ⟨h4, h5⟩
        have h6 := hp.gv.1 h5
        omega
      dsimp only
      rw [e2, e3]
      refine ⟨hp.sm, ?_, ?_, ?_, hp.st, hp.fl, hp.lt⟩
      · show (gvM q.mg _ x.1.m).un = _
        rw [e1]; exact hp.un
      · show (gvM q.mg _ x.1.m).tr = _
        rw [e1]; exact hp.tr
      · show (gvM q.mg _ x.1.m).gv = true ↔ _
        rw [e1]; exact hp.gv
  · refine h.mm.map fun x => ⟨?_, ?_⟩
    · dsimp only; unfold gvE; split <;> rfl
    · exact gvR_mg _ _
end
section
open Go.RowKit Go.Maps

theorem wp_store_newS {P : Program} {op : Oper} {a : Act} {w : World} {K : Act → World → Prop} {Q : Exit → Act → World → Prop} (ty : TypeId) (x y : Operand) (ho : op.op = .store ty x y)
    (c c' : Array Value) (hx : a.eval x = .pointer (some ⟨w.heap.size, 0, none⟩)) (hy : a.eval y = .agg c') (hi : (P.info? ty).map (·.size) = some c'.size) (hs : c.size = c'.size) (h1 : c'.all (·.oneCell') = true)
    (h : K (a.put op.dst undef) (w.alloc (.cells c' ty))) : op.wp P a (w.alloc (.cells c ty)) K Q := by
  unfold Oper.wp execOp
  simp only [ho, hx, hy, Sem.run_bind, Sem.run_pure, Result.andThen_ok, run_storeAt_new w ty c c' hi hs h1]
  exact h
theorem wpList_store_newS {P : Program} {ops : Array Oper} {rest : List Oper} {op : Oper} {a : Act} {w : World} {Q : Exit → Act → World → Prop} (hgd : op.guard = none) (ty : TypeId) (x y : Operand) (ho : op.op = .store ty x y)
    (c c' : Array Value) (hx : a.eval x = .pointer (some ⟨w.heap.size, 0, none⟩)) (hy : a.eval y = .agg c') (hi : (P.info? ty).map (·.size) = some c'.size) (hs : c.size = c'.size) (h1 : c'.all (·.oneCell') = true)
    (h : wpList P ops Q rest (a.put op.dst undef) (w.alloc (.cells c' ty))) : wpList P ops Q (op :: rest) a (w.alloc (.cells c ty)) :=
  wpList_plain hgd fun _ hK => wp_store_newS ty x y ho c c' hx hy hi hs h1 (hK _ _ h)
theorem ways_late (tj u1 u2 t1 t2 : Bool) : tj = true ∨ tj = false ∧ u1 = true ∧ u2 = true ∨ tj = false ∧ u1 = false ∧ t1 = false ∨ tj = false ∧ u1 = false ∧ t1 = true ∧ t2 = false ∨ tj = false ∧ u1 = false ∧ t1 = true ∧ t2 = true ∨ tj = false ∧ u1 = true ∧ u2 = false ∧ t1 = false ∨ tj = false ∧ u1 = true ∧ u2 = false ∧ t1 = true ∧ t2 = false ∨ tj = false ∧ u1 = true ∧ u2 = false ∧ t1 = true ∧ t2 = true := by cases tj <;> cases u1 <;> cases u2 <;> cases t1 <;> cases t2 <;> simp
theorem any_step {rs : List RE} {f : RE → Bool} {j : Nat} {r : RE} (hr : rs[j]? = some r) : (rs.take (j + 1)).any f = ((rs.take j).any f || f r) := by
  rw [List.take_add_one, hr, List.any_append]
  simp
/-- The nineteen cells of an entry, in a box. -/
theorem box_at {W : World} {cs : Array Value} {e : TypeId} (i : Nat) (v : Value) (h : cs.toList[i]? = some v) : (W.alloc (.cells cs e)).cell? ⟨W.heap.size, i, none⟩ = some v := by
  rw [cell_of_row _ _ _ _ _ _ (heap_alloc_new W _)]
  simpa using h
section
variable {w W W' : World} {b : Nat} {s : SL} {q : Rm}
set_option maxRecDepth 100000 in
set_option maxHeartbeats 8000000 in
theorem refOver15_any (h : RA w b s q W) (msg now : Int) : Calls Try.prog 53 #[.pointer (some ⟨b, 0, none⟩), .int .i64 msg, .int .i64 now] W fun e w' => e = .returned (.bool (rOver q.rs msg now)) ∧ Hid (Below W.heap.size W w') := by
  have HA := keep h
  have hn := h.n
  have hle := h.le
  clear h
  obtain ⟨s1, m, s3⟩ := s
  dsimp only at hn
  have HN := keep hn
  have hn1 : (m : Int) ≤ 1024 := by omega
  clear hn hle
  go_enter Try.func53, Try.ntmps53
  go_wp2
  go_loopw [7, 8, 9] (fun o t i wr => ∃ (j : Nat), j ≤ m ∧ i = .int .i64 j ∧ o = .bool ((q.rs.take j).any fun r => r.mg == msg && decide (r.st < 3)) ∧ t = .bool ((q.rs.take j).any fun r => r.mg == msg && rLateB now r) ∧ Hid (Below W.heap.size W wr)) (fun _ _ i _ => m - (intOf i).toNat)
  case atStart => exact ⟨0, Nat.zero_le _, rfl, rfl, rfl, keep (Below.refl _ _)⟩
  case round =>
    obtain ⟨j, hj, rfl, rfl, rfl, HW⟩ := hrel
    have HAk := keep (HA.out.step HW.out)
    obtain ⟨c0, _, _, _, _, _⟩ := HAk.out.b0
    dsimp only at c0
    by_cases hlt : j < m
    · have hjl : j < q.rs.length := by have := HN.out; omega
      obtain ⟨r, hr⟩ : ∃ r, q.rs[j]? = some r := ⟨_, List.getElem?_eq_getElem hjl⟩
      obtain ⟨g, hg, _, _, hcs, _⟩ := HAk.out.at_ hr
      dsimp only at hg
      subst hg
      have hO := any_step (f := fun r => r.mg == msg && decide (r.st < 3)) hr
      have hT := any_step (f := fun r => r.mg == msg && rLateB now r) hr
      have hjI : (j : Int) < (m : Int) := by omega
      have hj0 : (0 : Int) ≤ (j : Int) := by omega
      have HCS := keep hcs
      clear hcs hr
      obtain ⟨oj, hoj⟩ : ∃ x, ((q.rs.take j).any fun r => r.mg == msg && decide (r.st < 3)) = x := ⟨_, rfl⟩
      obtain ⟨tj, htj⟩ : ∃ x, ((q.rs.take j).any fun r => r.mg == msg && rLateB now r) = x := ⟨_, rfl⟩
      rw [hoj] at hO ⊢
      rw [htj] at hT ⊢
      obtain ⟨u1, h1⟩ : ∃ x, decide (0 ≤ r.un) = x := ⟨_, rfl⟩
      obtain ⟨u2, h2⟩ : ∃ x, decide (r.un < now) = x := ⟨_, rfl⟩
      obtain ⟨t1, h3⟩ : ∃ x, decide (0 ≤ r.tr) = x := ⟨_, rfl⟩
      obtain ⟨t2, h4⟩ : ∃ x, (r.st == 2) = x := ⟨_, rfl⟩
      obtain ⟨t3, h5⟩ : ∃ x, decide (r.tr < r.sn) = x := ⟨_, rfl⟩
      obtain ⟨o1, h6⟩ : ∃ x, decide (r.st < 3) = x := ⟨_, rfl⟩
      obtain ⟨m1, h7⟩ : ∃ x, (r.mg == msg) = x := ⟨_, rfl⟩
      try dsimp only at hO hT
      rw [h6, h7] at hO
      rw [show rLateB now r = ((u1 && u2) || (t1 && t2 && t3)) by unfold rLateB; rw [h1, h2, h3, h4, h5], h7] at hT
      have HOO := keep hO
      have HTT := keep hT
      clear hoj htj hO hT
      obtain ⟨rc, mg, st, sn, la, ms, un, tr⟩ := r
      obtain ⟨xk, xf, xa, xb, xo, xs, xp, ⟨x1, x2, x3⟩, ⟨x4, x5, x6⟩, ⟨x7, x8, x9⟩, ⟨x10, x11, x12⟩, ⟨x13, x14, x15⟩, xbl, xdu, xsk, xpr, xbs⟩ := rc
      try dsimp only at h1 h2 h3 h4 h5 h6 h7
      have hld : wr.rangeAt g (j * 19) [.int .u8 xk, .int .u8 xf, .int .u32 xa, .int .u32 xb, .int .u16 xo, .int .u16 xs, .int .u32 xp, .slice x1 x2 x3, .slice x4 x5 x6, .slice x7 x8 x9, .slice x10 x11 x12, .slice x13 x14 x15, .int .i64 mg, .int .i64 st, .int .i64 sn, .int .i64 la, .int .i64 ms, .int .i64 un, .int .i64 tr] := fun k v hv => HCS.out k v (by have := (List.getElem?_eq_some_iff.1 hv).1; simpa using this) hv
      have ho1 : (#[.int .u8 xk, .int .u8 xf, .int .u32 xa, .int .u32 xb, .int .u16 xo, .int .u16 xs, .int .u32 xp, .slice x1 x2 x3, .slice x4 x5 x6, .slice x7 x8 x9, .slice x10 x11 x12, .slice x13 x14 x15, .int .i64 mg, .int .i64 st, .int .i64 sn, .int .i64 la, .int .i64 ms, .int .i64 un, .int .i64 tr] : Array Value).all (·.oneCell') = true := by simp [Value.oneCell']
      clear HCS
      go_upto_region 7 with (first
          | (refine wpList_load_mid rfl 91 (.tmp 25) rfl g (j * 19) rfl [.int .u8 xk, .int .u8 xf, .int .u32 xa, .int .u32 xb, .int .u16 xo, .int .u16 xs, .int .u32 xp, .slice x1 x2 x3, .slice x4 x5 x6, .slice x7 x8 x9, .slice x10 x11 x12, .slice x13 x14 x15, .int .i64 mg, .int .i64 st, .int .i64 sn, .int .i64 la, .int .i64 ms, .int .i64 un, .int .i64 tr] _ hld Try.underlying91 (by kernel_rfl) (by kernel_rfl) ?_)
          | (refine wpList_store_newS (w := wr) rfl 91 (.tmp 10) (.tmp 26) rfl _ #[.int .u8 xk, .int .u8 xf, .int .u32 xa, .int .u32 xb, .int .u16 xo, .int .u16 xs, .int .u32 xp, .slice x1 x2 x3, .slice x4 x5 x6, .slice x7 x8 x9, .slice x10 x11 x12, .slice x13 x14 x15, .int .i64 mg, .int .i64 st, .int .i64 sn, .int .i64 la, .int .i64 ms, .int .i64 un, .int .i64 tr] rfl rfl (by kernel_rfl) rfl ho1 ?_))
      have b12 := box_at (W := wr) (e := 91) (cs := #[.int .u8 xk, .int .u8 xf, .int .u32 xa, .int .u32 xb, .int .u16 xo, .int .u16 xs, .int .u32 xp, .slice x1 x2 x3, .slice x4 x5 x6, .slice x7 x8 x9, .slice x10 x11 x12, .slice x13 x14 x15, .int .i64 mg, .int .i64 st, .int .i64 sn, .int .i64 la, .int .i64 ms, .int .i64 un, .int .i64 tr]) 12 _ rfl
      have b13 := box_at (W := wr) (e := 91) (cs := #[.int .u8 xk, .int .u8 xf, .int .u32 xa, .int .u32 xb, .int .u16 xo, .int .u16 xs, .int .u32 xp, .slice x1 x2 x3, .slice x4 x5 x6, .slice x7 x8 x9, .slice x10 x11 x12, .slice x13 x14 x15, .int .i64 mg, .int .i64 st, .int .i64 sn, .int .i64 la, .int .i64 ms, .int .i64 un, .int .i64 tr]) 13 _ rfl
      have b14 := box_at (W := wr) (e := 91) (cs := #[.int .u8 xk, .int .u8 xf, .int .u32 xa, .int .u32 xb, .int .u16 xo, .int .u16 xs, .int .u32 xp, .slice x1 x2 x3, .slice x4 x5 x6, .slice x7 x8 x9, .slice x10 x11 x12, .slice x13 x14 x15, .int .i64 mg, .int .i64 st, .int .i64 sn, .int .i64 la, .int .i64 ms, .int .i64 un, .int .i64 tr]) 14 _ rfl
      have b17 := box_at (W := wr) (e := 91) (cs := #[.int .u8 xk, .int .u8 xf, .int .u32 xa, .int .u32 xb, .int .u16 xo, .int .u16 xs, .int .u32 xp, .slice x1 x2 x3, .slice x4 x5 x6, .slice x7 x8 x9, .slice x10 x11 x12, .slice x13 x14 x15, .int .i64 mg, .int .i64 st, .int .i64 sn, .int .i64 la, .int .i64 ms, .int .i64 un, .int .i64 tr]) 17 _ rfl
      have b18 := box_at (W := wr) (e := 91) (cs := #[.int .u8 xk, .int .u8 xf, .int .u32 xa, .int .u32 xb, .int .u16 xo, .int .u16 xs, .int .u32 xp, .slice x1 x2 x3, .slice x4 x5 x6, .slice x7 x8 x9, .slice x10 x11 x12, .slice x13 x14 x15, .int .i64 mg, .int .i64 st, .int .i64 sn, .int .i64 la, .int .i64 ms, .int .i64 un, .int .i64 tr]) 18 _ rfl
      have HB := keep (below_lay wr (.cells #[.int .u8 xk, .int .u8 xf, .int .u32 xa, .int .u32 xb, .int .u16 xo, .int .u16 xs, .int .u32 xp, .slice x1 x2 x3, .slice x4 x5 x6, .slice x7 x8 x9, .slice x10 x11 x12, .slice x13 x14 x15, .int .i64 mg, .int .i64 st, .int .i64 sn, .int .i64 la, .int .i64 ms, .int .i64 un, .int .i64 tr] 91))
      have HZ := keep (up HW.out HB.out)
      obtain ⟨gb, hgb⟩ : ∃ gb, wr.heap.size = gb := ⟨_, rfl⟩
      rw [hgb] at b12 b13 b14 b17 b18 ⊢
      generalize wr.alloc _ = W1 at b12 b13 b14 b17 b18 HB HZ ⊢
      clear hld ho1 c0 HAk hgb HB
      cases m1 with
      | false =>
        go_wp2
        go_roundw
        case rel => exact ⟨j + 1, by omega, by go_num, by rw [HOO.out]; simp, by rw [HTT.out]; simp, HZ⟩
        case measure => simp [intOf]; omega
      | true =>
        cases oj
        all_goals
          rcases ways_late tj u1 u2 t1 t2 with rfl | ⟨rfl, rfl, rfl⟩ | ⟨rfl, rfl, rfl⟩ | ⟨rfl, rfl, rfl, rfl⟩ | ⟨rfl, rfl, rfl, rfl⟩ | ⟨rfl, rfl, rfl, rfl⟩ | ⟨rfl, rfl, rfl, rfl, rfl⟩ | ⟨rfl, rfl, rfl, rfl, rfl⟩
        all_goals
          go_wp2
          go_roundw
          case rel => exact ⟨j + 1, by omega, by go_num, by rw [HOO.out]; simp, by rw [HTT.out]; simp, HZ⟩
          case measure => simp [intOf]; omega
    · obtain rfl : m = j := by omega
      have HE := keep (show q.rs.take m = q.rs from by rw [HN.out, List.take_length])
      rw [HE.out]
      obtain ⟨o, ho⟩ : ∃ o, (q.rs.any fun r => r.mg == msg && decide (r.st < 3)) = o := ⟨_, rfl⟩
      obtain ⟨t, ht⟩ : ∃ t, (q.rs.any fun r => r.mg == msg && rLateB now r) = t := ⟨_, rfl⟩
      have HR := keep (show rOver q.rs msg now = (o && t) from by unfold rOver; rw [ho, ht])
      rw [ho, ht]
      clear ho ht
      cases o
      all_goals
        go_wp2
        go_ret
        exact ⟨ret_bool (by rw [HR.out]; simp), HW⟩
end
end
end Go.Proofs.Ytffjdknmfmlfnaa
