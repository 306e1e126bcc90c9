/- KBH of the stage: texts S1, S2, joined. -/
import Derived.Test.YtffjdknmfmlfnaaKAQ
import Derived.Test.YtffjdknmfmlfnaaKBE
import Derived.Test.YtffjdknmfmlfnaaKBF
import Derived.Test.YtffjdknmfmlfnaaKBG
set_option linter.unusedSimpArgs false
set_option linter.unusedVariables false
namespace Go.Proofs.Ytffjdknmfmlfnaa
section
open Go.RowKit Go.Maps

/-- An entry of the one is that of the other. -/
structure Sm1 (e : En) (r : RE) : Prop where
  ct : e.c.ct = r.c.ct
  dl : e.c.da.2.1 = r.c.da.2.1
  st : e.st = r.st
  sn : e.sn = r.sn
  la : e.la = r.la
  ms : e.ms = r.ms
abbrev PL := List (En × RE)
/-- What holds of a pair, whatever pairs there are beside. -/
structure Pr (mg : Nat → Mg) (ct : Int) (x : En × RE) : Prop where
  sm : Sm1 x.1 x.2
  un : (mg x.1.m).un = x.2.un
  tr : (mg x.1.m).tr = x.2.tr
  gv : (mg x.1.m).gv = true ↔ x.2.st = 4
  st : 0 ≤ x.2.st ∧ x.2.st ≤ 4
  fl : x.2.st = 1 → 0 ≤ x.2.ms ∧ x.2.ms ≤ 2
  lt : x.2.mg < ct
def Mm (l : PL) : Prop := ∀ x ∈ l, ∀ y ∈ l, (x.1.m = y.1.m ↔ x.2.mg = y.2.mg)
structure Sim (l : PL) (q : Qm) (p : Rm) : Prop where
  es : q.es = l.map Prod.fst
  rs : p.rs = l.map Prod.snd
  nx : q.nx = p.nx
  al : ∀ x ∈ l, Pr q.mg p.ct x
  mm : Mm l
theorem Mm.map {l : PL} (h : Mm l) {f : En × RE → En × RE} (hm : ∀ x, (f x).1.m = x.1.m ∧ (f x).2.mg = x.2.mg) : Mm (l.map f) := by
  intro x hx y hy
  obtain ⟨a, ha, rfl⟩ := List.mem_map.1 hx
  obtain ⟨b, hb, rfl⟩ := List.mem_map.1 hy
  rw [(hm a).1, (hm a).2, (hm b).1, (hm b).2]
  exact h a ha b hb
theorem Mm.mapIdx {l : PL} (h : Mm l) {f : Nat → En × RE → En × RE} (hm : ∀ i x, (f i x).1.m = x.1.m ∧ (f i x).2.mg = x.2.mg) : Mm (l.mapIdx f) := by
  intro x hx y hy
  obtain ⟨i, hi, rfl⟩ := List.mem_mapIdx.1 hx
  obtain ⟨j, hj, rfl⟩ := List.mem_mapIdx.1 hy
  rw [(hm i _).1, (hm i _).2, (hm j _).1, (hm j _).2]
  exact h _ (List.getElem_mem _) _ (List.getElem_mem _)
theorem Mm.sub {l k : PL} (h : Mm l) (hs : ∀ x ∈ k, x ∈ l) : Mm k := fun x hx y hy => h x (hs x hx) y (hs y hy)
theorem Sim.flr {l : PL} {q : Qm} {p : Rm} (h : Sim l q p) : flr q = rFlr p := by
  unfold Go.Proofs.Ytffjdknmfmlfnaa.flr rFlr
  rw [h.nx, h.es, h.rs, List.length_map, List.length_map]
theorem sim_new (first : Int) : Sim [] (newQ first) ⟨[], first, 0⟩ := ⟨rfl, rfl, rfl, fun x hx => (by cases hx), fun x hx => (by cases hx)⟩
/-! Octets, State, Timeout. -/
theorem sim_oct {a c : Int} (hac : ∀ s : Int, s ∈ ([a, c] : List Int) ↔ s = a ∨ s = c) : ∀ (l : PL), (∀ x ∈ l, Sm1 x.1 x.2) → ∀ sts : List Int, (∀ s : Int, s ∈ sts ↔ s = a ∨ s = c) → octsL (l.map Prod.fst) sts = rOct (l.map Prod.snd) a c l.length := by
  intro l h sts hs
  have key : ∀ i, i ≤ l.length → octsL ((l.take i).map Prod.fst) sts = rOct (l.map Prod.snd) a c i := by
    intro i
    induction i with
    | zero => intro _; simp [octsL, rOct]
    | succ i ih =>
      intro hi
      have hli : i < l.length := by omega
      have hx := h l[i] (List.getElem_mem _)
      rw [rOct, ← ih (by omega), List.take_add_one, List.getElem?_eq_getElem hli, List.map_append, octsL_app, List.getElem?_map, List.getElem?_eq_getElem hli]
      simp only [Option.toList_some, List.map_cons, List.map_nil, Option.map_some]
      congr 1
      by_cases h1 : (l[i]).1.st ∈ sts
      · rw [if_pos (by rw [← hx.st]; exact (hs _).1 h1)]
        simp [octsL, h1, lenE, hx.dl]
      · rw [if_neg (fun h2 => h1 (by rw [hx.st]; exact (hs _).2 h2))]
        simp [octsL, h1]
  have h1 := key l.length (Nat.le_refl _)
  rwa [List.take_length] at h1
theorem Sim.oct {l : PL} {q : Qm} {p : Rm} (h : Sim l q p) {a c : Int} {sts : List Int} (hs : ∀ s : Int, s ∈ sts ↔ s = a ∨ s = c) : octs q.es sts = rOct p.rs a c p.rs.length := by
  rw [octs_eq, h.es, h.rs, List.length_map]
  exact sim_oct (fun s => by simp) l (fun x hx => (h.al x hx).sm) sts hs
theorem Sim.timeout {l : PL} {q : Qm} {p : Rm} (h : Sim l q p) : Sim (l.map fun x => (toutE x.1, rTo x.2)) { q with es := q.es.map toutE } { p with rs := p.rs.map rTo } ∧ cnt1 q.es q.es.length = rCnt p.rs p.rs.length := by
  have hp : ∀ x ∈ l, (toutE x.1 = if x.2.st = 1 then { x.1 with st := 2 } else x.1) := fun x hx => by
    unfold toutE
    rw [(h.al x hx).sm.st]
  refine ⟨⟨?_, ?_, h.nx, ?_, h.mm.map fun x => ⟨?_, ?_⟩⟩, ?_⟩
  · rw [h.es, List.map_map, List.map_map]; rfl
  · rw [h.rs, List.map_map, List.map_map]; rfl
  · intro y hy
    obtain ⟨x, hx, rfl⟩ := List.mem_map.1 hy
    have hx1 := h.al x hx
    dsimp only
    rw [hp x hx]
    unfold rTo
    by_cases h1 : x.2.st = 1
    · rw [if_pos h1, if_pos h1]
      refine ⟨⟨hx1.sm.ct, hx1.sm.dl, rfl, hx1.sm.sn, hx1.sm.la, hx1.sm.ms⟩, hx1.un, hx1.tr, ?_, ?_, ?_, hx1.lt⟩
      · dsimp only
        constructor
        · intro h2; have := hx1.gv.1 h2; omega
        · intro h2; omega
      · dsimp only; omega
      · intro h2; dsimp only at h2; omega
    · rw [if_neg h1, if_neg h1]
      exact hx1
  · unfold toutE; dsimp only; split <;> rfl
  · unfold rTo; dsimp only; split <;> rfl
  · rw [h.es, h.rs, List.length_map, List.length_map]
    have key : ∀ i, i ≤ l.length → cnt1 (l.map Prod.fst) i = rCnt (l.map Prod.snd) i := by
      intro i
      induction i with
      | zero => intro _; simp [cnt1, rCnt]
      | succ i ih =>
        intro hi
        have hli : i < l.length := by omega
        have hx := (h.al l[i] (List.getElem_mem _)).sm.st
        rw [rCnt, ← ih (by omega)]
        unfold cnt1
        rw [List.take_add_one, List.getElem?_map, List.getElem?_eq_getElem hli, List.filter_append, List.length_append, List.getElem?_map, List.getElem?_eq_getElem hli]
        simp only [Option.map_some, Option.toList_some]
        congr 1
        by_cases h1 : (l[i]).2.st = 1
        · rw [if_pos h1]; simp [hx, h1]
        · rw [if_neg h1]; simp [hx, h1]
    exact key _ (Nat.le_refl _)
theorem Sim.state {l : PL} {q : Qm} {p : Rm} (h : Sim l q p) (hn : Nums q) (hle : q.es.length ≤ 1024) (n : Int) (h0 : 0 ≤ n ∧ n < 4294967296) : stOut (stI q n) = rSt p.rs n := by
  have hfl := flr_in q
  obtain ⟨d, hd⟩ : ∃ d : Nat, dist32 (Go.Proofs.Ytffjdknmfmlfnaa.flr q) n = (d : Int) := ⟨(dist32 (Go.Proofs.Ytffjdknmfmlfnaa.flr q) n).toNat, by unfold dist32 dist; omega⟩
  have hdn : n = (Go.Proofs.Ytffjdknmfmlfnaa.flr q + (d : Int)) % 4294967296 ∧ (d : Int) < 4294967296 := by unfold dist32 dist at hd; omega
  have hll : q.es.length = l.length := by rw [h.es, List.length_map]
  have hA : ∀ (i : Nat) (x : En × RE), l[i]? = some x → x.2.c.a = (Go.Proofs.Ytffjdknmfmlfnaa.flr q + (i : Int) + 1) % 4294967296 := fun i x hx => by
    have h1 := hn i x.1 (by rw [h.es, List.getElem?_map, hx]; rfl)
    rw [← h1]
    exact (congrArg Ct.a (h.al x (List.mem_of_getElem? hx)).sm.ct).symm
  unfold rSt
  rw [h.rs]
  by_cases hr : 1 ≤ d ∧ d ≤ l.length
  · have hlt : d - 1 < l.length := by omega
    have hst : stp q n = d := by unfold stp; rw [hd]; rw [if_pos (by omega)]; omega
    have h1 : stI q n = some (l[d - 1]).1 := by
      unfold stI
      rw [hst, if_neg (by omega), h.es, List.getElem?_map, List.getElem?_eq_getElem hlt]
      rfl
    have h2 : (l.map Prod.snd).find? (fun r => r.c.a == n) = some (l[d - 1]).2 := by
      rw [List.find?_eq_some_iff_getElem]
      refine ⟨?_, d - 1, by rw [List.length_map]; exact hlt, by simp, ?_⟩
      · have h3 := hA (d - 1) _ (List.getElem?_eq_getElem hlt)
        rw [h3, beq_iff_eq]
        omega
      · intro j hj
        have h3 := hA j _ (List.getElem?_eq_getElem (show j < l.length by omega))
        simp only [List.getElem_map]
        rw [h3]
        simp only [Bool.not_eq_true', beq_eq_false_iff_ne]
        omega
    rw [h1, h2]
    have h3 := (h.al _ (List.getElem_mem hlt)).sm.st
    unfold stOut
    dsimp only
    rw [h3]
  · have h1 : stI q n = none := by
      unfold stI
      by_cases h3 : d = 0
      · rw [if_pos (by unfold stp; rw [hd]; subst h3; split <;> rfl)]
      · have : stp q n = 0 := by unfold stp; rw [hd]; rw [if_neg (by omega)]
        rw [if_pos this]
    have h2 : (l.map Prod.snd).find? (fun r => r.c.a == n) = none := by
      rw [List.find?_eq_none]
      intro r hr2
      obtain ⟨x, hx, rfl⟩ := List.mem_map.1 hr2
      obtain ⟨j, hj⟩ := List.getElem?_of_mem hx
      have h3 := hA j x hj
      have h4 := (List.getElem?_eq_some_iff.1 hj).1
      rw [h3, beq_iff_eq]
      omega
    rw [h1, h2]
    rfl
end
section
open Go.RowKit Go.Maps

structure Ok (mg : Nat → Mg) (ct : Int) (l : PL) : Prop where
  al : ∀ x ∈ l, Pr mg ct x
  mm : Mm l
theorem Ok.set {mg : Nat → Mg} {ct : Int} {l : PL} (h : Ok mg ct l) {i : Nat} {x : En × RE} (hx : l[i]? = some x) (z : En × RE) (hm : z.1.m = x.1.m ∧ z.2.mg = x.2.mg) (hz : Pr mg ct z) : Ok mg ct (l.set i z) := by
  have hxl := List.mem_of_getElem? hx
  refine ⟨fun y hy => ?_, fun y hy y' hy' => ?_⟩
  · rcases List.mem_or_eq_of_mem_set hy with hy | rfl
    · exact h.al y hy
    · exact hz
  · have e1 : ∃ a ∈ l, y.1.m = a.1.m ∧ y.2.mg = a.2.mg := by
      rcases List.mem_or_eq_of_mem_set hy with hy | rfl
      · exact ⟨y, hy, rfl, rfl⟩
      · exact ⟨x, hxl, hm.1, hm.2⟩
    have e2 : ∃ a ∈ l, y'.1.m = a.1.m ∧ y'.2.mg = a.2.mg := by
      rcases List.mem_or_eq_of_mem_set hy' with hy | rfl
      · exact ⟨y', hy, rfl, rfl⟩
      · exact ⟨x, hxl, hm.1, hm.2⟩
    obtain ⟨a, ha, a1, a2⟩ := e1
    obtain ⟨b, hb, b1, b2⟩ := e2
    rw [a1, a2, b1, b2]
    exact h.mm a ha b hb
def rSnt (now : Int) (r : RE) : RE := { r with st := 1, la := now, ms := 0, sn := wrap64 (r.sn + 1) }
/-- What send does, entry by entry: entries, what is told, the room, whether all did. -/
def rSnd (st now : Int) : Nat → Nat → List RE → Int → List CZ → List RE × List CZ × Int × Bool
  | 0, _, rs, r, t => (rs, t, r, true)
  | k + 1, i, rs, r, t =>
    match rs[i]? with
    | none => (rs, t, r, true)
    | some e => if e.st = st then (if r < (e.c.da.2.1 : Int) then (rs, t, r, false) else rSnd st now k (i + 1) (rs.set i (rSnt now e)) (r - (e.c.da.2.1 : Int)) (t ++ [e.c])) else rSnd st now k (i + 1) rs r t
def rTk (rs : List RE) (now room : Int) : List RE × List CZ :=
  if (rSnd 2 now rs.length 0 rs room []).2.2.2 = true then
    ((rSnd 0 now rs.length 0 (rSnd 2 now rs.length 0 rs room []).1 (rSnd 2 now rs.length 0 rs room []).2.2.1 (rSnd 2 now rs.length 0 rs room []).2.1).1, (rSnd 0 now rs.length 0 (rSnd 2 now rs.length 0 rs room []).1 (rSnd 2 now rs.length 0 rs room []).2.2.1 (rSnd 2 now rs.length 0 rs room []).2.1).2.1)
  else ((rSnd 2 now rs.length 0 rs room []).1, (rSnd 2 now rs.length 0 rs room []).2.1)
theorem pr_send {mg : Nat → Mg} {ct now : Int} {x : En × RE} (h : Pr mg ct x) (hs : x.2.st ≠ 4) : Pr mg ct (sendE now x.1, rSnt now x.2) := by
  refine ⟨⟨h.sm.ct, h.sm.dl, rfl, ?_, rfl, rfl⟩, h.un, h.tr, ?_, ?_, ?_, h.lt⟩
  · show wrap64 (x.1.sn + 1) = wrap64 (x.2.sn + 1)
    rw [h.sm.sn]
  · show (mg x.1.m).gv = true ↔ (1 : Int) = 4
    constructor
    · intro h2; exact absurd (h.gv.1 h2) hs
    · intro h2; omega
  · show (0 : Int) ≤ 1 ∧ (1 : Int) ≤ 4; omega
  · intro _; show (0 : Int) ≤ 0 ∧ (0 : Int) ≤ 2; omega
/-- One turn of the program is one send of the document. -/
theorem snd_sim {mg : Nat → Mg} {ct now s : Int} {n o : Nat} (hs : s ≠ 4) (ho : ∀ i, i < n → ixD n (o + i) = i ∧ phD n (o + i) = s) : ∀ (k i m : Nat) (l : PL) (r : Int) (t u : List CZ), l.length = n → i + k = n → Ok mg ct l → t.map CZ.ct = u.map CZ.ct →
    ∃ (l' : PL) (t' u' : List CZ) (r' : Int) (b : Bool), Ok mg ct l' ∧ l'.length = n ∧ t'.map CZ.ct = u'.map CZ.ct ∧ rSnd s now k i (l.map Prod.snd) r u = (l'.map Prod.snd, u', r', b) ∧
      (b = true → takeGo now n (k + m) (o + i) (l.map Prod.fst) r t = takeGo now n m (o + n) (l'.map Prod.fst) r' t') ∧ (b = false → takeGo now n (k + m) (o + i) (l.map Prod.fst) r t = (l'.map Prod.fst, t'))
  | 0, i, m, l, r, t, u, hl, hk, hO, ht => ⟨l, t, u, r, true, hO, hl, ht, rfl, fun _ => by rw [Nat.zero_add, show o + i = o + n by omega], fun h => by cases h⟩
  | k + 1, i, m, l, r, t, u, hl, hk, hO, ht => by
    have hi : i < l.length := by omega
    have hx : l[i]? = some l[i] := List.getElem?_eq_getElem hi
    obtain ⟨h1, h2⟩ := ho i (by omega)
    have hp := hO.al _ (List.getElem_mem hi)
    have he : (l.map Prod.fst)[ixD n (o + i)]? = some (l[i]).1 := by rw [h1, List.getElem?_map, hx]; rfl
    have hr : (l.map Prod.snd)[i]? = some (l[i]).2 := by rw [List.getElem?_map, hx]; rfl
    rw [show k + 1 + m = (k + m) + 1 by omega, rSnd, hr]
    dsimp only
    by_cases hst : (l[i]).2.st = s
    · rw [if_pos hst]
      have hst2 : (l[i]).1.st = phD n (o + i) := by rw [h2, hp.sm.st, hst]
      by_cases hroom : r < ((l[i]).2.c.da.2.1 : Int)
      · rw [if_pos hroom, takeGo_full he hst2 (by rw [hp.sm.dl]; exact hroom)]
        exact ⟨l, t, u, r, false, hO, hl, ht, rfl, (fun h => by cases h), fun _ => rfl⟩
      · rw [if_neg hroom, takeGo_yes he hst2 (by rw [hp.sm.dl]; exact hroom), h1]
        have hO2 := hO.set hx (sendE now (l[i]).1, rSnt now (l[i]).2) ⟨rfl, rfl⟩ (pr_send hp (by rw [hst]; exact hs))
        obtain ⟨l', t', u', r', b, a1, a2, a3, a4, a5, a6⟩ := snd_sim (now := now) hs ho k (i + 1) m (l.set i (sendE now (l[i]).1, rSnt now (l[i]).2)) (r - ((l[i]).2.c.da.2.1 : Int)) (t ++ [(l[i]).1.c]) (u ++ [(l[i]).2.c]) (by rw [List.length_set]; exact hl) (by omega) hO2 (by rw [List.map_append, List.map_append, ht]; simp [hp.sm.ct])
        rw [List.map_set] at a4
        rw [List.map_set] at a5 a6
        refine ⟨l', t', u', r', b, a1, a2, a3, a4, ?_, ?_⟩
        · rw [hp.sm.dl]; exact a5
        · rw [hp.sm.dl]; exact a6
    · rw [if_neg hst, takeGo_no he (by rw [h2, hp.sm.st]; exact hst)]
      exact snd_sim hs ho k (i + 1) m l r t u hl (by omega) hO ht
theorem Sim.ok {l : PL} {q : Qm} {p : Rm} (h : Sim l q p) : Ok q.mg p.ct l := ⟨h.al, h.mm⟩
/-- Take. -/
theorem Sim.take {l : PL} {q : Qm} {p : Rm} (h : Sim l q p) (now room : Int) : ∃ l', Sim l' (tkQ q now room) { p with rs := (rTk p.rs now room).1 } ∧ (takeQ q now room).2.map CZ.ct = (rTk p.rs now room).2.map CZ.ct := by
  have hll : q.es.length = l.length := by rw [h.es, List.length_map]
  have hrl : p.rs.length = l.length := by rw [h.rs, List.length_map]
  have fin : ∀ (l' : PL), Ok q.mg p.ct l' → ∀ t', takeQ q now room = (l'.map Prod.fst, t') → (rTk p.rs now room).1 = l'.map Prod.snd → Sim l' (tkQ q now room) { p with rs := (rTk p.rs now room).1 } := fun l' hO t' h1 h2 =>
    ⟨by show (takeQ q now room).1 = _; rw [h1], h2, h.nx, hO.al, hO.mm⟩
  obtain ⟨l1, t1, u1, r1, b1, a1, a2, a3, a4, a5, a6⟩ := snd_sim (now := now) (s := 2) (n := l.length) (o := 0) (by decide) (fun i hi => ⟨by unfold ixD; rw [if_pos (by omega)]; omega, by unfold phD; rw [if_pos (by omega)]⟩) l.length 0 l.length l room [] [] rfl (by omega) h.ok rfl
  simp only [Nat.zero_add] at a5 a6
  rw [← h.es] at a5 a6
  rw [← h.rs, ← hrl] at a4
  have htq : takeQ q now room = takeGo now l.length (l.length + l.length) 0 q.es room [] := by unfold takeQ; rw [hll]
  cases b1 with
  | false =>
    have h1 : rTk p.rs now room = (l1.map Prod.snd, u1) := by
      unfold rTk
      rw [a4, if_neg (fun h9 => by cases h9)]
    refine ⟨l1, fin l1 a1 t1 (htq.trans (a6 rfl)) (by rw [h1]), ?_⟩
    rw [htq, a6 rfl, h1]
    exact a3
  | true =>
    obtain ⟨l2, t2, u2, r2, b2, c1, c2, c3, c4, c5, c6⟩ := snd_sim (now := now) (s := 0) (n := l.length) (o := l.length) (by decide) (fun i hi => ⟨by unfold ixD; rw [if_neg (by omega)]; omega, by unfold phD; rw [if_neg (by omega)]⟩) l.length 0 0 l1 r1 t1 u1 a2 (by omega) a1 a3
    simp only [Nat.add_zero] at c5 c6
    have h1 : rTk p.rs now room = (l2.map Prod.snd, u2) := by
      unfold rTk
      rw [a4, if_pos rfl]
      dsimp only
      rw [hrl, c4]
    have h2 : takeQ q now room = (l2.map Prod.fst, t2) := by
      rw [htq, a5 rfl]
      cases b2 with
      | true => rw [c5 rfl]; rfl
      | false => exact c6 rfl
    refine ⟨l2, fin l2 c1 t2 h2 (by rw [h1]), ?_⟩
    rw [h2, h1]
    exact c3
/-- The document's Push. -/
def rNew (p : Rm) (un tr : Int) (i : Nat) (c : CZ) : RE := ⟨{ c with a := (p.nx + (i : Int)) % 4294967296 }, p.ct, 0, 0, 0, 0, un, tr⟩
def rPsh (p : Rm) (ls : List CZ) (un tr : Int) : Rm := ⟨p.rs ++ ls.mapIdx (rNew p un tr), (p.nx + (ls.length : Int)) % 4294967296, p.ct + 1⟩
theorem Sim.push {l : PL} {q : Qm} {p : Rm} (h : Sim l q p) {ls : List CZ} {new : List En} {m : Nat} (hn : PushN q ls m ls.length new) (hm : ∀ e ∈ q.es, e.m ≠ m) (un tr : Int) : ∃ l', Sim l' (pushQ q new m un tr) (rPsh p ls un tr) := by
  have hzl : ∀ (i : Nat) (e : En) (r : RE), new[i]? = some e → (ls.mapIdx (rNew p un tr))[i]? = some r → ∃ c, ls[i]? = some c ∧ r = rNew p un tr i c := fun i e r h1 h2 => by
    rw [List.getElem?_mapIdx] at h2
    cases hc : ls[i]? with
    | none => rw [hc] at h2; cases h2
    | some c => rw [hc] at h2; injection h2 with h2; exact ⟨c, rfl, h2.symm⟩
  have hlen : new.length = (ls.mapIdx (rNew p un tr)).length := by rw [hn.len, List.length_mapIdx]
  refine ⟨l ++ new.zip (ls.mapIdx (rNew p un tr)), ⟨?_, ?_, ?_, ?_, ?_⟩⟩
  · show q.es ++ new = _
    rw [List.map_append, h.es, List.map_fst_zip (by omega)]
  · show p.rs ++ _ = _
    rw [List.map_append, h.rs, List.map_snd_zip (by omega)]
  · show (q.nx + (new.length : Int)) % 4294967296 = _
    rw [h.nx, hn.len]
    rfl
  · intro x hx
    rcases List.mem_append.1 hx with hx | hx
    · have hp := h.al x hx
      have hxm : x.1.m ≠ m := hm x.1 (by rw [h.es]; exact List.mem_map_of_mem hx)
      refine ⟨hp.sm, ?_, ?_, ?_, hp.st, hp.fl, ?_⟩
      · show (if x.1.m = m then _ else q.mg x.1.m : Mg).un = _
        rw [if_neg hxm]; exact hp.un
      · show (if x.1.m = m then _ else q.mg x.1.m : Mg).tr = _
        rw [if_neg hxm]; exact hp.tr
      · show (if x.1.m = m then _ else q.mg x.1.m : Mg).gv = true ↔ _
        rw [if_neg hxm]; exact hp.gv
      · have := hp.lt; show x.2.mg < p.ct + 1; omega
    · obtain ⟨i, hi⟩ := List.getElem?_of_mem hx
      obtain ⟨h1, h2⟩ := List.getElem?_zip_eq_some.1 hi
      obtain ⟨c, hc, hr⟩ := hzl i _ _ h1 h2
      obtain ⟨g1, g2, g3, g4, g5, g6, g7⟩ := hn.all i c x.1 hc h1
      rw [show x = (x.1, x.2) from rfl, hr]
      refine ⟨⟨?_, g2, g4, g5, g6, g7⟩, ?_, ?_, ?_, ?_, ?_, ?_⟩
      · rw [g1, h.nx]; rfl
      · show (if x.1.m = m then _ else q.mg x.1.m : Mg).un = _
        rw [if_pos g3]; rfl
      · show (if x.1.m = m then _ else q.mg x.1.m : Mg).tr = _
        rw [if_pos g3]; rfl
      · show (if x.1.m = m then _ else q.mg x.1.m : Mg).gv = true ↔ (0 : Int) = 4
        rw [if_pos g3]
        constructor
        · intro h9; cases h9
        · intro h9; omega
      · show (0 : Int) ≤ 0 ∧ (0 : Int) ≤ 4; omega
      · intro h9; exact absurd h9 (by show ¬ (0 : Int) = 1; omega)
      · show p.ct < p.ct + 1; omega
  · have hnew : ∀ x ∈ new.zip (ls.mapIdx (rNew p un tr)), x.1.m = m ∧ x.2.mg = p.ct := fun x hx => by
      obtain ⟨i, hi⟩ := List.getElem?_of_mem hx
      obtain ⟨h1, h2⟩ := List.getElem?_zip_eq_some.1 hi
      obtain ⟨c, hc, hr⟩ := hzl i _ _ h1 h2
      exact ⟨(hn.all i c x.1 hc h1).2.2.1, by rw [hr]; rfl⟩
    intro x hx y hy
    rcases List.mem_append.1 hx with hx | hx <;> rcases List.mem_append.1 hy with hy | hy
    · exact h.mm x hx y hy
    · have h1 := hm x.1 (by rw [h.es]; exact List.mem_map_of_mem hx)
      have h2 := (h.al x hx).lt
      obtain ⟨h3, h4⟩ := hnew y hy
      rw [h3, h4]
      exact ⟨fun h5 => absurd h5 h1, fun h5 => by omega⟩
    · have h1 := hm y.1 (by rw [h.es]; exact List.mem_map_of_mem hy)
      have h2 := (h.al y hy).lt
      obtain ⟨h3, h4⟩ := hnew x hx
      rw [h3, h4]
      exact ⟨fun h5 => absurd h5.symm h1, fun h5 => by omega⟩
    · obtain ⟨h3, h4⟩ := hnew x hx
      obtain ⟨h5, h6⟩ := hnew y hy
      rw [h3, h4, h5, h6]
      simp
end
end Go.Proofs.Ytffjdknmfmlfnaa
