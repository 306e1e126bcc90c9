/- The walk of the law JoinOrders. -/
import Derived.Test.YthpcblbciidmeaaJZ
import Derived.Test.YthpcblbciidmeaaAnd
import Derived.Test.YthpcblbciidmeaaSr8
import Derived.Test.YthpcblbciidmeaaNums
namespace Go.Proofs.Ythpcblbciidmeaa
open Go.RowKit Go.Maps
set_option linter.unusedVariables false

theorem Add_gen {w0 w : World} {G : Gh} {j : Jn} (h : JB w0 w G j) {x : CX} (hx : CV w x) :
    Calls Try.prog 10 #[.pointer (some ⟨G.b, 0, none⟩), .agg x.cells.toArray] w fun e w' => ∃ r j' G', e = .returned (.int .i64 r) ∧ AddR j x.c0 r j' ∧ JB w0 w' G' j' ∧ Later w G w' G' := by
  refine (Add_any h.jg.ja h.jg.good h.jg.ends hx).mono ?_
  intro e w' hA
  obtain ⟨r, j', G', he, hr, hj, hl⟩ := hA.good hx h.jg.good
  exact ⟨r, j', G', he, hr, h.next hl hj, hl⟩
theorem CS.kept {S : Nat → Prop} {w w' : World} {A : Option Addr} {n c : Nat} {l : List CX} (h : CS w A n c l) (hp : Part S w w') (hA : ∀ a, A = some a → ¬ S a.block) (hd : ∀ y ∈ l, ∀ a, y.da.1 = some a → ¬ S a.block) (hpl : ∀ y ∈ l, Plain y) : CS w' A n c l := by
  refine ⟨h.1, h.2.1, hp.sr h.2.2.1 hA, fun y hy => ?_⟩
  have hv := h.2.2.2 y hy
  refine ⟨hv.kd, hv.fl, hv.a, hv.b, hv.ou, hv.si, hv.pp, ⟨hv.ps.1, hv.ps.2.1, ?_⟩, ⟨hv.bs.1, hv.bs.2.1, hp.sr hv.bs.2.2 (hd y hy)⟩⟩
  have h0 := hv.ps.1
  rw [(hpl y hy).2.2.2] at h0
  rw [show y.ps = [] from List.eq_nil_of_length_eq_zero h0.symm]
  exact SR.nil _ _
theorem c0_of {x : CX} {y : Ch} (h : x.ch = y) (hb : y.b = 0) : x.c0 = y := by
  rw [← h] at hb ⊢
  have hb : x.b = 0 := hb
  unfold CX.c0 CX.ch
  rw [hb]
theorem MB.step {w w' : World} {g : Nat} {x : MX} (h : MB w g x) (hb : Below w.heap.size w w') : MB w' g x := (hb.block g h.lt).trans h


theorem MSl.step {w w' : World} {A : Option Addr} {n c : Nat} {l : List MX} (h : MSl w A n c l) (hb : Below w.heap.size w w') : MSl w' A n c l := ⟨h.1, h.2.1, h.2.2.step hb⟩
set_option maxRecDepth 1000000 in
set_option maxHeartbeats 4000000 in
theorem sameAll_any (A : Option Addr) (m c : Nat) (l : List MX) (B : Option Addr) (m' c' : Nat) (l' : List MX) (w : World) (h1 : MSl w A m c l) (h2 : MSl w B m' c' l') (hv1 : ∀ x ∈ l, MV w x) (hv2 : ∀ x ∈ l', MV w x) (he : l.map MX.msg = l'.map MX.msg) (hm : m ≤ 1000) :
    Calls Try.prog 16 #[.slice A m c, .slice B m' c'] w fun e w' => e = .returned (.bool true) ∧ Below w.heap.size w w' := by
  have hll : l.length = l'.length := by
    have := congrArg List.length he
    rwa [List.length_map, List.length_map] at this
  obtain rfl : m = m' := by rw [h1.1, h2.1, hll]
  have H1 := keep h1
  have H2 := keep h2
  have HV := keep (And.intro hv1 (And.intro hv2 he))
  have HM := keep hm
  clear h1 h2 hv1 hv2 he hm hll
  go_enter Try.func16, Try.ntmps16
  go_wp2
  go_loopw [5] (fun iv wr => ∃ (t : Nat), iv = .int .i64 (t : Int) ∧ t ≤ m ∧ Hid (Below w.heap.size w wr)) (fun iv _ => m - (intOf iv).toNat)
  case atStart => exact ⟨0, rfl, Nat.zero_le _, keep (Below.refl _ _)⟩
  case round =>
    obtain ⟨t, rfl, ht, HR⟩ := hrel
    by_cases hlt : t < m
    · have hlt' : (t : Int) < (m : Int) := by omega
      have hwt : IntKind.i64.wrap ((t : Int) + 1) = (t : Int) + 1 := wrap_small (by omega) (by have := HM.out; omega)
      obtain ⟨g, og, x, eA, hg, hat, hx⟩ := (H1.out.step HR.out).at_ hlt
      obtain ⟨g', og', y, eB, hg', hbt, hy⟩ := (H2.out.step HR.out).at_ hlt
      have hxy : x.msg = y.msg := by
        have h9 := congrArg (fun z => z[t]?) HV.out.2.2
        simpa [List.getElem?_map, hx, hy] using h9
      have LT := keep hlt
      have HG := keep (And.intro hg hg')
      have KS := keep fun W (hb : Below wr.heap.size wr W) => refSameM_any x y W ((HV.out.1 x (List.mem_of_getElem? hx)).step (up HR.out hb)) ((HV.out.2.1 y (List.mem_of_getElem? hy)).step (up HR.out hb))
      have HSM := keep (sameM_iff.2 hxy)
      subst eA eB
      clear hx hy hxy hlt hg hg'
      obtain ⟨xs, xu, xp, ⟨x1, x2, x3⟩, xb⟩ := x
      obtain ⟨ys, yu, yp, ⟨y1, y2, y3⟩, yb⟩ := y
      obtain ⟨d0, d1, d2, d3⟩ := hat
      obtain ⟨e0, e1, e2, e3⟩ := hbt
      dsimp only [MX.cells] at d0 d1 d2 d3 e0 e1 e2 e3 KS
      go_wp2
      go_region_held3 (fun w' => (w'.cell? ⟨g, og + t * 4, none⟩ = some (.int .u16 xs) ∧ w'.cell? ⟨g, og + t * 4 + 1, none⟩ = some (.bool xu) ∧ w'.cell? ⟨g, og + t * 4 + 2, none⟩ = some (.int .u32 xp) ∧ w'.cell? ⟨g, og + t * 4 + 3, none⟩ = some (.slice x1 x2 x3)) ∧ (w'.cell? ⟨g', og' + t * 4, none⟩ = some (.int .u16 ys) ∧ w'.cell? ⟨g', og' + t * 4 + 1, none⟩ = some (.bool yu) ∧ w'.cell? ⟨g', og' + t * 4 + 2, none⟩ = some (.int .u32 yp) ∧ w'.cell? ⟨g', og' + t * 4 + 3, none⟩ = some (.slice y1 y2 y3)))
        (first | exact ⟨⟨d0, d1, d2, d3⟩, e0, e1, e2, e3⟩ | exact q8)
        (first
          | (go_at_call 18; refine (KS.out _ (Below.refl _ _).drew).mono ?_
             rintro e w8 ⟨rfl, hb8⟩
             rw [HSM.out]
             have hb := (show Below wr.heap.size wr w8 from ((Below.refl _ wr).drew).trans hb8)
             have q8 := And.intro (And.intro ((hb.cell (p := ⟨g, og + t * 4, none⟩) HG.out.1).trans d0) (And.intro ((hb.cell (p := ⟨g, og + t * 4 + 1, none⟩) HG.out.1).trans d1) (And.intro ((hb.cell (p := ⟨g, og + t * 4 + 2, none⟩) HG.out.1).trans d2) ((hb.cell (p := ⟨g, og + t * 4 + 3, none⟩) HG.out.1).trans d3)))) (And.intro ((hb.cell (p := ⟨g', og' + t * 4, none⟩) HG.out.2).trans e0) (And.intro ((hb.cell (p := ⟨g', og' + t * 4 + 1, none⟩) HG.out.2).trans e1) (And.intro ((hb.cell (p := ⟨g', og' + t * 4 + 2, none⟩) HG.out.2).trans e2) ((hb.cell (p := ⟨g', og' + t * 4 + 3, none⟩) HG.out.2).trans e3))))
             have B8 := keep (up HR.out hb)
             clear hb8 hb))
      all_goals clear d0 d1 d2 d3 e0 e1 e2 e3 q8
      all_goals go_wp2
      all_goals go_roundw
      all_goals first
        | exact ⟨t + 1, by go_num, LT.out, B8⟩
        | (have := LT.out; simp [intOf]; omega)
    · obtain rfl : t = m := by omega
      have hlt' : ¬ (t : Int) < (t : Int) := by omega
      clear hlt
      go_wp2
      go_ret
      exact ⟨rfl, HR.out⟩


def zn (zs : List Int) (i : Nat) : Nat := ((zs[i]?.getD 0) % 32).toNat
theorem zn_le (zs : List Int) (i : Nat) : zn zs i ≤ 31 := by unfold zn; omega
def moO (zs : List Int) (i : Nat) : Msg := ⟨1, false, (i : Int), b8 (i : Int) :: List.replicate (zn zs i) 0⟩
theorem moO_len (zs : List Int) (i : Nat) : (moO zs i).da.length = zn zs i + 1 := by simp [moO]
/-- How many pieces the first i messages have. -/
def offO (zs : List Int) (k : Nat) : Nat → Nat
  | 0 => 0
  | i + 1 => offO zs k i + cnt k (moO zs i).da.length
theorem offO_le (zs : List Int) (k : Nat) : ∀ (i j : Nat), i < j → offO zs k i + cnt k (moO zs i).da.length ≤ offO zs k j
  | i, 0, h => absurd h (Nat.not_lt_zero _)
  | i, j + 1, h => by
    show _ ≤ offO zs k j + _
    rcases Nat.lt_or_ge i j with h1 | h1
    · have := offO_le zs k i j h1
      omega
    · obtain rfl : i = j := by omega
      omega
theorem offO_max (zs : List Int) {k : Nat} (hk : 0 < k) : ∀ i, offO zs k i ≤ 32 * i
  | 0 => Nat.le_refl _
  | i + 1 => by
    have h1 := offO_max zs hk i
    have h2 := cnt_le_n (n := (moO zs i).da.length) hk
    have h3 := moO_len zs i
    have h4 := zn_le zs i
    show offO zs k i + _ ≤ _
    omega
def po (tsn : Int) (zs : List Int) (k : Nat) : Plan := ⟨zs.length, k, moO zs, fun i => (tsn + offO zs k i) % 4294967296, fun i => (i : Int)⟩
theorem po_row (tsn : Int) (zs : List Int) {k : Nat} (hk : 0 < k) (hz : zs.length ≤ 20) : (po tsn zs k).Row := by
  refine { k0 := hk, pos := fun i _ => ?_, pp := fun i j _ _ e => ?_, inj := fun i q j r hi hq hj hr e => ?_, sn := fun i hi => ?_, few := ?_, sn_ := fun i _ => rfl, st := fun i _ => rfl, un := fun i _ => rfl }
  · show 0 < (moO zs i).da.length
    rw [moO_len]; omega
  · have e : (i : Int) = (j : Int) := e
    omega
  · have hq : q < cnt k (moO zs i).da.length := hq
    have hr : r < cnt k (moO zs j).da.length := hr
    have hi : i < zs.length := hi
    have hj : j < zs.length := hj
    have e : ((tsn + offO zs k i) % 4294967296 + (q : Int)) % 4294967296 = ((tsn + offO zs k j) % 4294967296 + (r : Int)) % 4294967296 := e
    have m1 := offO_max zs hk i
    have m2 := offO_max zs hk j
    have c1 := cnt_le_n (n := (moO zs i).da.length) hk
    have c2 := cnt_le_n (n := (moO zs j).da.length) hk
    have l1 := moO_len zs i
    have l2 := moO_len zs j
    have z1 := zn_le zs i
    have z2 := zn_le zs j
    have e2 : offO zs k i + q = offO zs k j + r := by omega
    have hij : i = j := by
      rcases Nat.lt_trichotomy i j with h | h | h
      · have := offO_le zs k i j h
        omega
      · exact h
      · have := offO_le zs k j i h
        omega
    subst hij
    exact ⟨rfl, by omega⟩
  · have hi : i < zs.length := hi
    show (0 : Int) ≤ (i : Int) ∧ (i : Int) < 65536
    omega
  · show zs.length ≤ 1000
    omega
/-- The pieces of the first i messages. -/
def piecesO (p : Plan) (i : Nat) : List Ch := (List.range i).flatMap p.run
theorem piecesO_succ (p : Plan) (i : Nat) : piecesO p (i + 1) = piecesO p i ++ p.run i := by
  unfold piecesO
  rw [List.range_succ, List.flatMap_append]
  simp
theorem piecesO_len (tsn : Int) (zs : List Int) (k : Nat) : ∀ i, (piecesO (po tsn zs k) i).length = offO zs k i
  | 0 => rfl
  | i + 1 => by
    rw [piecesO_succ, List.length_append, piecesO_len tsn zs k i]
    show _ + (splitL (moO zs i) _ _ k).length = _
    rw [splitL_len]
    rfl
theorem mem_piecesO {p : Plan} {i : Nat} {x : Ch} : x ∈ piecesO p i ↔ ∃ i' q, i' < i ∧ q < p.N i' ∧ x = p.c i' q := by
  unfold piecesO
  rw [List.mem_flatMap]
  constructor
  · rintro ⟨i', hi', hx⟩
    obtain ⟨q, hq, e⟩ := Plan.mem_run.1 hx
    exact ⟨i', q, List.mem_range.1 hi', hq, e⟩
  · rintro ⟨i', q, hi', hq, e⟩
    exact ⟨i', List.mem_range.2 hi', Plan.mem_run.2 ⟨q, hq, e⟩⟩
/-- Those that have come: all but those that are left. -/
def HasC (p : Plan) (rem : List Ch) (i q : Nat) : Prop := i < p.M ∧ q < p.N i ∧ p.c i q ∉ rem
theorem hasC_all (p : Plan) : HasC p (piecesO p p.M) = fun _ _ => False := by
  funext i q
  refine propext ⟨fun ⟨a, b, c⟩ => c (mem_piecesO.2 ⟨i, q, a, b, rfl⟩), fun h => h.elim⟩
theorem hasC_less {p : Plan} (hp : p.Ok) {rem : List Ch} (hk : KeysC rem) {i q t : Nat} (hi : i < p.M) (hq : q < p.N i) (ht : rem[t]? = some (p.c i q)) : HasC p (rem.eraseIdx t) = Plan.Add1 (HasC p rem) i q := by
  have htl := (List.getElem?_eq_some_iff.1 ht).1
  have hne : p.c i q ∉ rem.eraseIdx t := fun hm => by
    obtain ⟨s, hs⟩ := List.mem_iff_getElem?.1 hm
    rw [List.getElem?_eraseIdx] at hs
    have hpw := List.pairwise_iff_getElem.1 hk
    split at hs
    · rename_i hst
      have h1 := hpw s t (by omega) htl hst
      rw [(List.getElem?_eq_some_iff.1 hs).2, (List.getElem?_eq_some_iff.1 ht).2] at h1
      exact h1 rfl
    · rename_i hst
      have hs1 := (List.getElem?_eq_some_iff.1 hs).1
      have h1 := hpw t (s + 1) htl hs1 (by omega)
      rw [(List.getElem?_eq_some_iff.1 hs).2, (List.getElem?_eq_some_iff.1 ht).2] at h1
      exact h1 rfl
  funext i' q'
  refine propext ⟨fun ⟨a, b, c⟩ => ?_, fun h => ?_⟩
  · by_cases hm : p.c i' q' ∈ rem
    · refine .inr ?_
      obtain ⟨s, hs⟩ := List.mem_iff_getElem?.1 hm
      by_cases hst : s = t
      · subst hst
        rw [ht] at hs
        injection hs with hs
        have := hp.inj i' q' i q a b hi hq (congrArg Ch.a hs.symm)
        exact this
      · exact absurd (List.mem_iff_getElem?.2 (by
          by_cases hlt : s < t
          · exact ⟨s, by rw [List.getElem?_eraseIdx, if_pos hlt]; exact hs⟩
          · exact ⟨s - 1, by rw [List.getElem?_eraseIdx, if_neg (by omega), show s - 1 + 1 = s by omega]; exact hs⟩)) c
    · exact .inl ⟨a, b, hm⟩
  · rcases h with ⟨a, b, c⟩ | ⟨rfl, rfl⟩
    · exact ⟨a, b, fun hm => c (List.mem_of_mem_eraseIdx hm)⟩
    · exact ⟨hi, hq, hne⟩
theorem hasC_done {p : Plan} (i q : Nat) (hi : i < p.M) (hq : q < p.N i) : HasC p [] i q := ⟨hi, hq, by simp⟩
theorem keys_piecesO {p : Plan} (hp : p.Ok) : ∀ i, i ≤ p.M → KeysC (piecesO p i)
  | 0, _ => List.Pairwise.nil
  | i + 1, h => by
    unfold KeysC
    rw [piecesO_succ, List.pairwise_append]
    refine ⟨keys_piecesO hp i (by omega), ?_, fun x hx y hy e => ?_⟩
    · rw [List.pairwise_iff_getElem]
      intro a b ha hb hab e
      have h1 := splitL_some (List.getElem?_eq_getElem (show a < (splitL (p.ms i) (p.ts i) (p.sn i) p.k).length from ha))
      have h2 := splitL_some (List.getElem?_eq_getElem (show b < (splitL (p.ms i) (p.ts i) (p.sn i) p.k).length from hb))
      have e1 : (p.c i a).a = (p.c i b).a := by
        have := congrArg Ch.a h1.2
        have := congrArg Ch.a h2.2
        show (chAt (p.ms i) (p.ts i) (p.sn i) p.k a).a = (chAt (p.ms i) (p.ts i) (p.sn i) p.k b).a
        rw [← h1.2, ← h2.2]
        exact e
      have := (hp.inj i a i b (by omega) h1.1 (by omega) h2.1 e1).2
      omega
    · obtain ⟨i', q, a, b, rfl⟩ := mem_piecesO.1 hx
      obtain ⟨r, c, rfl⟩ := Plan.mem_run.1 hy
      have := (hp.inj i' q i r (by omega) b (by omega) c e).1
      omega


/-- An address in a block of octets that is new. -/
def DB (w1 w : World) (A : Option Addr) : Prop := ∃ g o, A = some ⟨g, o, none⟩ ∧ w1.heap.size ≤ g ∧ ∃ cs, w.heap[g]? = some (.cells cs 5 (0, 0))
theorem DB.part {S : Nat → Prop} {w1 w w' : World} {A : Option Addr} (h : DB w1 w A) (hp : Part S w w') (hS : ∀ k, S k → ∃ cs t fr, w.heap[k]? = some (.cells cs t fr) ∧ t ≠ 5) : DB w1 w' A ∧ ∀ a, A = some a → ¬ S a.block := by
  obtain ⟨g, o, e, hg, cs, hc⟩ := h
  have hn : ¬ S g := fun hs => by
    obtain ⟨cs', t, fr, h1, h2⟩ := hS g hs
    rw [hc] at h1
    injection h1 with h1
    injection h1 with _ h3
    exact h2 h3.symm
  refine ⟨⟨g, o, e, hg, cs, (hp.block g (Array.getElem?_eq_some_iff.1 hc).1 hn).trans hc⟩, fun a ha => ?_⟩
  rw [e] at ha
  injection ha with ha
  rw [← ha]
  exact hn
/-- While messages are made: the first i of them in a row of their own, the pieces of the first i' in another. -/
structure MK (w1 : World) (p : Plan) (i i' : Nat) (A : Option Addr) (ca : Nat) (la : List MX) (B : Option Addr) (nb cb : Nat) (lb : List CX) (wr : World) : Prop where
  be : Below w1.heap.size w1 wr
  ra : wr.ownsRow w1.heap.size 44 4 (.slice A i ca) i (flatF MX.cells la)
  rb : wr.ownsRow w1.heap.size 34 12 (.slice B nb cb) nb (flatF CX.cells lb)
  va : ∀ x ∈ la, MV wr x ∧ DB w1 wr x.da.1
  vb : ∀ x ∈ lb, CV wr x ∧ Plain x ∧ DB w1 wr x.da.1
  ia : la.map MX.msg = (List.range i).map p.ms
  ib : lb.map CX.ch = piecesO p i'
  nb : nb = lb.length
theorem MK.start (w1 : World) (p : Plan) : MK w1 p 0 0 none 0 [] none 0 0 [] w1 :=
  ⟨Below.refl _ _, World.ownsRow_nil _ _ _ _, World.ownsRow_nil _ _ _ _, fun _ h => (by cases h), fun _ h => (by cases h), rfl, rfl, rfl⟩
section
variable {w1 wr w3 : World} {p : Plan} {i i' : Nat} {A : Option Addr} {ca : Nat} {la : List MX} {B : Option Addr} {nb cb : Nat} {lb : List CX}
theorem MV.part {S : Nat → Prop} {w w' : World} {x : MX} (h : MV w x) (hp : Part S w w') (hA : ∀ a, x.da.1 = some a → ¬ S a.block) : MV w' x := ⟨h.st, h.pp, h.bs.1, h.bs.2.1, hp.sr h.bs.2.2 hA⟩
theorem CV.part {S : Nat → Prop} {w w' : World} {x : CX} (h : CV w x) (hpl : Plain x) (hp : Part S w w') (hA : ∀ a, x.da.1 = some a → ¬ S a.block) : CV w' x := by
  refine ⟨h.kd, h.fl, h.a, h.b, h.ou, h.si, h.pp, ⟨h.ps.1, h.ps.2.1, ?_⟩, ⟨h.bs.1, h.bs.2.1, hp.sr h.bs.2.2 hA⟩⟩
  have h0 := h.ps.1
  rw [hpl.2.2.2] at h0
  rw [show x.ps = [] from List.eq_nil_of_length_eq_zero h0.symm]
  exact SR.nil _ _
theorem MK.part {S : Nat → Prop} (h : MK w1 p i i' A ca la B nb cb lb wr) (hp : Part S wr w3) (hS : ∀ k, S k → ∃ cs t fr, wr.heap[k]? = some (.cells cs t fr) ∧ t ≠ 5) : (∀ x ∈ la, MV w3 x ∧ DB w1 w3 x.da.1) ∧ ∀ x ∈ lb, CV w3 x ∧ Plain x ∧ DB w1 w3 x.da.1 :=
  ⟨fun x hx => by
    obtain ⟨a, b⟩ := h.va x hx
    obtain ⟨c, d⟩ := b.part hp hS
    exact ⟨a.part hp d, c⟩, fun x hx => by
    obtain ⟨a, b, e⟩ := h.vb x hx
    obtain ⟨c, d⟩ := e.part hp hS
    exact ⟨a.part b hp d, b, c⟩⟩
theorem MK.step (h : MK w1 p i i' A ca la B nb cb lb wr) (hb : Below wr.heap.size wr w3) : MK w1 p i i' A ca la B nb cb lb w3 := by
  have hp := Part.of_below (fun _ => False) hb
  obtain ⟨a, b⟩ := h.part hp fun k hk => hk.elim
  exact ⟨up h.be hb, own_step h.ra hb, own_step h.rb hb, a, b, h.ia, h.ib, h.nb⟩
/-- One message more. -/
theorem MK.putA (h : MK w1 p i i' A ca la B nb cb lb wr) {y : MX} (hy : MV wr y ∧ DB w1 wr y.da.1) (hm : y.msg = p.ms i) (hb : Below w1.heap.size wr w3) (hg : wr.grownBy w3 (Value.slice A i ca).ownBlock) {A' : Option Addr} {c' : Nat}
    (ho : w3.ownsRow w1.heap.size 44 4 (.slice A' (i + 1) c') (i + 1) (flatF MX.cells la ++ y.cells)) : MK w1 p (i + 1) i' A' c' (la ++ [y]) B nb cb lb w3 := by
  have hp : Part (fun k => (Value.slice A i ca).ownBlock = some k) wr w3 := Part.of_grown hg fun k hk => hk
  have hS : ∀ k, (Value.slice A i ca).ownBlock = some k → ∃ cs t fr, wr.heap[k]? = some (.cells cs t fr) ∧ t ≠ 5 := fun k hk => by
    obtain ⟨cs, fr, hc⟩ := own_cells h.ra hk
    exact ⟨cs, _, fr, hc, by decide⟩
  obtain ⟨a, b⟩ := h.part hp hS
  refine ⟨h.be.trans hb, ?_, hp.own h.rb fun g e e' => ?_, fun x hx => ?_, b, ?_, h.ib, h.nb⟩
  · rw [flatF_append, show flatF MX.cells [y] = y.cells by simp [flatF]]
    exact ho
  · obtain ⟨cs, fr, hc⟩ := own_cells h.ra e'
    obtain ⟨cs', fr', hc'⟩ := own_cells h.rb e
    rw [hc] at hc'
    injection hc' with hc'
    injection hc' with _ h3
    exact absurd h3 (by decide)
  · rcases List.mem_append.1 hx with hx | hx
    · exact a x hx
    · rw [List.mem_singleton.1 hx]
      obtain ⟨c, d⟩ := hy.2.part hp hS
      exact ⟨hy.1.part hp d, c⟩
  · rw [List.map_append, h.ia, List.range_succ, List.map_append]
    show _ ++ [y.msg] = _
    rw [hm]
    rfl
/-- .. and its pieces. -/
theorem MK.putB (h : MK w1 p i i' A ca la B nb cb lb wr) {l : List CX} {N : Nat} (hN : N = l.length) (hl : ∀ x ∈ l, CV wr x ∧ Plain x ∧ DB w1 wr x.da.1) (hm : l.map CX.ch = p.run i') (hb : Below w1.heap.size wr w3) (hg : wr.grownBy w3 (Value.slice B nb cb).ownBlock) {B' : Option Addr} {c' : Nat}
    (ho : w3.ownsRow w1.heap.size 34 12 (.slice B' (nb + N) c') (nb + N) (flatF CX.cells lb ++ flatF CX.cells l)) : MK w1 p i (i' + 1) A ca la B' (nb + N) c' (lb ++ l) w3 := by
  have hp : Part (fun k => (Value.slice B nb cb).ownBlock = some k) wr w3 := Part.of_grown hg fun k hk => hk
  have hS : ∀ k, (Value.slice B nb cb).ownBlock = some k → ∃ cs t fr, wr.heap[k]? = some (.cells cs t fr) ∧ t ≠ 5 := fun k hk => by
    obtain ⟨cs, fr, hc⟩ := own_cells h.rb hk
    exact ⟨cs, _, fr, hc, by decide⟩
  obtain ⟨a, b⟩ := h.part hp hS
  refine ⟨h.be.trans hb, hp.own h.ra fun g e e' => ?_, ?_, a, fun x hx => ?_, h.ia, ?_, by rw [List.length_append, h.nb, hN]⟩
  · obtain ⟨cs, fr, hc⟩ := own_cells h.rb e'
    obtain ⟨cs', fr', hc'⟩ := own_cells h.ra e
    rw [hc] at hc'
    injection hc' with hc'
    injection hc' with _ h3
    exact absurd h3 (by decide)
  · rw [flatF_append]
    exact ho
  · rcases List.mem_append.1 hx with hx | hx
    · exact b x hx
    · obtain ⟨u, v, z⟩ := hl x hx
      obtain ⟨c, d⟩ := z.part hp hS
      exact ⟨u.part v hp d, v, c⟩
  · rw [List.map_append, h.ib, hm, piecesO_succ]
end
theorem MK.others {w1 wr w3 : World} {p : Plan} {i i' : Nat} {A : Option Addr} {ca : Nat} {la : List MX} {B : Option Addr} {nb cb : Nat} {lb : List CX} (h : MK w1 p i i' A ca la B nb cb lb wr) (hg : wr.grownBy w3 (Value.slice A i ca).ownBlock) {l : List CX} (hl : ∀ x ∈ l, CV wr x ∧ Plain x ∧ DB w1 wr x.da.1) : ∀ x ∈ l, CV w3 x ∧ Plain x ∧ DB w1 w3 x.da.1 := fun x hx => by
  have hp : Part (fun k => (Value.slice A i ca).ownBlock = some k) wr w3 := Part.of_grown hg fun k hk => hk
  obtain ⟨u, v, z⟩ := hl x hx
  obtain ⟨c, d⟩ := z.part hp fun k hk => by
    obtain ⟨cs, fr, hc⟩ := own_cells h.ra hk
    exact ⟨cs, _, fr, hc, by decide⟩
  exact ⟨u.part v hp d, v, c⟩
theorem made_row {W : World} {g n : Nat} {i : Int} (h : W.heap[g]? = some (.cells (List.replicate (n + 1) (Value.int .u8 0)).toArray 5 (0, 0))) (h0 : 0 ≤ i) (h1 : i < 256) :
    (W.setCell ⟨g, 0, none⟩ (.int .u8 i)).heap[g]? = some (.cells (bc (b8 i :: List.replicate n 0)).toArray 5 (0, 0)) := by
  rw [heap_setCell_same W g 0 _ _ _ h]
  congr 2
  rw [List.replicate_succ]
  simp only [List.setIfInBounds_toArray, List.set_cons_zero]
  unfold bc
  rw [List.map_cons, b8_of i h0 h1, List.map_replicate]
  rfl
theorem joinOrders_let (tsn : Int) (Z : Option Addr) (m c : Nat) (most : Int) (P : Option Addr) (n c' : Nat) (w : World) (h : 20 < (m : Int) ∨ most < 1 ∨ 1172 < most) :
    Calls Try.prog 4 #[.int .u32 tsn, .slice Z m c, .int .i64 most, .slice P n c'] w fun e w' => e = .returned (.bool true) ∧ Below w.heap.size w w' := by
  have K0 := keep (fun w => awake_any w)
  have h' : 20 < (m : Int) ∨ (¬ 20 < (m : Int) ∧ most < 1) ∨ (¬ 20 < (m : Int) ∧ ¬ most < 1 ∧ 1172 < most) := by omega
  clear h
  rcases h' with h | ⟨h0, h⟩ | ⟨h0, h1, h⟩
  all_goals
    go_enter Try.func4, Try.ntmps4
    go_wp2_with (go_at_call 8; refine (K0.out _).mono ?_; rintro e w1 ⟨rfl, hb1⟩; replace hb1 := keep hb1)
    go_ret
    exact ⟨rfl, hb1.out⟩


/-- What is left to be added lies at B; those of Q have come. -/
structure QM (ws : World) (b : Nat) (p : Plan) (B : Option Addr) (nb cb : Nat) (lb : List CX) (Q : Nat → Nat → Prop) (o : Nat) (G : Gh) (j : Jn) (wr : World) : Prop where
  jb : JB ws wr G j
  b : G.b = b
  cs : CS wr B nb cb lb
  na : ∀ a, B = some a → ¬ G.O a.block
  al : ∀ a, B = some a → a.block < wr.heap.size
  dl : ∀ y ∈ lb, ∀ a, y.da.1 = some a → a.block < ws.heap.size
  pl : ∀ y ∈ lb, Plain y
  inv : ∃ f, p.Inv j Q f
  oct : j.oct ≤ o
section
variable {ws wr w' : World} {b : Nat} {p : Plan} {B : Option Addr} {nb cb : Nat} {lb : List CX} {Q : Nat → Nat → Prop} {o : Nat} {G G' : Gh} {j j' : Jn}
theorem QM.to (h : QM ws b p B nb cb lb Q o G j wr) (hl : Later wr G w' G') (hj : JB ws w' G' j') {Q' : Nat → Nat → Prop} {o' : Nat} (hi : ∃ f, p.Inv j' Q' f) (ho : j'.oct ≤ o') : QM ws b p B nb cb lb Q' o' G' j' w' :=
  ⟨hj, hl.b.trans h.b, h.cs.kept hl.part h.na (fun y hy a e hc => by
    have h1 := h.jb.ow _ hc
    have h2 := h.dl y hy a e
    omega) h.pl, fun a e => hl.notO (h.al a e) (h.na a e), fun a e => Nat.lt_of_lt_of_le (h.al a e) hl.part.size, h.dl, h.pl, hi, ho⟩
theorem QM.step (h : QM ws b p B nb cb lb Q o G j wr) (hb : Below wr.heap.size wr w') : QM ws b p B nb cb lb Q o G j w' :=
  ⟨h.jb.step hb, h.b, h.cs.step hb, h.na, fun a e => Nat.lt_of_lt_of_le (h.al a e) hb.size, h.dl, h.pl, h.inv, h.oct⟩
/-- A piece comes for the first time. -/
theorem QM.first (h : QM ws b p B nb cb lb Q o G j wr) (hp : p.Row) {i q : Nat} (hi : i < p.M) (hq : q < p.N i) (hA : ¬ Q i q) (hlen : (p.ms i).da.length ≤ 32) (ho : o + 32 ≤ 65536) {r : Int} (hr : AddR j (p.c i q) r j') (hl : Later wr G w' G') (hj : JB ws w' G' j') :
    r = 0 ∧ QM ws b p B nb cb lb (Plan.Add1 Q i q) (o + 32) G' j' w' := by
  obtain ⟨f, hf⟩ := h.inv
  have h1 := h.oct
  obtain ⟨he, hc⟩ := hf.first (j' := j') hp hi hq hA (by omega)
  obtain ⟨hr1, hr2, hr3⟩ := hr
  rw [he] at hr1
  subst hr1
  have hw := (came_wf hf.wf (hp.toOk.fits (q := q) hi) he (hr3 rfl)).2.1
  have hd := Plan.da_le (p := p) i q
  exact ⟨rfl, h.to hl hj (hc (hr3 rfl)) (by omega)⟩
/-- .. and once more. -/
theorem QM.second (h : QM ws b p B nb cb lb Q o G j wr) (hp : p.Row) {i q : Nat} (hi : i < p.M) (hq : q < p.N i) (hA : Q i q) (hlen : (p.ms i).da.length ≤ 32) {r : Int} (hr : AddR j (p.c i q) r j') (hl : Later wr G w' G') (hj : JB ws w' G' j') :
    QM ws b p B nb cb lb Q (o + 32) G' j' w' := by
  obtain ⟨f, hf⟩ := h.inv
  have h1 := h.oct
  have hw := (add_wf hf.wf (hp.toOk.fits (q := q) hi) hr).2.2.2
  have hd := Plan.da_le (p := p) i q
  exact h.to hl hj ⟨f, hf.second hp hi hq hA hr⟩ (by split at hw <;> omega)
end
/-- Between two rounds: those that are left are all that have not come. -/
structure QK (ws : World) (b : Nat) (p : Plan) (B : Option Addr) (nb cb : Nat) (lb : List CX) (i : Nat) (G : Gh) (j : Jn) (wr : World) : Prop where
  qm : QM ws b p B nb cb lb (HasC p (lb.map CX.ch)) (64 * i) G j wr
  kc : KeysC (lb.map CX.ch)
  sub : ∀ x ∈ lb.map CX.ch, x ∈ piecesO p p.M
  cnt : i + nb ≤ 640
section
variable {ws wr w' : World} {b : Nat} {p : Plan} {B : Option Addr} {nb cb : Nat} {lb : List CX} {i : Nat} {G : Gh} {j : Jn}
/-- The one at t. -/
theorem QK.get (h : QK ws b p B nb cb lb i G j wr) (hp : p.Row) (hlen : ∀ i, (p.ms i).da.length ≤ 32) {t : Nat} {x : CX} (hx : lb[t]? = some x) :
    ∃ i1 q1, i1 < p.M ∧ q1 < p.N i1 ∧ x.c0 = p.c i1 q1 ∧ (lb.map CX.ch)[t]? = some (p.c i1 q1) ∧ ¬ HasC p (lb.map CX.ch) i1 q1 := by
  have hm : x.ch ∈ lb.map CX.ch := List.mem_map.2 ⟨x, List.mem_of_getElem? hx, rfl⟩
  obtain ⟨i1, q1, h1, h2, h3⟩ := mem_piecesO.1 (h.sub _ hm)
  refine ⟨i1, q1, h1, h2, c0_of h3 rfl, ?_, fun hc => hc.2.2 (by rw [← h3]; exact hm)⟩
  rw [List.getElem?_map, hx, ← h3]
  rfl
/-- The one at t is left no more: what is left lies in another row. -/
theorem QK.next (h : QK ws b p B nb cb lb i G j wr) (hp : p.Row) {t i1 q1 : Nat} (hi : i1 < p.M) (hq : q1 < p.N i1) (ht : (lb.map CX.ch)[t]? = some (p.c i1 q1)) {G' : Gh} {j' : Jn} (hm : QM ws b p B nb cb lb (Plan.Add1 (HasC p (lb.map CX.ch)) i1 q1) (64 * i + 64) G' j' w') {w9 : World} (hb : Below w'.heap.size w' w9) {B' : Option Addr} {nb' cb' : Nat} (hn : nb' + 1 = nb) (hcs : CS w9 B' nb' cb' (lb.eraseIdx t)) (hnew : ∀ a, B' = some a → w'.heap.size ≤ a.block ∧ a.block < w9.heap.size) :
    QK ws b p B' nb' cb' (lb.eraseIdx t) (i + 1) G' j' w9 := by
  have he : (lb.eraseIdx t).map CX.ch = (lb.map CX.ch).eraseIdx t := by
    rw [List.eraseIdx_eq_take_drop_succ, List.eraseIdx_eq_take_drop_succ, List.map_append, List.map_take, List.map_drop]
  refine ⟨⟨hm.jb.step hb, hm.b, hcs, fun a e hc => ?_, fun a e => (hnew a e).2, fun y hy => hm.dl y (List.mem_of_mem_eraseIdx hy), fun y hy => hm.pl y (List.mem_of_mem_eraseIdx hy), ?_, ?_⟩, ?_, fun x hx => ?_, ?_⟩
  · have h1 := hm.jb.jg.ja.olt _ hc
    have h2 := (hnew a e).1
    omega
  · rw [he, hasC_less hp.toOk h.kc hi hq ht]
    exact hm.inv
  · have := hm.oct
    omega
  · rw [he]
    exact List.Pairwise.sublist (List.eraseIdx_sublist _ _) h.kc
  · rw [he] at hx
    exact h.sub x (List.mem_of_mem_eraseIdx hx)
  · have := h.cnt
    omega
/-- Nothing is left: all is told. -/
theorem QK.done (h : QK ws b p B 0 cb lb i G j wr) : j.rd = (List.range p.M).map p.ms := by
  have hl : lb = [] := List.eq_nil_of_length_eq_zero h.qm.cs.1.symm
  obtain ⟨f, hf⟩ := h.qm.inv
  refine hf.done fun i q hi hq => ?_
  rw [hl]
  exact hasC_done i q hi hq
end
/-- All messages are made, and a join is new. -/
theorem QK.start {w1 ws w2 : World} {p : Plan} {A : Option Addr} {ca : Nat} {la : List MX} {B : Option Addr} {nb cb : Nat} {lb : List CX} (h : MK w1 p p.M p.M A ca la B nb cb lb ws) (hp : p.Row) {G : Gh} (hj : JB ws w2 G (newJ 2)) (hb : Below ws.heap.size ws w2) (hn : nb ≤ 640) : QK ws G.b p B nb cb lb 0 G (newJ 2) w2 := by
  have hall : HasC p (lb.map CX.ch) = fun _ _ => False := by rw [h.ib]; exact hasC_all p
  have hlt : ∀ a, B = some a → a.block < ws.heap.size := fun a e => by
    have h9 := h.rb
    rw [e] at h9
    exact (h9.lt a.block rfl).2
  refine ⟨⟨hj, rfl, (CS.of_own h.rb fun x hx => (h.vb x hx).1).step hb, fun a e hc => ?_, fun a e => Nat.lt_of_lt_of_le (hlt a e) hb.size, fun y hy a e => ?_, fun y hy => (h.vb y hy).2.1, ⟨0, ?_⟩, Nat.le_of_ble_eq_true rfl⟩, ?_, fun x hx => ?_, by omega⟩
  · have h1 := hj.ow _ hc
    have h2 := hlt a e
    omega
  · obtain ⟨g, o, e1, _, cs, hc⟩ := (h.vb y hy).2.2
    rw [e] at e1
    injection e1 with e1
    rw [e1]
    exact (Array.getElem?_eq_some_iff.1 hc).1
  · rw [hall]
    exact Plan.Inv.new hp
  · rw [h.ib]
    exact keys_piecesO hp.toOk p.M (Nat.le_refl _)
  · rw [h.ib] at hx
    exact hx


theorem At12.same {w w' : World} {b o : Nat} {x : CX} (h : At12 w b o x) (hb : w'.heap[b]? = w.heap[b]?) : At12 w' b o x :=
  have key := fun (j : Nat) => World.cell?_of_block (a := (⟨b, j, none⟩ : Addr)) hb
  ⟨(key _).trans h.1, (key _).trans h.2.1, (key _).trans h.2.2.1, (key _).trans h.2.2.2.1, (key _).trans h.2.2.2.2.1, (key _).trans h.2.2.2.2.2.1, (key _).trans h.2.2.2.2.2.2.1, (key _).trans h.2.2.2.2.2.2.2.1, (key _).trans h.2.2.2.2.2.2.2.2.1, (key _).trans h.2.2.2.2.2.2.2.2.2.1, (key _).trans h.2.2.2.2.2.2.2.2.2.2.1, (key _).trans h.2.2.2.2.2.2.2.2.2.2.2⟩
set_option maxRecDepth 1000000 in
set_option maxHeartbeats 8000000 in
theorem joinOrders_go (tsn : Int) (Z : Option Addr) (m c : Nat) (zs : List Int) (k : Nat) (P : Option Addr) (n c' : Nat) (ps : List Int) (w : World) (ht : 0 ≤ tsn ∧ tsn < 4294967296) (hZ : NS .i64 w Z m c zs) (hP : NS .i64 w P n c' ps) (hm : m ≤ 20) (hk : 0 < k) (hk2 : k ≤ 1172) :
    Calls Try.prog 4 #[.int .u32 tsn, .slice Z m c, .int .i64 (k : Int), .slice P n c'] w fun e w' => e = .returned (.bool true) ∧ Below w.heap.size w w' := by
  have K0 := keep (fun w => awake_any w)
  have HZ := keep hZ
  have HP := keep hP
  have HT := keep ht
  have HB := keep (And.intro hm (And.intro hk hk2))
  have q1 : ¬ 20 < (m : Int) := by omega
  have q2 : ¬ (k : Int) < 1 := by omega
  have q3 : ¬ 1172 < (k : Int) := by omega
  have HR := keep (po_row tsn zs hk (by rw [← hZ.1]; exact hm))
  clear ht hZ hP hm hk hk2
  go_enter Try.func4, Try.ntmps4
  go_wp2_with (first
    | (go_at_call 8; refine (K0.out _).mono ?_; rintro e w1 ⟨rfl, hb1⟩; replace hb1 := keep hb1))
  obtain ⟨i0, hi0, hz0, hz1, hz2⟩ := info_parts u8_info
  obtain ⟨j0, gi0, gz0, gz1, gz2⟩ := info_parts msg_info
  obtain ⟨k0, ki0, kz0, kz1, kz2⟩ := info_parts chunk_info9
  go_loopw [10, 11, 12] (fun av lv iv wr => ∃ (i : Nat) (A : Option Addr) (ca : Nat) (la : List MX) (B : Option Addr) (nb cb : Nat) (lb : List CX), av = .slice A i ca ∧ lv = .slice B nb cb ∧ iv = .int .i64 (i : Int) ∧ i ≤ m ∧ Hid (MK w1 (po tsn zs k) i i A ca la B nb cb lb wr)) (fun _ _ iv _ => m - (intOf iv).toNat)
  case atStart => exact ⟨0, none, 0, [], none, 0, 0, [], rfl, rfl, rfl, Nat.zero_le _, keep (MK.start w1 _)⟩
  case round =>
    obtain ⟨i, A, ca, la, B, nb, cb, lb, rfl, rfl, rfl, hi, HK⟩ := hrel
    have hwi : IntKind.i64.wrap ((i : Int) + 1) = (i : Int) + 1 := wrap_small (by omega) (by have := HB.out; omega)
    by_cases hlt : i < m
    · have hlt' : (i : Int) < (m : Int) := by omega
      obtain ⟨bz, oz, z, rfl, hbz, cz, hz, _⟩ := (HZ.out.step (up hb1.out HK.out.be)).at_ hlt
      obtain ⟨nz, hnz⟩ : ∃ q, zn zs i = q := ⟨_, rfl⟩
      have hnz31 : nz ≤ 31 := by rw [← hnz]; exact zn_le zs i
      have eand : bits .and .i64 z 31 = (nz : Int) := (and_i64 z 5 (by omega)).trans (by rw [← hnz]; unfold zn; rw [hz]; show z % 32 = ((z % 32).toNat : Int); omega)
      have eadd : IntKind.i64.wrap (1 + (nz : Int)) = ((nz + 1 : Nat) : Int) := by rw [wrap_small (by omega) (by omega)]; omega
      have hi256 : i < 256 := by have := HB.out.1; omega
      have hw32 : IntKind.u32.wrap (i : Int) = (i : Int) := by rw [wrap_u32]; omega
      have hw16 : IntKind.u16.wrap (i : Int) = (i : Int) := by rw [wrap_u16]; omega
      have hw8 : IntKind.u8.wrap (i : Int) = (i : Int) := by simp [IntKind.wrap, IntKind.signed, IntKind.bits]; omega
      have hnb : nb = offO zs k i := by
        have h1 := congrArg List.length HK.out.ib
        rw [List.length_map, piecesO_len] at h1
        rw [HK.out.nb, h1]
      have hnbx : nb ≤ 640 := by have := offO_max zs HB.out.2.1 i; have := HB.out.1; omega
      obtain ⟨ts, hts⟩ : ∃ q, (tsn + (nb : Int)) % 4294967296 = q := ⟨_, rfl⟩
      have hwt1 : IntKind.u32.wrap (nb : Int) = (nb : Int) := by rw [wrap_u32]; omega
      have hwt2 : IntKind.u32.wrap (tsn + (nb : Int)) = ts := by rw [wrap_u32]; exact hts
      have HTS := keep (show ts = (po tsn zs k).ts i ∧ 0 ≤ ts ∧ ts < 4294967296 from ⟨by rw [← hts, hnb]; rfl, by omega, by omega⟩)
      have HMS := keep (show (⟨1, false, (i : Int), b8 (i : Int) :: List.replicate nz 0⟩ : Msg) = (po tsn zs k).ms i from by rw [← hnz]; rfl)
      have HN := keep (And.intro hnz31 (And.intro hi256 (And.intro hlt hnbx)))
      obtain ⟨n1, hn1⟩ : ∃ q, nz + 1 = q := ⟨_, rfl⟩
      have hn1p : (0 : Int) < (n1 : Int) := by omega
      have hn1q : ¬ (n1 : Int) ≤ 0 := by omega
      rw [hn1] at eadd
      have HN1 := keep hn1
      clear hts hnb hnz31 hnz hz hlt hi256 hnbx hn1
      go_wp2_with (first
        | (at_make; refine wpl_make rfl _ _ 32 rfl 5 i0 (.int .u8 0) Try.underlying32 hi0 hz0 hz1 rfl n1 _ rfl rfl rfl (by rw [hz2]; have := HN1.out; have := HN.out.1; omega) (by have := HN1.out; have := HN.out.1; unfold maxLen; omega) ?_
           intro w2 hg2 hb2 hs2
           have hg2' := hg2.out
           rw [← HN1.out] at hg2'
           have hrow := made_row hg2' (show (0 : Int) ≤ (i : Int) by omega) (show (i : Int) < 256 by have := HN.out.2.1; omega)
           have hsz3 : (w2.setCell ⟨wr.heap.size, 0, none⟩ (.int .u8 (i : Int))).heap.size = w2.heap.size := by simp [World.setCell]
           have hla := below_lay (w2.setCell ⟨wr.heap.size, 0, none⟩ (.int .u8 (i : Int))) (.cells #[.int .u16 1, .bool false, .int .u32 (i : Int), .slice (some ⟨wr.heap.size, 0, none⟩) n1 n1] 44)
           have HR3 := keep ((hla.block wr.heap.size (by rw [hsz3]; exact hs2)).trans hrow)
           have HM3 := keep (show MB ((w2.setCell ⟨wr.heap.size, 0, none⟩ (.int .u8 (i : Int))).alloc (.cells #[.int .u16 1, .bool false, .int .u32 (i : Int), .slice (some ⟨wr.heap.size, 0, none⟩) n1 n1] 44)) w2.heap.size ⟨1, false, (i : Int), (some ⟨wr.heap.size, 0, none⟩, n1, n1), b8 (i : Int) :: List.replicate nz 0⟩ from by
             have h9 := heap_alloc_new (w2.setCell ⟨wr.heap.size, 0, none⟩ (.int .u8 (i : Int))) (.cells #[.int .u16 1, .bool false, .int .u32 (i : Int), .slice (some ⟨wr.heap.size, 0, none⟩) n1 n1] 44)
             rw [hsz3] at h9
             exact h9)
           have HB3 := keep (show Below wr.heap.size wr ((w2.setCell ⟨wr.heap.size, 0, none⟩ (.int .u8 (i : Int))).alloc (.cells #[.int .u16 1, .bool false, .int .u32 (i : Int), .slice (some ⟨wr.heap.size, 0, none⟩) n1 n1] 44)) from (hb2.setCell (p := ⟨wr.heap.size, 0, none⟩) (Nat.le_refl _) (.int .u8 (i : Int))).alloc (by rw [hsz3]; exact Nat.le_of_lt hs2) _)
           have c9 : w2.cell? ⟨wr.heap.size, 0, none⟩ = some (.int .u8 0) := by
             rw [cell_of_row _ _ _ _ _ _ hg2']
             simp [List.replicate_succ]
           have f9 : w2.frozen? ⟨wr.heap.size, 0, none⟩ = false := by simp [World.frozen?, hg2']
           clear hg2 hg2' hb2 hla hrow hsz3)
        | (go_at_call 15
           have hMV := (show MV ((w2.setCell ⟨wr.heap.size, 0, none⟩ (.int .u8 (i : Int))).alloc (.cells #[.int .u16 1, .bool false, .int .u32 (i : Int), .slice (some ⟨wr.heap.size, 0, none⟩) n1 n1] 44)) ⟨1, false, (i : Int), (some ⟨wr.heap.size, 0, none⟩, n1, n1), b8 (i : Int) :: List.replicate nz 0⟩ from ⟨(show (0 : Int) ≤ 1 ∧ (1 : Int) < 65536 by decide), (show (0 : Int) ≤ (i : Int) ∧ (i : Int) < 4294967296 from by have := HN.out.2.1; omega), by
             have hlen : n1 = (b8 (i : Int) :: List.replicate nz (0 : UInt8)).length := by rw [List.length_cons, List.length_replicate]; exact HN1.out.symm
             exact ⟨hlen, Nat.le_refl _, BR.row HR3.out⟩⟩)
           refine (refSplit_ok ⟨1, false, (i : Int), (some ⟨wr.heap.size, 0, none⟩, n1, n1), b8 (i : Int) :: List.replicate nz 0⟩ ts (i : Int) k _ hMV HTS.out.2 (by have := HN.out.2.1; omega) HB.out.2.1 HB.out.2.2 (by show 0 < (b8 (i : Int) :: List.replicate nz (0 : UInt8)).length; rw [List.length_cons]; omega) (by show (b8 (i : Int) :: List.replicate nz (0 : UInt8)).length ≤ 2000; rw [List.length_cons, List.length_replicate]; have := HN.out.1; omega)).mono ?_
           rintro e w5 ⟨A5, c5, l5, he5, hcs5, hpl5, hl5, hb5, hda5, hnew5⟩
           obtain ⟨N, hN⟩ : ∃ N, cnt k (⟨1, false, (i : Int), b8 (i : Int) :: List.replicate nz 0⟩ : Msg).da.length = N := ⟨_, rfl⟩
           have he5 : e = .returned (.tuple #[.slice A5 (cnt k (⟨1, false, (i : Int), b8 (i : Int) :: List.replicate nz 0⟩ : Msg).da.length) c5, .int .i64 0]) := he5
           have hcs5 : CS w5 A5 (cnt k (⟨1, false, (i : Int), b8 (i : Int) :: List.replicate nz 0⟩ : Msg).da.length) c5 l5 := hcs5
           have HNN := keep (show N ≤ 32 from by
             have h1 := cnt_le_n (n := (⟨1, false, (i : Int), b8 (i : Int) :: List.replicate nz 0⟩ : Msg).da.length) HB.out.2.1
             rw [hN] at h1
             have h2 : (⟨1, false, (i : Int), b8 (i : Int) :: List.replicate nz 0⟩ : Msg).da.length = nz + 1 := by simp
             have := HN.out.1
             omega)
           rw [hN] at he5 hcs5
           subst he5
           have H5 := keep (And.intro hcs5 (And.intro hpl5 (And.intro hl5 (And.intro hb5 (And.intro hda5 hnew5)))))
           have HM5 := keep (MB.step HM3.out hb5)
           have HY5 := keep (hMV.step hb5)
           obtain ⟨⟨m0, m1, m2, m3⟩, _⟩ := HM5.out.all
           dsimp only at m0 m1 m2 m3
           have hK5 := (HK.out.step HB3.out).step H5.out.2.2.2.1
           have hD5 := (show DB w1 w5 (some ⟨wr.heap.size, 0, none⟩) from ⟨wr.heap.size, 0, rfl, HK.out.be.size, _, (H5.out.2.2.2.1.block wr.heap.size (Array.getElem?_eq_some_iff.1 HR3.out).1).trans HR3.out⟩)
           have hrun : l5.map CX.ch = (po tsn zs k).run i := by
             rw [H5.out.2.2.1]
             show splitL _ ts (i : Int) k = splitL ((po tsn zs k).ms i) ((po tsn zs k).ts i) (i : Int) k
             rw [← HMS.out, ← HTS.out.1]
             rfl
           have hL5 : ∀ x ∈ l5, CV w5 x ∧ Plain x ∧ DB w1 w5 x.da.1 := fun x hx => by
             have hcv := H5.out.1.2.2.2 x hx
             refine ⟨hcv, H5.out.2.1 x hx, ?_⟩
             have h1 : x.ch ∈ (po tsn zs k).run i := by rw [← hrun]; exact List.mem_map.2 ⟨x, hx, rfl⟩
             obtain ⟨q, hq, e1⟩ := Plan.mem_run.1 h1
             have h2 : x.bs ≠ [] := by
               have h3 := HR.out.toOk.da hq
               rw [← e1] at h3
               exact h3
             obtain ⟨g, o, e2, hg, _⟩ := hcv.bs.br.sr (fun h0 => by
               have h4 := congrArg List.length h0
               rw [bc_length] at h4
               exact h2 (List.eq_nil_of_length_eq_zero h4))
             obtain ⟨a0, e3, e4⟩ := H5.out.2.2.2.2.1 x hx _ e2
             injection e3 with e3
             rw [← e3] at e4
             have e4 : wr.heap.size = g := e4
             obtain ⟨g', o', e5, h5, cs, h6⟩ := hD5
             injection e5 with e5
             injection e5 with e5
             exact ⟨g, o, e2, by rw [← e4, e5]; exact h5, cs, by rw [← e4, e5]; exact h6⟩
           have HJ5 := keep (And.intro hK5 (And.intro hD5 (And.intro hrun hL5)))
           clear hK5 hD5 hrun hL5
           clear hcs5 hpl5 hl5 hb5 hda5 hnew5 hMV c9 f9)
        | (at_builtin
           refine wpl_appendK (by decide) rfl (.tmp 67) (.tmp 69) 41 rfl w1.heap.size 44 j0 _ Try.underlying41 gi0 gz0 gz1 rfl _ i (flatF MX.cells la) rfl (HJ5.out.1.step (below_lay w5 _)).ra (some ⟨w5.heap.size, 0, none⟩) 1 1 [.int .u16 1, .bool false, .int .u32 (i : Int), .slice (some ⟨wr.heap.size, 0, none⟩) n1 n1] rfl rfl (SR.row (heap_alloc_new w5 _)) (MX.one ⟨1, false, (i : Int), (some ⟨wr.heap.size, 0, none⟩, n1, n1), b8 (i : Int) :: List.replicate nz 0⟩) (by have := HN.out.2.1; unfold maxLen; omega) (by rw [gz2]; have := HN.out.2.1; omega) (Nat.le_trans HJ5.out.1.be.size (below_lay w5 _).size) ?_
           intro A6 ca6 w6 ho6 hb6 hg6
           have hla := below_lay w5 (.cells #[.int .u16 1, .bool false, .int .u32 (i : Int), .slice (some ⟨wr.heap.size, 0, none⟩) n1 n1] 44)
           have hK6 := (HJ5.out.1.step hla)
           have hp0 := Part.of_below (fun _ => False) hla
           have HK6 := keep (hK6.putA (y := ⟨1, false, (i : Int), (some ⟨wr.heap.size, 0, none⟩, n1, n1), b8 (i : Int) :: List.replicate nz 0⟩) ⟨HY5.out.step hla, (HJ5.out.2.1.part hp0 fun k hk => hk.elim).1⟩ HMS.out hb6 hg6.out ho6.out)
           have HL6 := keep (hK6.others hg6.out fun x hx => by
             obtain ⟨u, v, z⟩ := HJ5.out.2.2.2 x hx
             exact ⟨u.step hla, v, (z.part hp0 fun k hk => hk.elim).1⟩)
           have HS6 := keep (show SR w6 A5 (flatF CX.cells l5) from (Part.of_grown (S := fun k => (Value.slice A i ca).ownBlock = some k) hg6.out fun k hk => hk).sr (H5.out.1.2.2.1.step hla) fun a e hk => by
             have h1 := (HK.out.ra.lt _ hk).2
             have h2 := H5.out.2.2.2.2.2 a e
             have h3 := HB3.out.size
             omega)
           clear ho6 hb6 hg6 hla hK6 hp0 m0 m1 m2 m3)
        | (at_builtin
           refine wpl_appendK (by decide) rfl (.tmp 71) (.tmp 72) 48 rfl w1.heap.size 34 k0 _ Try.underlying48 ki0 kz0 kz1 rfl _ nb (flatF CX.cells lb) rfl HK6.out.rb A5 N c5 (flatF CX.cells l5) rfl (by rw [flatF_len CX.len, H5.out.1.1]) HS6.out (flatF_one CX.one l5) (by have := HN.out.2.2.2; have := HNN.out; unfold maxLen; omega) (by rw [kz2]; have := HN.out.2.2.2; have := HNN.out; omega) HK6.out.be.size ?_
           intro B7 cb7 w7 ho7 hb7 hg7
           have HK7 := keep (HK6.out.putB H5.out.1.1 HL6.out HJ5.out.2.2.1 hb7 hg7.out ho7.out)
           clear ho7 hb7 hg7))
      go_roundw
      case rel => exact ⟨i + 1, A6, ca6, _, B7, nb + N, cb7, _, rfl, rfl, by go_num, HN.out.2.2.1, HK7⟩
      case measure => (have := HN.out.2.2.1; simp [intOf]; omega)
    · rename World => ws
      obtain rfl : i = m := by omega
      have hlt' : ¬ (i : Int) < (i : Int) := by omega
      clear hlt
      go_wp2_with (first
        | (go_at_call 9; refine (New_JB (Below.refl _ ws) 2).mono ?_; rintro e w2 ⟨G0, rfl, hj0, hb2, _⟩; replace hj0 := keep hj0; replace hb2 := keep hb2))
      have HLEN := keep (show ∀ i, ((po tsn zs k).ms i).da.length ≤ 32 from fun i => by
        have h1 := moO_len zs i
        have h2 := zn_le zs i
        show (moO zs i).da.length ≤ 32
        omega)
      have hmz : i = (po tsn zs k).M := HZ.out.1
      have HQ0 := keep (show QK ws G0.b (po tsn zs k) B nb cb lb 0 G0 (newJ 2) w2 from QK.start (by rw [← hmz]; exact HK.out) HR.out hj0.out hb2.out (by
        have h1 := congrArg List.length HK.out.ib
        rw [List.length_map, piecesO_len] at h1
        have h2 := offO_max zs HB.out.2.1 i
        have := HB.out.1
        have := HK.out.nb
        omega))
      clear hj0 hb2 hmz
      go_loopw [11, 17] (fun lv iv wq => ∃ (i2 : Nat) (B2 : Option Addr) (nb2 cb2 : Nat) (lb2 : List CX) (G1 : Gh) (j1 : Jn), lv = .slice B2 nb2 cb2 ∧ iv = .int .i64 (i2 : Int) ∧ Hid (QK ws G0.b (po tsn zs k) B2 nb2 cb2 lb2 i2 G1 j1 wq)) (fun lv _ _ => lenV lv)
      case atStart => exact ⟨0, B, nb, cb, lb, G0, _, rfl, rfl, HQ0⟩
      case round =>
        obtain ⟨i2, B2, nb2, cb2, lb2, G1, j1, rfl, rfl, HQ⟩ := hrel
        have hwi2 : IntKind.i64.wrap ((i2 : Int) + 1) = (i2 : Int) + 1 := wrap_small (by omega) (by have := HQ.out.cnt; omega)
        rcases Nat.eq_zero_or_pos nb2 with hnb | hnb
        · subst hnb
          have KT := Take_JB HQ.out.qm.jb
          rw [HQ.out.qm.b] at KT
          replace KT := keep KT
          have hil : i = la.length := by
            have h9 := congrArg List.length HK.out.ia
            rw [List.length_map, List.length_map, List.length_range] at h9
            exact h9.symm
          have HMS := keep (show MSl ws A i ca la from by
            obtain ⟨A0, c0, hv0, hle0, hs0⟩ := own_shape2' HK.out.ra
            injection hv0 with e1 e2 e3
            subst e1 e3
            exact ⟨hil, hle0, hs0⟩)
          have hmz : i = (po tsn zs k).M := HZ.out.1
          have HIA := keep (show la.map MX.msg = (List.range (po tsn zs k).M).map (po tsn zs k).ms from by rw [← hmz]; exact HK.out.ia)
          clear hil hmz
          go_wp2_with (first
            | (go_at_call 13; refine KT2.out.mono ?_
               rintro e w9 ⟨A9, m9, c9, l9, G9, rfl, hm9, hv9, hr9, ho9, hj9, hl9⟩
               obtain rfl : m9 = 0 := by
                 have h1 := congrArg List.length hr9
                 rw [List.length_map] at h1
                 rw [hm9.1, h1]
                 rfl
               have HB9 := keep hj9.be
               clear hm9 hv9 hr9 ho9 hj9 hl9)
            | (go_at_call 13; refine KT.out.mono ?_
               rintro e w5 ⟨A5, m5, c5, l5, G5, rfl, hm5, hv5, hr5, ho5, hj5, hl5⟩
               have HJ5 := keep (And.intro hj5 (hl5.b.trans HQ.out.qm.b))
               have KS := keep (fun (W : World) (hb : Below w5.heap.size w5 W) => sameAll_any A5 m5 c5 l5 A i ca la W (hm5.step hb) (HMS.out.step (up hj5.be hb)) (fun x hx => (hv5 x hx).1.step hb) (fun x hx => (HK.out.va x hx).1.step (up hj5.be hb)) ((hr5.trans HQ.out.done).trans HIA.out.symm) (by
                 have h1 := congrArg List.length ((hr5.trans HQ.out.done).trans HIA.out.symm)
                 rw [List.length_map, List.length_map] at h1
                 have h2 := HMS.out.1
                 have h3 := HB.out.1
                 rw [hm5.1, h1, ← h2]
                 omega))
               clear hm5 hv5 hr5 ho5 hj5 hl5)
            | (go_at_call 16; refine (KS.out _ (Below.refl _ _)).mono ?_
               rintro e w8 ⟨rfl, hb8⟩
               have KT2 := Take_JB (HJ5.out.1.step hb8)
               rw [HJ5.out.2] at KT2
               replace KT2 := keep KT2
               clear hb8))
          go_ret
          exact ⟨rfl, up hb1.out (up HK.out.be HB9.out)⟩
        · have hnb' : (0 : Int) < (nb2 : Int) := by omega
          by_cases hpi : i2 < n
          · have hpi' : (i2 : Int) < (n : Int) := by omega
            obtain ⟨bp, op, z, rfl, hbp, cz, _, _⟩ := (HP.out.step (up hb1.out (up HK.out.be HQ.out.qm.jb.be))).at_ hpi
            obtain ⟨a0, ha0⟩ : ∃ q : Nat, z % 65536 = q := ⟨(z % 65536).toNat, by omega⟩
            have eand : bits .and .i64 z 65535 = (a0 : Int) := (and_i64 z 16 (by omega)).trans ha0
            obtain ⟨t, ht0⟩ : ∃ t, a0 % nb2 = t := ⟨_, rfl⟩
            have ht : t < nb2 := by rw [← ht0]; exact Nat.mod_lt _ hnb
            have etm : Int.tmod (a0 : Int) (nb2 : Int) = (t : Int) := by rw [← ht0]; rfl
            have hnbz : ¬ nb2 = 0 := by omega
            have HT9 := keep (And.intro ht hnb)
            clear ha0 ht0 hpi
            obtain ⟨ob, oo, x, eB, hbl, hat, hx, hcv⟩ := HQ.out.qm.cs.at_ (j := t) ht
            obtain ⟨i1, q1, h1, h2, hxc, hget, hnA⟩ := HQ.out.get HR.out HLEN.out hx
            have HX := keep (And.intro h1 (And.intro h2 (And.intro hxc (And.intro hget (And.intro hnA (List.mem_of_getElem? hx))))))
            have KA1 := Add_gen HQ.out.qm.jb hcv
            rw [HQ.out.qm.b] at KA1
            replace KA1 := keep KA1
            have HAT := keep hat
            have HNO := keep (show ob < wr.heap.size ∧ ¬ G1.O ob from ⟨hbl, HQ.out.qm.na _ eB⟩)
            have hcap := HQ.out.qm.cs.2.1
            subst eB
            obtain ⟨xk, xf, xa, xb, xo, xs, xp, ⟨x1, x2, x3⟩, ⟨x4, x5, x6⟩, ⟨x7, x8, x9⟩, ⟨x10, x11, x12⟩, ⟨x13, x14, x15⟩, xps, xbs⟩ := x
            dsimp only [CX.cells, At12] at hat KA1
            clear h1 h2 hxc hget hnA hx hcv hbl
            obtain ⟨d0, d1, d2, d3, d4, d5, d6, d7, d8, d9, d10, d11⟩ := hat
            go_wp2_with (first
              | (go_at_call 10; refine KA2.out.mono ?_
                 rintro e w6 ⟨r6, j6, G6, rfl, hr6, hj6, hl6⟩
                 rw [HX.out.2.2.1] at hr6
                 have hm6 := HM5.out.second HR.out HX.out.1 HX.out.2.1 (.inr ⟨rfl, rfl⟩) (HLEN.out _) hr6 hl6 hj6
                 rw [show 64 * i2 + 32 + 32 = 64 * i2 + 64 by omega] at hm6
                 have HM6 := keep hm6
                 clear hm6
                 clear hr6 hj6 hl6 d0 d1 d2 d3 d4 d5 d6 d7 d8 d9 d10 d11)
              | (go_at_call 10; refine KA1.out.mono ?_
                 rintro e w5 ⟨r5, j5, G5, rfl, hr5, hj5, hl5⟩
                 rw [HX.out.2.2.1] at hr5
                 obtain ⟨rfl, hm5⟩ := HQ.out.qm.first HR.out HX.out.1 HX.out.2.1 HX.out.2.2.2.2.1 (HLEN.out _) (by have := HQ.out.cnt; omega) hr5 hl5 hj5
                 have hat5 := HAT.out.same (hl5.new HNO.out.1 HNO.out.2)
                 have KA2 := Add_gen hm5.jb (hm5.cs.2.2.2 _ HX.out.2.2.2.2.2)
                 rw [hm5.b] at KA2
                 replace KA2 := keep KA2
                 have HM5 := keep hm5
                 clear d0 d1 d2 d3 d4 d5 d6 d7 d8 d9 d10 d11
                 dsimp only [CX.cells, At12] at hat5 KA2
                 obtain ⟨d0, d1, d2, d3, d4, d5, d6, d7, d8, d9, d10, d11⟩ := hat5
                 clear hr5 hj5 hl5 hm5))
            have HO0 := keep (show (w6.drew.alloc (.cells #[] 34)).ownsRow w6.heap.size 34 12 (.slice (some ⟨w6.heap.size, 0, none⟩) 0 0) 0 [] from own_rowN (heap_alloc_new w6.drew _) 0 rfl (by decide))
            have HBL0 := keep (show Below w6.heap.size w6 (w6.drew.alloc (.cells #[] 34)) from ((Below.refl _ w6).drew).alloc (Nat.le_refl _) _)
            have HS1 := keep ((HM6.out.cs.take (k := t) (Nat.le_of_lt HT9.out.1)).2.2.1.step HBL0.out)
            have HS2 := keep (fun (w7 : World) (hb : Below w6.heap.size w6 w7) => show SR w7 (if cb2 = (t + 1) then some ⟨ob, oo, none⟩ else some ⟨ob, oo + (t + 1) * 12, none⟩) (flatF CX.cells (lb2.drop (t + 1))) from by
              have h9 := (HM6.out.cs.drop (k := (t + 1)) HT9.out.1).2.2.1.step hb
              simp only [Option.map_some, Addr.add_lit] at h9
              exact h9)
            have ht4 : (0 : Int) ≤ (t : Int) + 1 := by omega
            have HLT := keep (show (lb2.take t).length = t ∧ (lb2.drop (t + 1)).length = nb2 - (t + 1) ∧ nb2 ≤ 640 from by
              have h1 := HM6.out.cs.1
              have h2 := HT9.out.1
              have h3 := HQ.out.cnt
              rw [List.length_take, List.length_drop]
              omega)
            have ht1 : (t : Int) ≤ (cb2 : Int) := by have := HT9.out.1; omega
            have ht2 : (t : Int) + 1 ≤ (nb2 : Int) := by have := HT9.out.1; omega
            have ht3 : IntKind.i64.wrap ((t : Int) + 1) = (t : Int) + 1 := wrap_small (by omega) (by have := HLT.out.2.2; have := HT9.out.1; omega)
            clear ht hnb
            refine wp_region_held_drew (S := fun _ => True) (by kernel_rfl) trivial (fun hHeld => ?_)
            refine wpAnyH_take (i := 1) (oi := ⟨some 106, _, _, _, _, _⟩) (v := ?vz11x1) rfl (by kernel_rfl) (by kernel_rfl) (by kernel_rfl) (fun _ _ _ h => h) (Or.inl ⟨by rfl, ?hyz11x1⟩) (by assumption) ?restz11x1
            case hyz11x1 => (intro wz hSw; (try dsimp only at hSw); go_simp <;> (try with_reducible rfl))
            try simp only [Act.put, List.setIfInBounds_toArray, List.set_cons_zero, List.set_cons_succ]
            refine wpAnyH_take (i := 2) (oi := ⟨some 107, _, _, _, _, _⟩) (v := ?vz12x2) rfl (by kernel_rfl) (by kernel_rfl) (by kernel_rfl) (fun _ _ _ h => h) (Or.inl ⟨by rfl, ?hyz12x2⟩) (by assumption) ?restz12x2
            case hyz12x2 => (intro wz hSw; (try dsimp only at hSw); go_simp <;> (try with_reducible rfl))
            try simp only [Act.put, List.setIfInBounds_toArray, List.set_cons_zero, List.set_cons_succ]
            refine wpAnyH_take (i := 3) (oi := ⟨some 108, _, _, _, _, _⟩) (v := ?vz13x3) rfl (by kernel_rfl) (by kernel_rfl) (by kernel_rfl) (fun _ _ _ h => h) (Or.inl ⟨by rfl, ?hyz13x3⟩) (by assumption) ?restz13x3
            case hyz13x3 => (intro wz hSw; (try dsimp only at hSw); go_simp <;> (try with_reducible rfl))
            try simp only [Act.put, List.setIfInBounds_toArray, List.set_cons_zero, List.set_cons_succ]
            refine wpAnyH_take (i := 5) (oi := ⟨some 110, _, _, _, _, _⟩) (v := ?vz14x5) rfl (by kernel_rfl) (by kernel_rfl) (by kernel_rfl) (fun _ _ _ h => h) (Or.inl ⟨by rfl, ?hyz14x5⟩) (by assumption) ?restz14x5
            case hyz14x5 => (intro wz hSw; (try dsimp only at hSw); go_simp <;> (try with_reducible rfl))
            try simp only [Act.put, List.setIfInBounds_toArray, List.set_cons_zero, List.set_cons_succ]
            refine wpAnyH_take (i := 6) (oi := ⟨some 111, _, _, _, _, _⟩) (v := ?vz15x6) rfl (by kernel_rfl) (by kernel_rfl) (by kernel_rfl) (fun _ _ _ h => h) (Or.inl ⟨by rfl, ?hyz15x6⟩) (by assumption) ?restz15x6
            case hyz15x6 => (intro wz hSw; (try dsimp only at hSw); go_simp <;> (try with_reducible rfl))
            try simp only [Act.put, List.setIfInBounds_toArray, List.set_cons_zero, List.set_cons_succ]
            refine wpAnyH_take (i := 7) (oi := ⟨some 112, _, _, _, _, _⟩) (v := ?vz16x7) rfl (by kernel_rfl) (by kernel_rfl) (by kernel_rfl) (fun _ _ _ h => h) (Or.inl ⟨by rfl, ?hyz16x7⟩) (by assumption) ?restz16x7
            case hyz16x7 => (intro wz hSw; (try dsimp only at hSw); go_simp <;> (try with_reducible rfl))
            try simp only [Act.put, List.setIfInBounds_toArray, List.set_cons_zero, List.set_cons_succ]
            refine wpAnyH_take (i := 8) (oi := ⟨some 113, _, _, _, _, _⟩) (v := ?vz17x8) rfl (by kernel_rfl) (by kernel_rfl) (by kernel_rfl) (fun _ _ _ h => h) (Or.inl ⟨by rfl, ?hyz17x8⟩) (by assumption) ?restz17x8
            case hyz17x8 => (intro wz hSw; (try dsimp only at hSw); go_simp <;> (try with_reducible rfl))
            try simp only [Act.put, List.setIfInBounds_toArray, List.set_cons_zero, List.set_cons_succ]
            refine wpAnyH_ready (rs := [0]) (by kernel_rfl) (by simp) (AllReadyH.cons (o := ⟨some 105, _, _, _, _, _⟩) rfl (fun K hK => ?_) AllReadyH.nil)
            go_simp
            refine hK.out _ _ trivial (fun hHeld => ?_)
            clear hK K
            try simp only [Act.put, List.setIfInBounds_toArray, List.set_cons_zero, List.set_cons_succ]
            refine wpAnyH_ready (rs := [4]) (by kernel_rfl) (by simp) (AllReadyH.cons (o := ⟨some 109, _, _, _, _, _⟩) rfl (fun K hK => ?_) AllReadyH.nil)
            refine step_appendK (by decide) rfl (.tmp 105) (.tmp 108) 48 rfl w6.heap.size 34 k0 _ Try.underlying48 ki0 kz0 kz1 rfl _ 0 [] rfl HO0.out _ t _ (flatF CX.cells (lb2.take t)) rfl (by rw [flatF_len CX.len, HLT.out.1]) HS1.out (flatF_one CX.one _) (by have := HLT.out.2.2; have := HT9.out.1; unfold maxLen; omega) (by rw [kz2]; have := HLT.out.2.2; have := HT9.out.1; omega) HBL0.out.size ?_
            intro A7 c7 w7 ho7 hb7
            have HB7 := keep (HBL0.out.trans hb7)
            refine hK.out _ _ trivial (fun hHeld => ?_)
            clear hK K
            try simp only [Act.put, List.setIfInBounds_toArray, List.set_cons_zero, List.set_cons_succ]
            refine wpAnyH_ready (rs := [9]) (by kernel_rfl) (by simp) (AllReadyH.cons (o := ⟨some 114, _, _, _, _, _⟩) rfl (fun K hK => ?_) AllReadyH.nil)
            refine step_appendK (by decide) rfl (.tmp 109) (.tmp 113) 48 rfl w6.heap.size 34 k0 _ Try.underlying48 ki0 kz0 kz1 rfl _ (0 + t) _ rfl ho7.out _ (nb2 - (t + 1)) _ (flatF CX.cells (lb2.drop (t + 1))) rfl (by rw [flatF_len CX.len, HLT.out.2.1]) (HS2.out _ HB7.out) (flatF_one CX.one _) (by have := HLT.out.2.2; have := HT9.out.1; unfold maxLen; omega) (by rw [kz2]; have := HLT.out.2.2; have := HT9.out.1; omega) HB7.out.size ?_
            intro A8 c8 w8 ho8 hb8
            have HB8 := keep (HB7.out.trans hb8)
            refine hK.out _ _ trivial (fun hHeld => ?_)
            clear hK K
            try simp only [Act.put, List.setIfInBounds_toArray, List.set_cons_zero, List.set_cons_succ]
            refine wpAnyH_take (i := 10) (oi := ⟨some 11, _, _, _, _, _⟩) (v := ?vz18x10) rfl (by kernel_rfl) (by kernel_rfl) (by kernel_rfl) (fun _ _ _ h => h) (Or.inl ⟨by rfl, ?hyz18x10⟩) (by assumption) ?restz18x10
            case hyz18x10 => (intro wz hSw; (try dsimp only at hSw); go_simp <;> (try with_reducible rfl))
            try simp only [Act.put, List.setIfInBounds_toArray, List.set_cons_zero, List.set_cons_succ]
            refine wpAnyH_done (by kernel_rfl) ?_ _
            go_wp2
            have h9 := ho8.out
            rw [Nat.zero_add, List.nil_append, ← flatF_append, ← List.eraseIdx_eq_take_drop_succ] at h9
            refine ⟨⟨i2 + 1, A8, _, c8, lb2.eraseIdx t, G6, j6, rfl, by go_num, keep (HQ.out.next HR.out HX.out.1 HX.out.2.1 HX.out.2.2.2.1 HM6.out HB8.out ?_ (CS.of_own h9 fun x hx => (HM6.out.cs.2.2.2 x (List.mem_of_mem_eraseIdx hx)).step HB8.out) fun a e => ?_)⟩, ?_⟩
            · have := HT9.out.1
              omega
            · rw [e] at h9
              exact h9.lt a.block rfl
            · have := HT9.out.1
              simp [lenV]
              omega
          · have hpi' : ¬ (i2 : Int) < (n : Int) := by omega
            have ht : 0 < nb2 := hnb
            have HT9 := keep (And.intro ht hnb)
            clear hpi
            obtain ⟨ob, oo, x, eB, hbl, hat, hx, hcv⟩ := HQ.out.qm.cs.at_ (j := 0) ht
            obtain ⟨i1, q1, h1, h2, hxc, hget, hnA⟩ := HQ.out.get HR.out HLEN.out hx
            have HX := keep (And.intro h1 (And.intro h2 (And.intro hxc (And.intro hget (And.intro hnA (List.mem_of_getElem? hx))))))
            have KA1 := Add_gen HQ.out.qm.jb hcv
            rw [HQ.out.qm.b] at KA1
            replace KA1 := keep KA1
            have HAT := keep hat
            have HNO := keep (show ob < wr.heap.size ∧ ¬ G1.O ob from ⟨hbl, HQ.out.qm.na _ eB⟩)
            have hcap := HQ.out.qm.cs.2.1
            subst eB
            obtain ⟨xk, xf, xa, xb, xo, xs, xp, ⟨x1, x2, x3⟩, ⟨x4, x5, x6⟩, ⟨x7, x8, x9⟩, ⟨x10, x11, x12⟩, ⟨x13, x14, x15⟩, xps, xbs⟩ := x
            dsimp only [CX.cells, At12] at hat KA1
            clear h1 h2 hxc hget hnA hx hcv hbl
            simp only [Nat.zero_mul, Nat.add_zero] at hat
            obtain ⟨d0, d1, d2, d3, d4, d5, d6, d7, d8, d9, d10, d11⟩ := hat
            go_wp2_with (first
              | (go_at_call 10; refine KA2.out.mono ?_
                 rintro e w6 ⟨r6, j6, G6, rfl, hr6, hj6, hl6⟩
                 rw [HX.out.2.2.1] at hr6
                 have hm6 := HM5.out.second HR.out HX.out.1 HX.out.2.1 (.inr ⟨rfl, rfl⟩) (HLEN.out _) hr6 hl6 hj6
                 rw [show 64 * i2 + 32 + 32 = 64 * i2 + 64 by omega] at hm6
                 have HM6 := keep hm6
                 clear hm6
                 clear hr6 hj6 hl6 d0 d1 d2 d3 d4 d5 d6 d7 d8 d9 d10 d11)
              | (go_at_call 10; refine KA1.out.mono ?_
                 rintro e w5 ⟨r5, j5, G5, rfl, hr5, hj5, hl5⟩
                 rw [HX.out.2.2.1] at hr5
                 obtain ⟨rfl, hm5⟩ := HQ.out.qm.first HR.out HX.out.1 HX.out.2.1 HX.out.2.2.2.2.1 (HLEN.out _) (by have := HQ.out.cnt; omega) hr5 hl5 hj5
                 have hat5 := HAT.out.same (hl5.new HNO.out.1 HNO.out.2)
                 have KA2 := Add_gen hm5.jb (hm5.cs.2.2.2 _ HX.out.2.2.2.2.2)
                 rw [hm5.b] at KA2
                 replace KA2 := keep KA2
                 have HM5 := keep hm5
                 clear d0 d1 d2 d3 d4 d5 d6 d7 d8 d9 d10 d11
                 dsimp only [CX.cells, At12] at hat5 KA2
                 simp only [Nat.zero_mul, Nat.add_zero] at hat5
                 obtain ⟨d0, d1, d2, d3, d4, d5, d6, d7, d8, d9, d10, d11⟩ := hat5
                 clear hr5 hj5 hl5 hm5))
            have HO0 := keep (show (w6.drew.alloc (.cells #[] 34)).ownsRow w6.heap.size 34 12 (.slice (some ⟨w6.heap.size, 0, none⟩) 0 0) 0 [] from own_rowN (heap_alloc_new w6.drew _) 0 rfl (by decide))
            have HBL0 := keep (show Below w6.heap.size w6 (w6.drew.alloc (.cells #[] 34)) from ((Below.refl _ w6).drew).alloc (Nat.le_refl _) _)
            have HS1 := keep ((HM6.out.cs.take (k := 0) (Nat.le_of_lt HT9.out.1)).2.2.1.step HBL0.out)
            have HS2 := keep (fun (w7 : World) (hb : Below w6.heap.size w6 w7) => show SR w7 (if cb2 = 1 then some ⟨ob, oo, none⟩ else some ⟨ob, oo + 12, none⟩) (flatF CX.cells (lb2.drop 1)) from by
              have h9 := (HM6.out.cs.drop (k := 1) HT9.out.1).2.2.1.step hb
              simp only [Option.map_some, Addr.add_lit] at h9
              exact h9)
            have ht4 : (0 : Int) ≤ 1 := by omega
            have HLT := keep (show (lb2.take 0).length = 0 ∧ (lb2.drop 1).length = nb2 - 1 ∧ nb2 ≤ 640 from by
              have h1 := HM6.out.cs.1
              have h2 := HT9.out.1
              have h3 := HQ.out.cnt
              rw [List.length_take, List.length_drop]
              omega)
            have ht1 : (0 : Int) ≤ (cb2 : Int) := by have := HT9.out.1; omega
            have ht2 : (1 : Int) ≤ (nb2 : Int) := by have := HT9.out.1; omega
            have ht3 : IntKind.i64.wrap 1 = 1 := by decide
            clear ht hnb
            refine wp_region_held_drew (S := fun _ => True) (by kernel_rfl) trivial (fun hHeld => ?_)
            refine wpAnyH_take (i := 1) (oi := ⟨some 106, _, _, _, _, _⟩) (v := ?vz01x1) rfl (by kernel_rfl) (by kernel_rfl) (by kernel_rfl) (fun _ _ _ h => h) (Or.inl ⟨by rfl, ?hyz01x1⟩) (by assumption) ?restz01x1
            case hyz01x1 => (intro wz hSw; (try dsimp only at hSw); go_simp <;> (try with_reducible rfl))
            try simp only [Act.put, List.setIfInBounds_toArray, List.set_cons_zero, List.set_cons_succ]
            refine wpAnyH_take (i := 2) (oi := ⟨some 107, _, _, _, _, _⟩) (v := ?vz02x2) rfl (by kernel_rfl) (by kernel_rfl) (by kernel_rfl) (fun _ _ _ h => h) (Or.inl ⟨by rfl, ?hyz02x2⟩) (by assumption) ?restz02x2
            case hyz02x2 => (intro wz hSw; (try dsimp only at hSw); go_simp <;> (try with_reducible rfl))
            try simp only [Act.put, List.setIfInBounds_toArray, List.set_cons_zero, List.set_cons_succ]
            refine wpAnyH_take (i := 3) (oi := ⟨some 108, _, _, _, _, _⟩) (v := ?vz03x3) rfl (by kernel_rfl) (by kernel_rfl) (by kernel_rfl) (fun _ _ _ h => h) (Or.inl ⟨by rfl, ?hyz03x3⟩) (by assumption) ?restz03x3
            case hyz03x3 => (intro wz hSw; (try dsimp only at hSw); go_simp <;> (try with_reducible rfl))
            try simp only [Act.put, List.setIfInBounds_toArray, List.set_cons_zero, List.set_cons_succ]
            refine wpAnyH_take (i := 5) (oi := ⟨some 110, _, _, _, _, _⟩) (v := ?vz04x5) rfl (by kernel_rfl) (by kernel_rfl) (by kernel_rfl) (fun _ _ _ h => h) (Or.inl ⟨by rfl, ?hyz04x5⟩) (by assumption) ?restz04x5
            case hyz04x5 => (intro wz hSw; (try dsimp only at hSw); go_simp <;> (try with_reducible rfl))
            try simp only [Act.put, List.setIfInBounds_toArray, List.set_cons_zero, List.set_cons_succ]
            refine wpAnyH_take (i := 6) (oi := ⟨some 111, _, _, _, _, _⟩) (v := ?vz05x6) rfl (by kernel_rfl) (by kernel_rfl) (by kernel_rfl) (fun _ _ _ h => h) (Or.inl ⟨by rfl, ?hyz05x6⟩) (by assumption) ?restz05x6
            case hyz05x6 => (intro wz hSw; (try dsimp only at hSw); go_simp <;> (try with_reducible rfl))
            try simp only [Act.put, List.setIfInBounds_toArray, List.set_cons_zero, List.set_cons_succ]
            refine wpAnyH_take (i := 7) (oi := ⟨some 112, _, _, _, _, _⟩) (v := ?vz06x7) rfl (by kernel_rfl) (by kernel_rfl) (by kernel_rfl) (fun _ _ _ h => h) (Or.inl ⟨by rfl, ?hyz06x7⟩) (by assumption) ?restz06x7
            case hyz06x7 => (intro wz hSw; (try dsimp only at hSw); go_simp <;> (try with_reducible rfl))
            try simp only [Act.put, List.setIfInBounds_toArray, List.set_cons_zero, List.set_cons_succ]
            refine wpAnyH_take (i := 8) (oi := ⟨some 113, _, _, _, _, _⟩) (v := ?vz07x8) rfl (by kernel_rfl) (by kernel_rfl) (by kernel_rfl) (fun _ _ _ h => h) (Or.inl ⟨by rfl, ?hyz07x8⟩) (by assumption) ?restz07x8
            case hyz07x8 => (intro wz hSw; (try dsimp only at hSw); go_simp <;> (try with_reducible rfl))
            try simp only [Act.put, List.setIfInBounds_toArray, List.set_cons_zero, List.set_cons_succ]
            refine wpAnyH_ready (rs := [0]) (by kernel_rfl) (by simp) (AllReadyH.cons (o := ⟨some 105, _, _, _, _, _⟩) rfl (fun K hK => ?_) AllReadyH.nil)
            go_simp
            refine hK.out _ _ trivial (fun hHeld => ?_)
            clear hK K
            try simp only [Act.put, List.setIfInBounds_toArray, List.set_cons_zero, List.set_cons_succ]
            refine wpAnyH_ready (rs := [4]) (by kernel_rfl) (by simp) (AllReadyH.cons (o := ⟨some 109, _, _, _, _, _⟩) rfl (fun K hK => ?_) AllReadyH.nil)
            refine step_appendK (by decide) rfl (.tmp 105) (.tmp 108) 48 rfl w6.heap.size 34 k0 _ Try.underlying48 ki0 kz0 kz1 rfl _ 0 [] rfl HO0.out _ 0 _ (flatF CX.cells (lb2.take 0)) rfl (by rw [flatF_len CX.len, HLT.out.1]) HS1.out (flatF_one CX.one _) (by have := HLT.out.2.2; have := HT9.out.1; unfold maxLen; omega) (by rw [kz2]; have := HLT.out.2.2; have := HT9.out.1; omega) HBL0.out.size ?_
            intro A7 c7 w7 ho7 hb7
            have HB7 := keep (HBL0.out.trans hb7)
            refine hK.out _ _ trivial (fun hHeld => ?_)
            clear hK K
            try simp only [Act.put, List.setIfInBounds_toArray, List.set_cons_zero, List.set_cons_succ]
            refine wpAnyH_ready (rs := [9]) (by kernel_rfl) (by simp) (AllReadyH.cons (o := ⟨some 114, _, _, _, _, _⟩) rfl (fun K hK => ?_) AllReadyH.nil)
            refine step_appendK (by decide) rfl (.tmp 109) (.tmp 113) 48 rfl w6.heap.size 34 k0 _ Try.underlying48 ki0 kz0 kz1 rfl _ (0 + 0) _ rfl ho7.out _ (nb2 - 1) _ (flatF CX.cells (lb2.drop 1)) rfl (by rw [flatF_len CX.len, HLT.out.2.1]) (HS2.out _ HB7.out) (flatF_one CX.one _) (by have := HLT.out.2.2; have := HT9.out.1; unfold maxLen; omega) (by rw [kz2]; have := HLT.out.2.2; have := HT9.out.1; omega) HB7.out.size ?_
            intro A8 c8 w8 ho8 hb8
            have HB8 := keep (HB7.out.trans hb8)
            refine hK.out _ _ trivial (fun hHeld => ?_)
            clear hK K
            try simp only [Act.put, List.setIfInBounds_toArray, List.set_cons_zero, List.set_cons_succ]
            refine wpAnyH_take (i := 10) (oi := ⟨some 11, _, _, _, _, _⟩) (v := ?vz08x10) rfl (by kernel_rfl) (by kernel_rfl) (by kernel_rfl) (fun _ _ _ h => h) (Or.inl ⟨by rfl, ?hyz08x10⟩) (by assumption) ?restz08x10
            case hyz08x10 => (intro wz hSw; (try dsimp only at hSw); go_simp <;> (try with_reducible rfl))
            try simp only [Act.put, List.setIfInBounds_toArray, List.set_cons_zero, List.set_cons_succ]
            refine wpAnyH_done (by kernel_rfl) ?_ _
            go_wp2
            have h9 := ho8.out
            rw [List.nil_append, ← flatF_append, show lb2.take 0 ++ lb2.drop 1 = lb2.eraseIdx 0 from (List.eraseIdx_eq_take_drop_succ lb2 0).symm] at h9
            refine ⟨⟨i2 + 1, A8, _, c8, lb2.eraseIdx 0, G6, j6, rfl, by go_num, keep (HQ.out.next HR.out HX.out.1 HX.out.2.1 HX.out.2.2.2.1 HM6.out HB8.out ?_ (CS.of_own (by simpa using h9) fun x hx => (HM6.out.cs.2.2.2 x (List.mem_of_mem_eraseIdx hx)).step HB8.out) fun a e => ?_)⟩, ?_⟩
            · have := HT9.out.1
              omega
            · rw [e] at h9
              exact h9.lt a.block rfl
            · have := HT9.out.1
              simp [lenV]
              omega
theorem joinOrders_walk (tsn : Int) (Z : Option Addr) (m c : Nat) (zs : List Int) (most : Int) (P : Option Addr) (n c' : Nat) (ps : List Int) (w : World) (ht : (Lit.int .u32 tsn).wf = true) (hZ : NS .i64 w Z m c zs) (_ : (Lit.int .i64 most).wf = true) (hP : NS .i64 w P n c' ps) :
    Calls Try.prog 4 #[.int .u32 tsn, .slice Z m c, .int .i64 most, .slice P n c'] w fun e w' => e = .returned (.bool true) ∧ Below w.heap.size w w' := by
  by_cases h : 20 < (m : Int) ∨ most < 1 ∨ 1172 < most
  · exact joinOrders_let tsn Z m c most P n c' w h
  · obtain ⟨k, rfl⟩ : ∃ k : Nat, most = (k : Int) := ⟨most.toNat, by omega⟩
    exact joinOrders_go tsn Z m c zs k P n c' ps w (of_wf32 ht) hZ hP (by omega) (by omega) (by omega)
end Go.Proofs.Ythpcblbciidmeaa
