/- What an answer does, in plain mathematics; sums over what came. -/
import Derived.Test.YtbkepkiaabeliaaQ23
import Derived.Test.YtbkepkiaabeliaaQ24
namespace Go.Proofs.Ytbkepkiaabeliaa
open Go.RowKit Go.Maps
set_option linter.unusedVariables false

/-- The numbers of the entries, one behind the other. -/
def Nums (q : Qm) : Prop := ∀ (i : Nat) (e : En), q.es[i]? = some e → e.c.a = (flr q + (i : Int) + 1) % 4294967296
theorem dist_of (a b : Int) (k : Nat) (hk : (k : Int) < 4294967296) (h : b = (a + (k : Int)) % 4294967296) : dist32 a b = (k : Int) := by
  unfold dist32 dist
  subst h
  omega
theorem less_of (f : Int) (i j : Nat) (hi : i < 1025) (hj : j < 1025) : less32 ((f + (i : Int) + 1) % 4294967296) ((f + (j : Int) + 1) % 4294967296) = decide (i < j) := by
  unfold less32 lessI dist
  rw [Bool.eq_iff_iff, decide_eq_true_eq, decide_eq_true_eq]
  omega
theorem cut_flr (q : Qm) (k : Nat) (hk : k ≤ q.es.length) : flr (cutQ q k) = (flr q + (k : Int)) % 4294967296 := by
  unfold flr cutQ
  simp only [List.length_drop]
  omega
theorem cut_nums {q : Qm} (h : Nums q) {k : Nat} (hk : k ≤ q.es.length) : Nums (cutQ q k) := by
  intro i e he
  rw [cut_flr q k hk]
  have he' : q.es[k + i]? = some e := by
    rw [← List.getElem?_drop]
    exact he
  rw [h _ _ he']
  omega
/-- A number that is reached is the floor behind the entries that go away. -/
theorem reached_flr {q : Qm} {cum : Int} (hc : 0 ≤ cum ∧ cum < 4294967296) (h : reachedB q cum = true) : flr (cutQ q (stp q cum)) = cum := by
  rw [cut_flr q _ (stp_le q cum)]
  have hf := flr_in q
  unfold reachedB at h
  rw [Bool.and_eq_true, Bool.or_eq_true, decide_eq_true_eq, beq_iff_eq] at h
  have hs : stp q cum = if dist32 (flr q) cum ≤ (q.es.length : Int) then (dist32 (flr q) cum).toNat else 0 := rfl
  have hd : dist32 (flr q) cum = (cum - flr q) % 4294967296 := rfl
  rcases h.1 with h1 | h1
  · rw [hs] at h1 ⊢
    split at h1
    · rename_i hle
      rw [if_pos hle, hd] at *
      omega
    · omega
  · subst h1
    rw [hs, hd]
    split <;> omega
theorem come_dist {q : Qm} (h : Nums q) (hle : q.es.length ≤ 1024) {cum : Int} (hf : flr q = cum) : ∀ (i : Nat) (e : En), q.es[i]? = some e → dist32 cum e.c.a = ((i + 1 : Nat) : Int) := by
  intro i e he
  have hi := (List.getElem?_eq_some_iff.1 he).1
  refine dist_of cum e.c.a (i + 1) (by omega) ?_
  rw [h i e he, hf]
  congr 1
  omega
theorem ES.part {A B : World} {s : SL} {es : List En} (h : ES A s es) {S : Nat → Prop} (hp : Part S A B) (hs : InF (fun i => ¬ S i) s.1) (he : ∀ e ∈ es, ¬ S e.p) : ES B s es :=
  ⟨h.sn, (Kpt.of_part hp fun _ h => h).sr hs h.rd, fun e hm => ⟨(Kpt.of_part (ok := fun i => ¬ S i) hp fun _ h => h).cells _ _ _ _ (he e hm) (h.en e hm).1, (h.en e hm).2⟩⟩
theorem comeE_c (bl : List (Int × Int)) (i : Nat) (e : En) : (comeE bl i e).c = e.c := by
  unfold comeE
  split <;> split <;> rfl
/-- Where the last one lies that came. -/
def lastI (bl : List (Int × Int)) (es : List En) : Nat → Nat
  | 0 => 0
  | k + 1 => match es[k]? with | some e => if toldB bl k = true ∧ (e.st = 1 ∨ e.st = 2) then k else lastI bl es k | none => lastI bl es k
theorem cam_mem {bl : List (Int × Int)} {es : List En} : ∀ {k : Nat} {x : En}, x ∈ camG bl es k → ∃ i e, i < k ∧ es[i]? = some e ∧ x = { e with st := 3 } ∧ x = comeE bl i e
  | 0, x, h => by cases h
  | k + 1, x, h => by
    rw [camG] at h
    rcases List.mem_append.1 h with h | h
    · obtain ⟨i, e, h1, h2⟩ := cam_mem h
      exact ⟨i, e, by omega, h2⟩
    · cases he : es[k]? with
      | none => rw [he] at h; cases h
      | some e =>
        rw [he] at h
        dsimp only at h
        split at h
        · rename_i hc
          refine ⟨k, e, Nat.lt_succ_self k, he, List.mem_singleton.1 h, ?_⟩
          rw [List.mem_singleton.1 h]
          unfold comeE
          rw [if_pos hc.1, if_pos hc.2]
        · cases h
theorem cam_last {bl : List (Int × Int)} {es : List En} : ∀ {k : Nat}, camG bl es k ≠ [] → ∃ e, lastI bl es k < k ∧ es[lastI bl es k]? = some e ∧ (camG bl es k)[(camG bl es k).length - 1]? = some { e with st := 3 }
  | 0, h => absurd rfl h
  | k + 1, h => by
    cases he : es[k]? with
    | none =>
      have e1 : camG bl es (k + 1) = camG bl es k := by rw [camG, he]; exact List.append_nil _
      have e2 : lastI bl es (k + 1) = lastI bl es k := by rw [lastI, he]
      rw [e1] at h
      obtain ⟨e, h1, h2, h3⟩ := cam_last h
      exact ⟨e, by rw [e2]; omega, by rw [e2]; exact h2, by rw [e1]; exact h3⟩
    | some e =>
      by_cases hc : toldB bl k = true ∧ (e.st = 1 ∨ e.st = 2)
      · have e1 : camG bl es (k + 1) = camG bl es k ++ [{ e with st := 3 }] := by rw [camG, he]; dsimp only; rw [if_pos hc]
        have e2 : lastI bl es (k + 1) = k := by rw [lastI, he]; dsimp only; rw [if_pos hc]
        refine ⟨e, by rw [e2]; omega, by rw [e2]; exact he, ?_⟩
        rw [e1, List.length_append, List.length_singleton, Nat.add_sub_cancel, List.getElem?_append_right (Nat.le_refl _), Nat.sub_self]
        rfl
      · have e1 : camG bl es (k + 1) = camG bl es k := by rw [camG, he]; dsimp only; rw [if_neg hc]; exact List.append_nil _
        have e2 : lastI bl es (k + 1) = lastI bl es k := by rw [lastI, he]; dsimp only; rw [if_neg hc]
        rw [e1] at h
        obtain ⟨e, h1, h2, h3⟩ := cam_last h
        exact ⟨e, by rw [e2]; omega, by rw [e2]; exact h2, by rw [e1]; exact h3⟩
theorem com_es {w : World} {G : Gq} {q : Qm} {bl : List (Int × Int)} {s : SL} {w' : World} (h : ComP w G q bl s w') : ES w' s (camG bl q.es q.es.length) := by
  obtain ⟨s1, s2, s3⟩ := s
  have hrow := h.row
  have hn : s2 = (camG bl q.es q.es.length).length := by
    have := hrow.1
    rw [List.length_map] at this
    dsimp only at this
    omega
  refine ⟨hn, ?_, fun e he => ?_⟩
  · have h1 : w'.ownsRow w.heap.size 87 1 (.slice s1 s2 s3) s2 (flatF ptC ((camG bl q.es q.es.length).map En.p)) := by rw [flat_ptr]; exact hrow
    have := (LR.of_own (f := ptC) (K := 1) ptC_len (by decide) h1).2.2
    rwa [flat_ptr] at this
  · obtain ⟨i, x, h1, h2, h3, h4⟩ := cam_mem he
    have hm : e ∈ q.es.mapIdx (comeE bl) := List.mem_of_getElem? (i := i) (by rw [List.getElem?_mapIdx, h2, h4]; rfl)
    have := (h.qa.en e hm).1
    exact ⟨this.blk, this.sm⟩
def octA (es : List En) (i : Nat) : Option Nat := (es[i]?).map fun e => e.c.da.2.1
/-- How many octets all have. -/
def octsA (es : List En) : Nat := sumF (octA es) es.length
theorem octA_le {es : List En} (h : ∀ e ∈ es, Sm e.c) : ∀ i n, octA es i = some n → n ≤ 1000000 := by
  intro i n hn
  unfold octA at hn
  cases he : es[i]? with
  | none => rw [he] at hn; cases hn
  | some e =>
    rw [he] at hn
    injection hn with hn
    subst hn
    exact (h e (List.mem_of_getElem? he)).da
theorem sum_values {w : World} {s : SL} {es : List En} (h : ES w s es) {Bd : Nat} (hd : w.heap[Bd]? = some (.cells #[.slice s.1 s.2.1 s.2.2] 70 (0, 0))) (hle : es.length ≤ 1024) :
    Calls Try.prog 56 #[.func (.func 81) #[] #[.pointer (some ⟨Bd, 0, none⟩)], .func (.func 48) #[] #[]] w fun e w' => e = .returned (.int .i64 ((octsA es : Nat) : Int)) ∧ Below w.heap.size w w' := by
  have hl : (es.map En.p).length = es.length := List.length_map _
  have hK : ∀ A, Below w.heap.size w A → Kpt (fun _ => True) w A := fun A hb => Kpt.of_below hb
  refine sum_any 81 _ (enters_of Try.func81 (by kernel_rfl) rfl) es.length (es.map En.p) (fun _ _ => True) (fun _ => VaOwn Bd s (es.map En.p)) (octA es) w
    (fun w1 => by have := values1_seq 4 (by omega) Bd s (es.map En.p) (by rw [hl]; exact hle) (fun _ _ => True) w1; rw [hl] at this; exact this)
    (fun i A B M st hx => trivial)
    (fun i A hlt hb => ?_) (fun i A hb => ⟨upd_cell ((hK A hb).cells _ _ _ _ trivial hd) 0 _ rfl, by rw [h.sn, hl], by rw [← ptr_map]; exact (h.step hb).rd⟩) (fun i A n hlt hb hn => ?_) (octA_le fun e he => (h.en e he).2) hle
  · unfold octA
    rw [List.getElem?_eq_getElem hlt]
    exact ⟨fun _ => rfl, fun _ => trivial⟩
  · obtain ⟨e, he, hge⟩ := ES.get es (i := i) (by rw [hl]; exact hlt)
    rw [hge]
    unfold octA at hn
    rw [he] at hn
    injection hn with hn
    subst hn
    exact ⟨_, _, (h.step hb).at_ (List.mem_of_getElem? he) 11 _ rfl⟩
/-- The difference of times that an answer tells. -/
def smp (now : Int) (es : List En) : Nat → Int
  | 0 => -1
  | i + 1 => match es[i]? with | some e => if (e.st = 1 ∨ e.st = 2) ∧ e.sn = 1 then IntKind.i64.wrap (now - e.la) else smp now es i | none => smp now es i
structure AckR where
  by_ : Nat
  sa : Int
  lo : Bool
  mo : Bool
def goneL (q : Qm) (cum : Int) : List En := q.es.take (stp q cum)
def leftL (q : Qm) (cum : Int) : List En := q.es.drop (stp q cum)
def camL (q : Qm) (cum : Int) (bl : List (Int × Int)) : List En := camG bl (leftL q cum) (leftL q cum).length
def midL (q : Qm) (cum : Int) (bl : List (Int × Int)) : List En := (leftL q cum).mapIdx (comeE bl)
def lasI (q : Qm) (cum : Int) (bl : List (Int × Int)) : Nat := lastI bl (leftL q cum) (leftL q cum).length
def ackE (q : Qm) (cum : Int) (bl : List (Int × Int)) : List En := if camL q cum bl = [] then midL q cum bl else (midL q cum bl).mapIdx (missE (lasI q cum bl))
def ackR (q : Qm) (cum : Int) (bl : List (Int × Int)) (now : Int) : AckR :=
  ⟨octs (goneL q cum) [1, 2] + octsA (camL q cum bl), smp now (goneL q cum) (goneL q cum).length, if camL q cum bl = [] then false else missL (lasI q cum bl) (midL q cum bl) (midL q cum bl).length, decide (0 < stp q cum)⟩
def ackQ (q : Qm) (cum : Int) (bl : List (Int × Int)) : Qm := { q with es := ackE q cum bl }
end Go.Proofs.Ytbkepkiaabeliaa
