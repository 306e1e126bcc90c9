/- KAR of the stage: texts JM3, JM4, Sp1, Sp2, Sp3, Sp4, Sp5, Sp6, joined. -/
import Derived.WalkKit
import Derived.Test.YtnlkdlnmffibhaaGreatKAQ
import Derived.Test.YtnlkdlnmffibhaaGreatKAA
import Derived.KernelRfl
import Derived.Laws.ResultCell
import Derived.Laws.Rows
import Derived.Deep.Cut
import Derived.BigQuiet
import Derived.Test.YtnlkdlnmffibhaaGreatProg
import Derived.Test.YtnlkdlnmffibhaaGreatKAB
import Derived.Deep.RegionHeld3
import Derived.Test.YtnlkdlnmffibhaaGreatKAD
set_option linter.unusedSimpArgs false
set_option linter.unusedVariables false
set_option maxRecDepth 8000
namespace Go.Proofs.YtnlkdlnmffibhaaGreat
section
theorem chain_num {s : List Ch} (hc : chain s = true) (hn : NumC s) {x : Ch} (h0 : s[0]? = some x) : ∀ (i : Nat) (y : Ch), s[i]? = some y → y.a = (x.a + i) % 4294967296
  | 0, y, h => by
    rw [h0] at h
    injection h with h
    subst h
    have := hn x (List.mem_of_getElem? h0)
    omega
  | i + 1, y, h => by
    have hi : i < s.length := by have := (List.getElem?_eq_some_iff.1 h).1; omega
    have h1 := chain_num hc hn h0 i _ (List.getElem?_eq_getElem hi)
    have h2 := (fol_iff.1 (chain_get s i _ y hc (List.getElem?_eq_getElem hi) h)).a
    omega
theorem chain_few {l s : List Ch} (hk : KeysC l) (hn : NumC l) (hl : l.length < 4294967296) (hc : chain s = true) (hs : ∀ x ∈ s, x ∈ l) : s.length ≤ l.length := by
  refine Classical.byContradiction fun hlt => ?_
  have hlt : l.length < s.length := by omega
  cases hx0 : s[0]? with
  | none =>
    have := List.getElem?_eq_none_iff.1 hx0
    omega
  | some x =>
    have hnum := chain_num hc (fun y hy => hn y (hs y hy)) hx0
    have hnd : (s.take (l.length + 1)).Pairwise fun a b => a.a ≠ b.a := by
      rw [List.pairwise_iff_getElem]
      intro i j hi hj hij e
      rw [List.length_take] at hi hj
      have h1 := hnum i s[i] (List.getElem?_eq_getElem (by omega))
      have h2 := hnum j s[j] (List.getElem?_eq_getElem (by omega))
      rw [List.getElem_take, List.getElem_take, h1, h2] at e
      omega
    have h2 : (l.filter fun x => (s.take (l.length + 1)).any fun y => decide (y.a = x.a)).Perm (s.take (l.length + 1)) := by
      refine (List.perm_ext_iff_of_nodup (hk.nodup.filter _) (KeysC.nodup hnd)).2 fun x => ?_
      rw [List.mem_filter]
      constructor
      · rintro ⟨hx, hr⟩
        obtain ⟨y, hy, e⟩ := List.any_eq_true.1 hr
        rw [← hk.one (hs y (List.mem_of_mem_take hy)) hx (of_decide_eq_true e)]
        exact hy
      · exact fun hx => ⟨hs x (List.mem_of_mem_take hx), List.any_eq_true.2 ⟨x, hx, decide_eq_true rfl⟩⟩
    have h3 := h2.length_eq
    have h4 := List.length_filter_le (fun x => (s.take (l.length + 1)).any fun y => decide (y.a = x.a)) l
    rw [h3, List.length_take] at h4
    omega
structure Mx (l s : List Ch) : Prop where
  ch : chain s = true
  ne : s ≠ []
  mem : ∀ x ∈ s, x ∈ l
  hd : ∀ x, s[0]? = some x → ∀ y ∈ l, ¬ Fol y x
  tl : ∀ z, s.getLast? = some z → ∀ y ∈ l, ¬ Fol z y
theorem Run.mx {l r : List Ch} (h : Run l r) : Mx l r := by
  refine ⟨whole_chain h.wh, ?_, h.mem, fun x hx y _ hf => ?_, fun z hz y _ hf => ?_⟩
  · intro hc
    have := h.wh
    rw [hc] at this
    cases this
  · obtain ⟨u, hu, hb, _⟩ := whole_first h.wh
    rw [hx] at hu
    injection hu with hu
    subst hu
    have := hf.be
    omega
  · obtain ⟨u, hu, he⟩ := whole_last h.wh
    rw [hz] at hu
    injection hu with hu
    subst hu
    have := hf.en
    omega
theorem Mx.fol {l s : List Ch} (h : Mx l s) {i : Nat} {x y : Ch} (hx : s[i]? = some x) (hy : s[i + 1]? = some y) : Fol x y := fol_iff.1 (chain_get s i x y h.ch hx hy)
theorem Mx.back {l r : List Ch} (h : Mx l r) (hk : KeysC l) (hn : NumC l) {i : Nat} {x y : Ch} (hx : r[i]? = some x) (hy : y ∈ l) (hf : Fol y x) : ∃ j, i = j + 1 ∧ r[j]? = some y := by
  cases i with
  | zero => exact absurd hf (h.hd x hx y hy)
  | succ i =>
    have hi : i < r.length := by have := (List.getElem?_eq_some_iff.1 hx).1; omega
    have e := h.fol (List.getElem?_eq_getElem hi) hx
    have hm := h.mem _ (List.getElem_mem hi)
    refine ⟨i, rfl, ?_⟩
    rw [List.getElem?_eq_getElem hi]
    have := hn _ hm
    have := hn _ hy
    have h1 := e.a
    have h2 := hf.a
    exact congrArg some (hk.one hm hy (by omega))
theorem Mx.fwd {l r : List Ch} (h : Mx l r) (hk : KeysC l) {i : Nat} {x y : Ch} (hx : r[i]? = some x) (hy : y ∈ l) (hf : Fol x y) : r[i + 1]? = some y := by
  have h1 := (List.getElem?_eq_some_iff.1 hx).1
  rcases Nat.lt_or_ge (i + 1) r.length with h2 | h2
  · have e := h.fol hx (List.getElem?_eq_getElem h2)
    rw [List.getElem?_eq_getElem h2]
    exact congrArg some (hk.one (h.mem _ (List.getElem_mem h2)) hy (by rw [e.a, hf.a]))
  · exact absurd hf (h.tl x (by rw [List.getLast?_eq_getElem?, show r.length - 1 = i by omega, hx]) y hy)
theorem Mx.seg {l r s : List Ch} (h : Mx l r) (hk : KeysC l) (hn : NumC l) (hc : chain s = true) (hs : ∀ x ∈ s, x ∈ l) {c : Ch} {p i : Nat} (hp : s[p]? = some c) (hi : r[i]? = some c) :
    p ≤ i ∧ ∀ q, q < s.length → r[i - p + q]? = s[q]? := by
  have hb : ∀ d, d ≤ p → d ≤ i ∧ r[i - d]? = s[p - d]? := by
    intro d
    induction d with
    | zero => exact fun _ => ⟨Nat.zero_le _, by rw [Nat.sub_zero, Nat.sub_zero, hi, hp]⟩
    | succ d ih =>
      intro hd
      obtain ⟨h1, h2⟩ := ih (by omega)
      have hpl := (List.getElem?_eq_some_iff.1 hp).1
      have hq : p - d < s.length := by omega
      have hq' : p - (d + 1) < s.length := by omega
      rw [List.getElem?_eq_getElem hq] at h2
      have hf := fol_iff.1 (chain_get s (p - (d + 1)) _ _ hc (List.getElem?_eq_getElem hq') (by rw [show p - (d + 1) + 1 = p - d by omega]; exact List.getElem?_eq_getElem hq))
      obtain ⟨j, h3, h4⟩ := h.back hk hn h2 (hs _ (List.getElem_mem hq')) hf
      refine ⟨by omega, ?_⟩
      rw [show i - (d + 1) = j by omega, h4, List.getElem?_eq_getElem hq']
  have h0 := hb p (Nat.le_refl _)
  rw [Nat.sub_self] at h0
  refine ⟨h0.1, fun q => ?_⟩
  induction q with
  | zero => exact fun _ => h0.2
  | succ q ih =>
    intro hq
    have h1 := ih (by omega)
    rw [List.getElem?_eq_getElem (show q < s.length by omega)] at h1
    have hf := fol_iff.1 (chain_get s q _ _ hc (List.getElem?_eq_getElem (by omega)) (List.getElem?_eq_getElem hq))
    rw [List.getElem?_eq_getElem hq, ← Nat.add_assoc]
    exact h.fwd hk h1 (hs _ (List.getElem_mem hq)) hf
theorem Mx.one {l r s : List Ch} (h : Mx l r) (g : Mx l s) (hk : KeysC l) (hn : NumC l) {c : Ch} (hr : c ∈ r) (hs : c ∈ s) : r = s := by
  obtain ⟨i, hi⟩ := List.mem_iff_getElem?.1 hr
  obtain ⟨p, hp⟩ := List.mem_iff_getElem?.1 hs
  obtain ⟨h1, h2⟩ := h.seg hk hn g.ch g.mem hp hi
  obtain ⟨g1, g2⟩ := g.seg hk hn h.ch h.mem hi hp
  have e : i = p := by omega
  subst e
  refine List.ext_getElem? fun q => ?_
  rcases Nat.lt_or_ge q s.length with hq | hq
  · have := h2 q hq
    rwa [Nat.sub_self, Nat.zero_add] at this
  · rcases Nat.lt_or_ge q r.length with hq' | hq'
    · have := g2 q hq'
      rw [Nat.sub_self, Nat.zero_add] at this
      exact this.symm
    · rw [List.getElem?_eq_none hq, List.getElem?_eq_none hq']
theorem chain_cons {x y : Ch} {r : List Ch} (hf : Fol x y) (hc : chain (y :: r) = true) : chain (x :: y :: r) = true := by
  show (fol x y && chain (y :: r)) = true
  rw [fol_iff.2 hf, hc]
  rfl
theorem chain_snoc : ∀ (s : List Ch) (z y : Ch), chain s = true → s.getLast? = some z → Fol z y → chain (s ++ [y]) = true
  | [], _, _, _, h, _ => by simp at h
  | [x], z, y, _, h, hf => by
    simp at h
    subst h
    exact chain_cons hf rfl
  | x :: u :: r, z, y, hc, h, hf => by
    unfold chain at hc
    obtain ⟨h1, h2⟩ := Bool.and_eq_true_iff.1 hc
    have h3 : (u :: r).getLast? = some z := by rw [← h, List.getLast?_cons_cons]
    exact chain_cons (fol_iff.1 h1) (chain_snoc (u :: r) z y h2 h3 hf)
theorem ext_back {l : List Ch} (hk : KeysC l) (hn : NumC l) (hl : l.length < 4294967296) : ∀ (d : Nat) (s : List Ch), d + s.length = l.length + 1 → chain s = true → s ≠ [] → (∀ x ∈ s, x ∈ l) →
    ∃ t, chain t = true ∧ t ≠ [] ∧ (∀ x ∈ t, x ∈ l) ∧ (∀ x, t[0]? = some x → ∀ y ∈ l, ¬ Fol y x) ∧ t.getLast? = s.getLast? ∧ ∀ x ∈ s, x ∈ t
  | 0, s, h, hc, hne, hs => by
    have := chain_few hk hn hl hc hs
    omega
  | d + 1, s, h, hc, hne, hs => by
    cases s with
    | nil => exact absurd rfl hne
    | cons x r =>
      by_cases hy : ∃ y ∈ l, Fol y x
      · obtain ⟨y, hy, hf⟩ := hy
        obtain ⟨t, h1, h2, h3, h4, h5, h6⟩ := ext_back hk hn hl d (y :: x :: r) (by simp only [List.length_cons] at h ⊢; omega) (chain_cons hf hc) (by simp) (fun z hz => by
          rcases List.mem_cons.1 hz with rfl | hz
          · exact hy
          · exact hs z hz)
        exact ⟨t, h1, h2, h3, h4, by rw [h5, List.getLast?_cons_cons], fun z hz => h6 z (List.mem_cons_of_mem _ hz)⟩
      · refine ⟨x :: r, hc, hne, hs, fun z hz y hm hf => hy ⟨y, hm, ?_⟩, rfl, fun _ h => h⟩
        simp at hz
        rw [hz]
        exact hf
theorem ext_fwd {l : List Ch} (hk : KeysC l) (hn : NumC l) (hl : l.length < 4294967296) : ∀ (d : Nat) (s : List Ch), d + s.length = l.length + 1 → chain s = true → s ≠ [] → (∀ x ∈ s, x ∈ l) →
    ∃ t, chain t = true ∧ t ≠ [] ∧ (∀ x ∈ t, x ∈ l) ∧ (∀ x, t.getLast? = some x → ∀ y ∈ l, ¬ Fol x y) ∧ t[0]? = s[0]? ∧ ∀ x ∈ s, x ∈ t
  | 0, s, h, hc, hne, hs => by
    have := chain_few hk hn hl hc hs
    omega
  | d + 1, s, h, hc, hne, hs => by
    cases hz : s.getLast? with
    | none => exact absurd (List.getLast?_eq_none_iff.1 hz) hne
    | some z =>
      by_cases hy : ∃ y ∈ l, Fol z y
      · obtain ⟨y, hy, hf⟩ := hy
        obtain ⟨t, h1, h2, h3, h4, h5, h6⟩ := ext_fwd hk hn hl d (s ++ [y]) (by rw [List.length_append, List.length_singleton]; omega) (chain_snoc s z y hc hz hf) (by simp) (fun u hu => by
          rcases List.mem_append.1 hu with hu | hu
          · exact hs u hu
          · rw [List.mem_singleton.1 hu]; exact hy)
        refine ⟨t, h1, h2, h3, h4, ?_, fun u hu => h6 u (List.mem_append_left _ hu)⟩
        rw [h5]
        cases s with
        | nil => exact absurd rfl hne
        | cons x r => rfl
      · refine ⟨s, hc, hne, hs, fun u hu y hm hf => hy ⟨y, hm, ?_⟩, rfl, fun _ h => h⟩
        rw [hz] at hu
        injection hu with hu
        rw [hu]
        exact hf
theorem mx_ex {l : List Ch} (hk : KeysC l) (hn : NumC l) (hl : l.length < 4294967296) {x : Ch} (hx : x ∈ l) : ∃ s, Mx l s ∧ x ∈ s := by
  obtain ⟨d, hd⟩ : ∃ d, d + 1 = l.length + 1 := ⟨l.length, rfl⟩
  obtain ⟨t, h1, h2, h3, h4, h5, h6⟩ := ext_back hk hn hl d [x] (by simpa using hd) rfl (by simp) (fun y hy => by rw [List.mem_singleton.1 hy]; exact hx)
  have ht := chain_few hk hn hl h1 h3
  obtain ⟨d', hd'⟩ : ∃ d, d + t.length = l.length + 1 := ⟨l.length + 1 - t.length, by omega⟩
  obtain ⟨u, g1, g2, g3, g4, g5, g6⟩ := ext_fwd hk hn hl d' t hd' h1 h2 h3
  exact ⟨u, ⟨g1, g2, g3, fun z hz => h4 z (by rw [← g5]; exact hz), g4⟩, g6 x (h6 x (List.mem_singleton.2 rfl))⟩
def OKf (far : Int → Int) (s : List Ch) : Prop := ∀ x z, s[0]? = some x → s.getLast? = some z → far x.a = z.a ∧ far z.a = x.a
def Ends (l : List Ch) (far : Int → Int) : Prop := ∀ s, Mx l s → OKf far s
def setF (far : Int → Int) (a b : Int) : Int → Int := fun x => if x = b then a else if x = a then b else far x
theorem Mx.ends {l s : List Ch} (h : Mx l s) : ∃ x z, s[0]? = some x ∧ s.getLast? = some z ∧ x ∈ s ∧ z ∈ s := by
  cases hx : s[0]? with
  | none => exact absurd (List.eq_nil_of_length_eq_zero (by have := List.getElem?_eq_none_iff.1 hx; omega)) h.ne
  | some x =>
    cases hz : s.getLast? with
    | none => exact absurd (List.getLast?_eq_none_iff.1 hz) h.ne
    | some z => exact ⟨x, z, rfl, rfl, List.mem_of_getElem? hx, List.mem_of_getLast? hz⟩
theorem OKf.set {far : Int → Int} {s : List Ch} {x z : Ch} (hx : s[0]? = some x) (hz : s.getLast? = some z) : OKf (setF far x.a z.a) s := by
  intro u v hu hv
  rw [hx] at hu
  rw [hz] at hv
  injection hu with hu
  injection hv with hv
  subst hu hv
  unfold setF
  constructor
  · by_cases e : x.a = z.a
    · rw [if_pos e, e]
    · rw [if_neg e, if_pos rfl]
  · rw [if_pos rfl]
theorem bind_ok {l s t : List Ch} {far : Int → Int} (hs : Mx l s) (ht : Mx l t) (hk : KeysC l) (hn : NumC l) {x z : Ch} (hx : s[0]? = some x) (hz : s.getLast? = some z) (ho : OKf far t ∨ t = s) : OKf (setF far x.a z.a) t := by
  by_cases e : t = s
  · rw [e]
    exact OKf.set hx hz
  · rcases ho with ho | ho
    · intro u v hu hv
      have hxm := List.mem_of_getElem? hx
      have hzm := List.mem_of_getLast? hz
      have hum := List.mem_of_getElem? hu
      have hvm := List.mem_of_getLast? hv
      have ne : ∀ p ∈ t, ∀ q ∈ s, p.a ≠ q.a := fun p hp q hq c => by
        have := hk.one (ht.mem p hp) (hs.mem q hq) c
        subst this
        exact e (ht.one hs hk hn hp hq)
      obtain ⟨h1, h2⟩ := ho u v hu hv
      unfold setF
      rw [if_neg (ne u hum z hzm), if_neg (ne u hum x hxm), if_neg (ne v hvm z hzm), if_neg (ne v hvm x hxm)]
      exact ⟨h1, h2⟩
    · exact absurd ho e
theorem Mx.dist {l s : List Ch} (h : Mx l s) (hk : KeysC l) (hn : NumC l) (hl : l.length < 4294967296) {x z : Ch} (hx : s[0]? = some x) (hz : s.getLast? = some z) : (z.a - x.a) % 4294967296 = s.length - 1 ∧ 1 ≤ s.length ∧ s.length ≤ l.length ∧ ∀ (i : Nat) y, s[i]? = some y → y.a = (x.a + i) % 4294967296 := by
  have hf := chain_few hk hn hl h.ch h.mem
  have hlen : 0 < s.length := (List.getElem?_eq_some_iff.1 hx).1
  have hnum := chain_num h.ch (fun y hy => hn y (h.mem y hy)) hx
  rw [List.getLast?_eq_getElem?] at hz
  have h1 := hnum _ _ hz
  have := hn x (h.mem x (List.mem_of_getElem? hx))
  have := hn z (h.mem z (List.mem_of_getElem? hz))
  refine ⟨?_, hlen, hf, hnum⟩
  rw [h1]
  omega
theorem Mx.of_more {l s : List Ch} {c : Ch} (h : Mx (c :: l) s) (hc : c ∉ s) : Mx l s :=
  ⟨h.ch, h.ne, fun x hx => by
    rcases List.mem_cons.1 (h.mem x hx) with e | e
    · exact absurd (by rw [← e]; exact hx) hc
    · exact e, fun x hx y hy => h.hd x hx y (List.mem_cons_of_mem _ hy), fun z hz y hy => h.tl z hz y (List.mem_cons_of_mem _ hy)⟩
theorem first_of {l s : List Ch} {c : Ch} {far : Int → Int} (hk : KeysC (c :: l)) (hn : NumC (c :: l)) (hl : (c :: l).length < 4294967296) (he : Ends l far) (hs : Mx (c :: l) s) (hc : c ∈ s) {x : Ch} (hx : s[0]? = some x) :
    ((∀ y ∈ l, ¬ Fol y c) → x = c) ∧ (∀ y ∈ l, Fol y c → far y.a = x.a) := by
  obtain ⟨i, hi⟩ := List.mem_iff_getElem?.1 hc
  obtain ⟨hcl, hkl⟩ := List.pairwise_cons.1 hk
  have hnl : NumC l := fun x hx => hn x (List.mem_cons_of_mem _ hx)
  constructor
  · intro hno
    cases i with
    | zero =>
      rw [hx] at hi
      injection hi
    | succ i =>
      have hil : i < s.length := by have := (List.getElem?_eq_some_iff.1 hi).1; omega
      have hf := hs.fol (List.getElem?_eq_getElem hil) hi
      rcases List.mem_cons.1 (hs.mem _ (List.getElem_mem hil)) with e | e
      · have h1 := hf.en
        have h2 := hf.a
        rw [e] at h2
        have := hn c List.mem_cons_self
        omega
      · exact absurd hf (hno _ e)
  · intro y hy hf
    obtain ⟨j, rfl, hj⟩ := hs.back hk hn hi (List.mem_cons_of_mem _ hy) hf
    have hnd : ∀ (p q : Nat) (u v : Ch), s[p]? = some u → s[q]? = some v → u.a = v.a → p = q := by
      intro p q u v hu hv e
      obtain ⟨_, _, h3, h4⟩ := hs.dist hk hn hl hx (hz := (List.getLast?_eq_getElem?.trans (List.getElem?_eq_getElem (by have := (List.getElem?_eq_some_iff.1 hx).1; omega))))
      have h5 := h4 p u hu
      have h6 := h4 q v hv
      have := (List.getElem?_eq_some_iff.1 hu).1
      have := (List.getElem?_eq_some_iff.1 hv).1
      omega
    have hjl := (List.getElem?_eq_some_iff.1 hj).1
    have hcn : c ∉ s.take (j + 1) := fun hm => by
      obtain ⟨p, hp⟩ := List.mem_iff_getElem?.1 hm
      have hpl := (List.getElem?_eq_some_iff.1 hp).1
      rw [List.length_take] at hpl
      rw [List.getElem?_take_of_lt (by omega)] at hp
      have := hnd p (j + 1) c c hp hi rfl
      omega
    have hlast : (s.take (j + 1)).getLast? = some y := by
      rw [List.getLast?_eq_getElem?, List.length_take, Nat.min_eq_left (by omega), Nat.add_sub_cancel, List.getElem?_take_of_lt (by omega), hj]
    have hm : Mx l (s.take (j + 1)) := by
      refine ⟨chain_of _ fun i a b ha hb => ?_, fun hc' => ?_, fun u hu => ?_, fun u hu v hv => ?_, fun u hu v hv hf' => ?_⟩
      · have hbl := (List.getElem?_eq_some_iff.1 hb).1
        rw [List.length_take] at hbl
        rw [List.getElem?_take_of_lt (by omega)] at ha hb
        exact chain_get s i a b hs.ch ha hb
      · rw [hc'] at hlast
        cases hlast
      · rcases List.mem_cons.1 (hs.mem u (List.mem_of_mem_take hu)) with e | e
        · exact absurd (by rw [← e]; exact hu) hcn
        · exact e
      · rw [List.getElem?_take_of_lt (by omega)] at hu
        exact hs.hd u hu v (List.mem_cons_of_mem _ hv)
      · rw [hlast] at hu
        injection hu with hu
        subst hu
        have h1 := hf.a
        have h2 := hf'.a
        exact hcl v hv (by rw [h1, h2])
    exact (he _ hm x y (by rw [List.getElem?_take_of_lt (by omega)]; exact hx) hlast).2
theorem last_of {l s : List Ch} {c : Ch} {far : Int → Int} (hk : KeysC (c :: l)) (hn : NumC (c :: l)) (hl : (c :: l).length < 4294967296) (he : Ends l far) (hs : Mx (c :: l) s) (hc : c ∈ s) {z : Ch} (hz : s.getLast? = some z) :
    ((∀ y ∈ l, ¬ Fol c y) → z = c) ∧ (∀ y ∈ l, Fol c y → far y.a = z.a) := by
  obtain ⟨i, hi⟩ := List.mem_iff_getElem?.1 hc
  obtain ⟨hcl, hkl⟩ := List.pairwise_cons.1 hk
  have hil := (List.getElem?_eq_some_iff.1 hi).1
  obtain ⟨x, hx⟩ : ∃ x, s[0]? = some x := ⟨s[0], List.getElem?_eq_getElem (by omega)⟩
  constructor
  · intro hno
    rcases Nat.lt_or_ge (i + 1) s.length with h1 | h1
    · have hf := hs.fol hi (List.getElem?_eq_getElem h1)
      rcases List.mem_cons.1 (hs.mem _ (List.getElem_mem h1)) with e | e
      · have h2 := hf.a
        rw [e] at h2
        have := hn c List.mem_cons_self
        omega
      · exact absurd hf (hno _ e)
    · rw [List.getLast?_eq_getElem?, show s.length - 1 = i by omega, hi] at hz
      injection hz with hz
      exact hz.symm
  · intro y hy hf
    have hj := hs.fwd hk hi (List.mem_cons_of_mem _ hy) hf
    have hjl := (List.getElem?_eq_some_iff.1 hj).1
    obtain ⟨_, _, _, hnum⟩ := hs.dist hk hn hl hx hz
    have hfew := chain_few hk hn hl hs.ch hs.mem
    have hcn : c ∉ s.drop (i + 1) := fun hm => by
      obtain ⟨p, hp⟩ := List.mem_iff_getElem?.1 hm
      rw [List.getElem?_drop] at hp
      have h5 := hnum _ c hp
      have h6 := hnum i c hi
      have := (List.getElem?_eq_some_iff.1 hp).1
      omega
    have hhd : (s.drop (i + 1))[0]? = some y := by rw [List.getElem?_drop]; exact hj
    have hlast : (s.drop (i + 1)).getLast? = some z := by
      rw [List.getLast?_eq_getElem?, List.length_drop, List.getElem?_drop, show i + 1 + (s.length - (i + 1) - 1) = s.length - 1 by omega, ← List.getLast?_eq_getElem?, hz]
    have hm : Mx l (s.drop (i + 1)) := by
      refine ⟨chain_of _ fun p a b ha hb => ?_, fun hc' => ?_, fun u hu => ?_, fun u hu v hv hf' => ?_, fun u hu v hv => ?_⟩
      · rw [List.getElem?_drop] at ha hb
        exact chain_get s (i + 1 + p) a b hs.ch ha hb
      · rw [hc'] at hlast
        cases hlast
      · rcases List.mem_cons.1 (hs.mem u (List.mem_of_mem_drop hu)) with e | e
        · exact absurd (by rw [← e]; exact hu) hcn
        · exact e
      · rw [hhd] at hu
        injection hu with hu
        subst hu
        have h1 := hf.a
        have h2 := hf'.a
        have := hn c List.mem_cons_self
        have := hn v (List.mem_cons_of_mem _ hv)
        exact hcl v hv (by omega)
      · rw [hlast] at hu
        injection hu with hu
        subst hu
        exact hs.tl _ hz v (List.mem_cons_of_mem _ hv)
    exact (he _ hm y z hhd hlast).1
theorem ends_hold {l s : List Ch} {c : Ch} {far : Int → Int} (hk : KeysC (c :: l)) (hn : NumC (c :: l)) (he : Ends l far) (hs : Mx (c :: l) s) (hc : c ∈ s) {x z : Ch} (hx : s[0]? = some x) (hz : s.getLast? = some z) : Ends (c :: l) (setF far x.a z.a) := by
  intro t ht
  by_cases hct : c ∈ t
  · exact bind_ok hs ht hk hn hx hz (.inr (ht.one hs hk hn hct hc))
  · exact bind_ok hs ht hk hn hx hz (.inl (he t (ht.of_more hct)))
theorem ends_take {l s : List Ch} {far : Int → Int} (hk : KeysC l) (hn : NumC l) (he : Ends l far) (hs : Mx l s) : Ends (without s l) far := by
  intro t ht
  refine he t ⟨ht.ch, ht.ne, fun x hx => (mem_without.1 (ht.mem x hx)).1, fun x hx y hy hf => ?_, fun z hz y hy hf => ?_⟩
  · by_cases hys : ∃ u ∈ s, u.a = y.a
    · obtain ⟨u, hu, e⟩ := hys
      have := hk.one (hs.mem u hu) hy e
      subst this
      obtain ⟨i, hi⟩ := List.mem_iff_getElem?.1 hu
      have hxm := mem_without.1 (ht.mem x (List.mem_of_getElem? hx))
      have := hs.fwd hk hi hxm.1 hf
      exact hxm.2 x (List.mem_of_getElem? this) rfl
    · exact ht.hd x hx y (mem_without.2 ⟨hy, fun u hu e => hys ⟨u, hu, e⟩⟩) hf
  · by_cases hys : ∃ u ∈ s, u.a = y.a
    · obtain ⟨u, hu, e⟩ := hys
      have := hk.one (hs.mem u hu) hy e
      subst this
      obtain ⟨i, hi⟩ := List.mem_iff_getElem?.1 hu
      have hzm := mem_without.1 (ht.mem z (List.mem_of_getLast? hz))
      obtain ⟨j, _, hj⟩ := hs.back hk hn hi hzm.1 hf
      exact hzm.2 z (List.mem_of_getElem? hj) rfl
    · exact ht.tl z hz y (mem_without.2 ⟨hy, fun u hu e => hys ⟨u, hu, e⟩⟩) hf
theorem run_or {l s : List Ch} {c : Ch} (hk : KeysC l) (hn : NumC l) (hs : Mx l s) (hc : c ∈ s) (hkd : ∀ x ∈ l, x.kd = 0) {x z : Ch} (hx : s[0]? = some x) (hz : s.getLast? = some z) :
    (x.fl / 2 % 2 = 1 → z.fl % 2 = 1 → Run l s) ∧ (¬ (x.fl / 2 % 2 = 1 ∧ z.fl % 2 = 1) → ∀ r, Run l r → c ∉ r) := by
  refine ⟨fun hb he => ⟨whole_of hs.ch hx (hkd x (hs.mem x (List.mem_of_getElem? hx))) hb hz he, hs.mem⟩, fun hno r hr hcr => hno ?_⟩
  have e := hr.mx.one hs hk hn hcr hc
  subst e
  obtain ⟨u, hu, hb, _⟩ := whole_first hr.wh
  obtain ⟨v, hv, he⟩ := whole_last hr.wh
  rw [hx] at hu
  rw [hz] at hv
  injection hu with hu
  injection hv with hv
  subst hu hv
  exact ⟨hb, he⟩
end
section
structure Ne (j : Jn) : Prop where
  s : ∀ p ∈ j.st, p.2.da ≠ []
  r : ∀ m ∈ j.rd, m.da ≠ []
theorem Ne.new (s : Int) : Ne (newJ s) := ⟨fun _ h => (by cases h), fun _ h => (by cases h)⟩
theorem Ne.pop {j : Jn} (h : Ne j) {s : Int} {m : Msg} (hm : hasS j.st s (j.nx s) = some m) : Ne (popJ j s m) :=
  ⟨fun p hp => h.s p (mem_delS.1 hp).1, fun x hx => by
    rcases List.mem_append.1 hx with hx | hx
    · exact h.r x hx
    · rw [List.mem_singleton.1 hx]
      exact h.s _ (hasS_some hm).1⟩
theorem Ne.tellN : ∀ (f : Nat) (j : Jn) (s : Int), Ne j → Ne (tellN f j s)
  | 0, j, s, h => h
  | f + 1, j, s, h => by
    unfold Go.Proofs.YtnlkdlnmffibhaaGreat.tellN
    cases hm : hasS j.st s (j.nx s) with
    | none => exact h
    | some m => exact Ne.tellN f _ s (h.pop hm)
theorem Ne.tell {j : Jn} (h : Ne j) (s : Int) : Ne (tell j s) := Ne.tellN _ j s h
theorem Ne.comes {j : Jn} (h : Ne j) {m : Msg} (hm : m.da ≠ []) (k : Int) : Ne (comes j m k) := by
  unfold Go.Proofs.YtnlkdlnmffibhaaGreat.comes
  split
  · exact ⟨h.s, fun x hx => by
      rcases List.mem_append.1 hx with hx | hx
      · exact h.r x hx
      · rw [List.mem_singleton.1 hx]; exact hm⟩
  · split
    · exact h
    · refine Ne.tell (j := { j with st := (k, m) :: j.st }) ⟨fun p hp => ?_, h.r⟩ _
      rcases List.mem_cons.1 hp with rfl | hp
      · exact hm
      · exact h.s p hp
theorem msgOf_ne {r l : List Ch} (h : Run l r) (hd : ∀ x ∈ l, x.da ≠ []) : (msgOf r).da ≠ [] := by
  cases r with
  | nil => have := h.wh; cases this
  | cons x s =>
    show (x :: s).flatMap Ch.da ≠ []
    rw [List.flatMap_cons]
    intro hc
    exact hd x (h.mem x List.mem_cons_self) (List.append_eq_nil_iff.1 hc).1
theorem Ne.came {j j' : Jn} (h : Ne j) (hw : Wf j) {c : Ch} (he : addE j c = 0) (hj : Came j c j') : Ne j' := by
  cases hj with
  | part _ => exact ⟨h.s, h.r⟩
  | all r hr hm =>
    refine Ne.comes (j := { j with ch := without r (c :: j.ch) }) ⟨h.s, h.r⟩ (msgOf_ne hr fun x hx => ?_) _
    rcases List.mem_cons.1 hx with rfl | hx
    · exact (addE_ok he).2.1
    · exact (hw.ok x hx).2.1
theorem Ne.add {j j' : Jn} {e : Int} (h : Ne j) (hw : Wf j) {c : Ch} (ha : AddR j c e j') : Ne j' := by
  obtain ⟨rfl, h1, h2⟩ := ha
  by_cases he : addE j c = 0
  · exact h.came hw he (h2 he)
  · rw [h1 he]; exact h
theorem Ne.take {j : Jn} (h : Ne j) : Ne (takeJ j) := ⟨h.s, fun _ hx => (by cases hx)⟩
theorem few_rd : ∀ (l : List Msg), (∀ m ∈ l, m.da ≠ []) → l.length ≤ octM l
  | [], _ => Nat.le_refl _
  | m :: l, h => by
    have h1 := few_rd l fun x hx => h x (List.mem_cons_of_mem _ hx)
    have h2 : 0 < m.da.length := List.length_pos_iff.2 (h m List.mem_cons_self)
    unfold octM at h1 ⊢
    simp only [List.length_cons, List.map_cons, List.sum_cons]
    omega
theorem few_ch : ∀ (l : List Ch), (∀ m ∈ l, m.da ≠ []) → l.length ≤ octC l
  | [], _ => Nat.le_refl _
  | m :: l, h => by
    have h1 := few_ch l fun x hx => h x (List.mem_cons_of_mem _ hx)
    have h2 : 0 < m.da.length := List.length_pos_iff.2 (h m List.mem_cons_self)
    unfold octC at h1 ⊢
    simp only [List.length_cons, List.map_cons, List.sum_cons]
    omega
structure Good (j : Jn) : Prop where
  wf : Wf j
  ne : Ne j
  le : j.oct ≤ 65536
theorem Good.rd {j : Jn} (h : Good j) : j.rd.length ≤ 65536 := by
  have h1 := few_rd j.rd h.ne.r
  have h2 := h.le
  unfold Jn.oct at h2
  omega
theorem Good.ch {j : Jn} (h : Good j) : j.ch.length ≤ 65536 := by
  have h1 := few_ch j.ch fun x hx => (h.wf.ok x hx).2.1
  have h2 := h.le
  unfold Jn.oct at h2
  omega
theorem nodup_le {l : List Nat} (h : l.Nodup) {N : Nat} (hN : ∀ x ∈ l, x < N) : l.length ≤ N := by
  have h2 : ((List.range N).filter fun x => decide (x ∈ l)).Perm l := by
    refine (List.perm_ext_iff_of_nodup (List.nodup_range.filter _) h).2 fun x => ?_
    rw [List.mem_filter, List.mem_range]
    exact ⟨fun hx => of_decide_eq_true hx.2, fun hx => ⟨hN x hx, decide_eq_true hx⟩⟩
  have h3 := h2.length_eq
  have h4 := List.length_filter_le (fun x => decide (x ∈ l)) (List.range N)
  rw [h3, List.length_range] at h4
  exact h4
def stc (l : List (Int × Msg)) (s : Int) : Nat := (l.filter fun p => decide (p.2.st = s)).length
theorem stc_le {l : List (Int × Msg)} (hk : KeysS l) (hr : ∀ p ∈ l, 0 ≤ p.1 ∧ p.1 < 65536) (s : Int) : stc l s ≤ 65536 := by
  have h1 : ((l.filter fun p => decide (p.2.st = s)).map fun p => p.1.toNat).Nodup := by
    unfold List.Nodup
    rw [List.pairwise_map]
    refine (hk.filter fun p => decide (p.2.st = s)).imp_of_mem fun {a b} ha hb hab e => hab ?_
    obtain ⟨ha1, ha2⟩ := List.mem_filter.1 ha
    obtain ⟨hb1, hb2⟩ := List.mem_filter.1 hb
    have := hr a ha1
    have := hr b hb1
    exact ⟨by omega, (of_decide_eq_true ha2).trans (of_decide_eq_true hb2).symm⟩
  have h2 := nodup_le h1 (N := 65536) fun x hx => by
    obtain ⟨p, hp, rfl⟩ := List.mem_map.1 hx
    have := hr p (List.mem_filter.1 hp).1
    omega
  rw [List.length_map] at h2
  exact h2
theorem stc_cons (l : List (Int × Msg)) (k : Int) (m : Msg) (s : Int) : stc ((k, m) :: l) s = if m.st = s then stc l s + 1 else stc l s := by
  unfold stc
  by_cases h : m.st = s
  · rw [if_pos h, List.filter_cons_of_pos (by simpa using h)]
    rfl
  · rw [if_neg h, List.filter_cons_of_neg (by simpa using h)]
theorem stc_del {l : List (Int × Msg)} (hk : KeysS l) (s k t : Int) : stc (delS l s k) t = stc l t - if t = s ∧ (hasS l s k).isSome = true then 1 else 0 := by
  by_cases ht : t = s
  · subst ht
    cases hm : hasS l t k with
    | none =>
      have : delS l t k = l := by
        unfold delS
        rw [List.filter_eq_self]
        intro p hp
        cases hi : isS t k p
        · rfl
        · obtain ⟨a, b⟩ := isS_iff.1 hi
          exact absurd b (hasS_none.1 hm p.2 (by rw [← a]; exact hp))
      rw [this, if_neg (by simp)]
      rfl
    | some m =>
      rw [if_pos ⟨rfl, rfl⟩]
      have h1 := (delS_one (hk.filter fun p => decide (p.2.st = t)) (s := t) (k := k) (m := m) ?_).2
      · unfold stc
        have e : (delS l t k).filter (fun p => decide (p.2.st = t)) = delS (l.filter fun p => decide (p.2.st = t)) t k := by
          unfold delS
          rw [List.filter_filter, List.filter_filter]
          congr 1
          funext p
          exact Bool.and_comm _ _
        rw [e]
        omega
      · obtain ⟨h2, h3⟩ := hasS_some hm
        exact hasS_of (hk.filter _) (List.mem_filter.2 ⟨h2, decide_eq_true h3⟩) h3
  · rw [if_neg fun h => ht h.1]
    unfold stc delS
    rw [List.filter_filter]
    congr 1
    refine List.filter_congr fun p _ => ?_
    by_cases h : p.2.st = t
    · have : isS s k p = false := by
        cases hi : isS s k p
        · rfl
        · exact absurd (h.symm.trans (isS_iff.1 hi).2) ht
      simp [h, this]
    · simp [h]
end
section
open Go.RowKit
theorem below_drewN {B : Nat} {a w : World} (h : Below B a w) (k : Nat) : Below B a (w.drewN k) := ⟨h.os, h.tape, h.output, h.size, h.block⟩
theorem lay2 (w : World) (X Y : Obj) : Below w.heap.size w ((w.alloc X).alloc Y) := (below_lay w X).alloc (below_lay w X).size Y
def CX.ch (x : CX) : Ch := ⟨x.kd, x.fl, x.a, x.b, x.ou, x.si, x.pp, x.bs⟩
structure CB (x : CX) : Prop where
  kd : 0 ≤ x.kd ∧ x.kd < 256
  fl : 0 ≤ x.fl ∧ x.fl < 256
  a : 0 ≤ x.a ∧ x.a < 4294967296
  ou : 0 ≤ x.ou ∧ x.ou < 65536
  si : 0 ≤ x.si ∧ x.si < 65536
  pp : 0 ≤ x.pp ∧ x.pp < 4294967296
theorem CV.cb {w : World} {x : CX} (h : CV w x) : CB x := ⟨h.kd, h.fl, h.a, h.ou, h.si, h.pp⟩
end
section
open Go.RowKit
def MX.msg (x : MX) : Msg := ⟨x.st, x.un, x.pp, x.bs⟩
end
section
open Go.RowKit
end
section
open Go.RowKit
def Plain (x : CX) : Prop := x.bl = (none, 0, 0) ∧ x.du = (none, 0, 0) ∧ x.sk = (none, 0, 0) ∧ x.pr = (none, 0, 0)
end
section
open Go.RowKit
end
section
open Go.RowKit
theorem wrap_in (x : Int) (h : -9223372036854775808 ≤ x ∧ x ≤ 9223372036854775807) : IntKind.i64.wrap x = x ∧ wrap64 x = x := by
  constructor <;> simp [IntKind.wrap, IntKind.signed, IntKind.bits, wrap64] <;> omega
theorem Msg_size : (Tryz.prog.info? 33).map (·.size) = some 4 := by kernel_rfl
def MB (w : World) (g : Nat) (x : MX) : Prop := w.heap[g]? = some (.cells x.cells.toArray 33 (0, 0))
theorem MB.lt {w : World} {g : Nat} {x : MX} (h : MB w g x) : g < w.heap.size := (Array.getElem?_eq_some_iff.1 h).1
theorem MB.at_ {w : World} {g : Nat} {x : MX} (h : MB w g x) (j : Nat) (v : Value) (hv : x.cells.toArray[j]? = some v) : w.cell? ⟨g, j, none⟩ = some v := by rw [cell_of_row _ _ _ _ _ _ h]; exact hv
theorem MB.fz {w : World} {g : Nat} {x : MX} (h : MB w g x) (j : Nat) : w.frozen? ⟨g, j, none⟩ = false := frozen_of_row w g j _ _ h
theorem MB.all {w : World} {g : Nat} {x : MX} (h : MB w g x) :
    (w.cell? ⟨g, 0, none⟩ = some (.int .u16 x.st) ∧ w.cell? ⟨g, 1, none⟩ = some (.bool x.un) ∧ w.cell? ⟨g, 2, none⟩ = some (.int .u32 x.pp) ∧ w.cell? ⟨g, 3, none⟩ = some (.slice x.da.1 x.da.2.1 x.da.2.2)) ∧
    (w.frozen? ⟨g, 0, none⟩ = false ∧ w.frozen? ⟨g, 1, none⟩ = false ∧ w.frozen? ⟨g, 2, none⟩ = false ∧ w.frozen? ⟨g, 3, none⟩ = false) :=
  ⟨⟨h.at_ 0 _ rfl, h.at_ 1 _ rfl, h.at_ 2 _ rfl, h.at_ 3 _ rfl⟩, h.fz 0, h.fz 1, h.fz 2, h.fz 3⟩
theorem ret_msg_ok {fn : Func} {p u : Tmp} (hr : fn.results = #[.cell p 33, .tmp u]) (tmps : Array Value) (w : World) (g : Nat) (x : MX) (hp : tmps.getD p undef = .pointer (some ⟨g, 0, none⟩)) (h : MB w g x) :
    (results fn tmps).run Tryz.prog w = .ok (.tuple #[.agg x.cells.toArray, tmps.getD u undef]) w := by
  rw [results_cell_tmp hr, hp]
  have := run_loadVar_row w g _ 33 x.cells.toArray (0, 0) _ h Tryz.underlying33 rfl Msg_size
  simp [asAddr, this]
theorem At12.step {w w' : World} {b o : Nat} {x : CX} (h : At12 w b o x) (hb : Below w.heap.size w w') (hlt : b < w.heap.size) : At12 w' b o x := by
  have k : ∀ (j : Nat) (v : Value), w.cell? ⟨b, j, none⟩ = some v → w'.cell? ⟨b, j, none⟩ = some v := fun j v h => (hb.cell (p := ⟨b, j, none⟩) hlt).trans h
  obtain ⟨c0, c1, c2, c3, c4, c5, c6, c7, c8, c9, c10, c11⟩ := h
  exact ⟨k _ _ c0, k _ _ c1, k _ _ c2, k _ _ c3, k _ _ c4, k _ _ c5, k _ _ c6, k _ _ c7, k _ _ c8, k _ _ c9, k _ _ c10, k _ _ c11⟩
def MX.zero : MX := ⟨0, false, 0, (none, 0, 0), []⟩
def wholeO (l : List Ch) : Option Msg := if whole l = true then some (msgOf l) else none
structure WJ (w : World) (g : Nat) (mx : MX) (wr : World) : Prop where
  m : MB wr g mx
  r : MB wr w.heap.size MX.zero
  own : wr.ownsRow (g + 1) 5 1 (.slice mx.da.1 mx.da.2.1 mx.da.2.2) mx.da.2.1 (bc mx.bs)
  below : Below w.heap.size w wr
  gw : w.heap.size < g
  sz : g + 1 ≤ wr.heap.size
theorem WJ.step {w : World} {g : Nat} {mx : MX} {wr w2 : World} (h : WJ w g mx wr) (hb : Below wr.heap.size wr w2) : WJ w g mx w2 := by
  refine ⟨(hb.block g h.m.lt).trans h.m, (hb.block _ h.r.lt).trans h.r, ⟨h.own.1, ?_⟩, h.below.trans (hb.mono h.below.size), h.gw, Nat.le_trans h.sz hb.size⟩
  rcases h.own.2 with h0 | ⟨k, cap, cur, hv, hk, hg, r⟩
  · exact .inl h0
  · exact .inr ⟨k, cap, cur, hv, hk, (hb.block k (Array.getElem?_eq_some_iff.1 hg).1).trans hg, r⟩
theorem WJ.app {w : World} {g : Nat} {mx : MX} {wr w2 : World} (h : WJ w g mx wr) {A' : Option Addr} {m c' : Nat} {ubs : List UInt8} (ho : w2.ownsRow (g + 1) 5 1 (.slice A' (mx.da.2.1 + m) c') (mx.da.2.1 + m) (bc mx.bs ++ bc ubs)) (hb : Below (g + 1) wr w2) :
    WJ w g ⟨mx.st, mx.un, mx.pp, (A', mx.da.2.1 + m, c'), mx.bs ++ ubs⟩ (w2.setCell ⟨g, 3, none⟩ (.slice A' (mx.da.2.1 + m) c')) := by
  have m2 : MB w2 g mx := (hb.block g (by omega)).trans h.m
  have r2 : MB w2 w.heap.size MX.zero := (hb.block _ (by have := h.gw; omega)).trans h.r
  refine ⟨heap_setCell_same w2 g 3 _ _ _ m2, (heap_setCell_other w2 ⟨g, 3, none⟩ w.heap.size _ (by have := h.gw; show w.heap.size ≠ g; omega)).trans r2, ?_, (h.below.trans (hb.mono (by have := h.gw; omega))).setCell (p := ⟨g, 3, none⟩) (Nat.le_of_lt h.gw) _, h.gw, ?_⟩
  · rw [bc_append]
    exact ownsRow_setCell_below ho (a := ⟨g, 3, none⟩) (Nat.lt_succ_self g) _
  · have := hb.size
    have := h.sz
    simp
    omega
theorem flat_len_le {l : List CX} {D : Nat} (h : ∀ x ∈ l, x.bs.length ≤ D) (j : Nat) : ((l.take j).flatMap CX.bs).length ≤ j * D := by
  induction j generalizing l with
  | zero => simp
  | succ j ih =>
    cases l with
    | nil => simp
    | cons x r =>
      rw [List.take_succ_cons, List.flatMap_cons, List.length_append, Nat.add_mul, Nat.one_mul]
      have := ih (l := r) fun y hy => h y (List.mem_cons_of_mem _ hy)
      have := h x (by simp)
      omega
theorem u8_info : (Tryz.prog.info? 5).map (fun i => (i.zero, i.size, i.bytes)) = some (some (.int .u8 0), 1, 1) := by kernel_rfl
theorem MB.laid {w : World} {g : Nat} {u : MX} (h : MB w g u) (x : MX) : MB ((((w.setCell ⟨g, 0, none⟩ (.int .u16 x.st)).setCell ⟨g, 1, none⟩ (.bool x.un)).setCell ⟨g, 2, none⟩ (.int .u32 x.pp)).setCell ⟨g, 3, none⟩ (.slice x.da.1 x.da.2.1 x.da.2.2)) g x := by
  exact heap_setCell_same _ g 3 _ _ _ (heap_setCell_same _ g 2 _ _ _ (heap_setCell_same _ g 1 _ _ _ (heap_setCell_same w g 0 _ _ _ h)))
theorem MB.below {w0 w : World} {g : Nat} (h : Below g w0 w) (x : MX) : Below g w0 ((((w.setCell ⟨g, 0, none⟩ (.int .u16 x.st)).setCell ⟨g, 1, none⟩ (.bool x.un)).setCell ⟨g, 2, none⟩ (.int .u32 x.pp)).setCell ⟨g, 3, none⟩ (.slice x.da.1 x.da.2.1 x.da.2.2)) :=
  (((h.setCell (p := ⟨g, 0, none⟩) (Nat.le_refl _) _).setCell (p := ⟨g, 1, none⟩) (Nat.le_refl _) _).setCell (p := ⟨g, 2, none⟩) (Nat.le_refl _) _).setCell (p := ⟨g, 3, none⟩) (Nat.le_refl _) _
theorem MB.own {w : World} {g base n c : Nat} {A : Option Addr} {bs : List UInt8} (h : w.ownsRow base 5 1 (.slice A n c) n (bc bs)) (hg : g < base) (x : MX) : BS ((((w.setCell ⟨g, 0, none⟩ (.int .u16 x.st)).setCell ⟨g, 1, none⟩ (.bool x.un)).setCell ⟨g, 2, none⟩ (.int .u32 x.pp)).setCell ⟨g, 3, none⟩ (.slice x.da.1 x.da.2.1 x.da.2.2)) A n c bs := by
  have h4 := ownsRow_setCell_below (ownsRow_setCell_below (ownsRow_setCell_below (ownsRow_setCell_below h (a := ⟨g, 0, none⟩) hg (.int .u16 x.st)) (a := ⟨g, 1, none⟩) hg (.bool x.un)) (a := ⟨g, 2, none⟩) hg (.int .u32 x.pp)) (a := ⟨g, 3, none⟩) hg (.slice x.da.1 x.da.2.1 x.da.2.2)
  obtain ⟨A', c', he, hc, _⟩ := own_shape2' h4
  injection he with _ _ e3
  have hl := h4.1
  rw [bc_length, Nat.mul_one] at hl
  exact ⟨hl.symm, by omega, BR.of_own h4⟩
theorem whole_make {l : List Ch} {x y : Ch} (hx : l[0]? = some x) (hy : l.getLast? = some y) (hk : x.kd = 0) (hb : x.fl / 2 % 2 = 1) (he : y.fl % 2 = 1) (hc : chain l = true) : whole l = true ∧ msgOf l = ⟨x.ou, decide (x.fl / 4 % 2 = 1), x.pp, l.flatMap Ch.da⟩ := by
  cases l with
  | nil => simp at hx
  | cons z t =>
    simp at hx
    subst hx
    refine ⟨?_, rfl⟩
    unfold whole
    dsimp only
    have : lastEnd (z :: t) = true := by unfold lastEnd; rw [hy]; simp [he]
    rw [this, hc]
    simp [hk, hb]
theorem chain_take {l : List Ch} {j : Nat} {x y : Ch} (h : chain (l.take j) = true) (hx : l[j - 1]? = some x) (hy : l[j]? = some y) (hj : 0 < j) (hf : fol x y = true) : chain (l.take (j + 1)) = true := by
  refine chain_of _ fun i u v hu hv => ?_
  rw [List.getElem?_take] at hu hv
  split at hv
  · rename_i h1
    rw [if_pos (by omega)] at hu
    by_cases hij : i + 1 = j
    · have e1 : i = j - 1 := by omega
      rw [e1, hx] at hu
      rw [hij, hy] at hv
      injection hu with hu
      injection hv with hv
      rw [← hu, ← hv]
      exact hf
    · refine chain_get (l.take j) i u v h ?_ ?_
      · rw [List.getElem?_take, if_pos (by omega)]; exact hu
      · rw [List.getElem?_take, if_pos (by omega)]; exact hv
  · cases hv
end
end Go.Proofs.YtnlkdlnmffibhaaGreat
