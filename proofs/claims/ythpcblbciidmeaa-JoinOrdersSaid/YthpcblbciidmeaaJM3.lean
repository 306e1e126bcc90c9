/- Runs that are as long as they can be: there is one through each chunk, and only one; the ends know of each other. -/
import Derived.WalkKit
import Derived.Test.YthpcblbciidmeaaJM2
namespace Go.Proofs.Ythpcblbciidmeaa
set_option linter.unusedVariables false

theorem chain_num {s : List Ch} (hc : chain s = true) (hn : NumC s) {x : Ch} (h0 : s[0]? = some x) : ∀ (i : Nat) (y : Ch), s[i]? = some y → y.a = (x.a + i) % 4294967296
  | 0, y, h => by
    rw [h0] at h
    injection h with h
    subst h
    have := hn x (List.mem_of_getElem? h0)
    omega
  | i + 1, y, h => by
    have hi : i < s.length := by have := (List.getElem?_eq_some_iff.1 h).1; omega
    have h1 := chain_num hc hn h0 i _ (List.getElem?_eq_getElem hi)
    have h2 := (fol_iff.1 (chain_get s i _ y hc (List.getElem?_eq_getElem hi) h)).a
    omega
/-- A chain is no longer than all that is held. -/
theorem chain_few {l s : List Ch} (hk : KeysC l) (hn : NumC l) (hl : l.length < 4294967296) (hc : chain s = true) (hs : ∀ x ∈ s, x ∈ l) : s.length ≤ l.length := by
  refine Classical.byContradiction fun hlt => ?_
  have hlt : l.length < s.length := by omega
  cases hx0 : s[0]? with
  | none =>
    have := List.getElem?_eq_none_iff.1 hx0
    omega
  | some x =>
    have hnum := chain_num hc (fun y hy => hn y (hs y hy)) hx0
    have hnd : (s.take (l.length + 1)).Pairwise fun a b => a.a ≠ b.a := by
      rw [List.pairwise_iff_getElem]
      intro i j hi hj hij e
      rw [List.length_take] at hi hj
      have h1 := hnum i s[i] (List.getElem?_eq_getElem (by omega))
      have h2 := hnum j s[j] (List.getElem?_eq_getElem (by omega))
      rw [List.getElem_take, List.getElem_take, h1, h2] at e
      omega
    have h2 : (l.filter fun x => (s.take (l.length + 1)).any fun y => decide (y.a = x.a)).Perm (s.take (l.length + 1)) := by
      refine (List.perm_ext_iff_of_nodup (hk.nodup.filter _) (KeysC.nodup hnd)).2 fun x => ?_
      rw [List.mem_filter]
      constructor
      · rintro ⟨hx, hr⟩
        obtain ⟨y, hy, e⟩ := List.any_eq_true.1 hr
        rw [← hk.one (hs y (List.mem_of_mem_take hy)) hx (of_decide_eq_true e)]
        exact hy
      · exact fun hx => ⟨hs x (List.mem_of_mem_take hx), List.any_eq_true.2 ⟨x, hx, decide_eq_true rfl⟩⟩
    have h3 := h2.length_eq
    have h4 := List.length_filter_le (fun x => (s.take (l.length + 1)).any fun y => decide (y.a = x.a)) l
    rw [h3, List.length_take] at h4
    omega
/-- A run that is as long as it can be. -/
structure Mx (l s : List Ch) : Prop where
  ch : chain s = true
  ne : s ≠ []
  mem : ∀ x ∈ s, x ∈ l
  hd : ∀ x, s[0]? = some x → ∀ y ∈ l, ¬ Fol y x
  tl : ∀ z, s.getLast? = some z → ∀ y ∈ l, ¬ Fol z y
theorem Run.mx {l r : List Ch} (h : Run l r) : Mx l r := by
  refine ⟨whole_chain h.wh, ?_, h.mem, fun x hx y _ hf => ?_, fun z hz y _ hf => ?_⟩
  · intro hc
    have := h.wh
    rw [hc] at this
    cases this
  · obtain ⟨u, hu, hb, _⟩ := whole_first h.wh
    rw [hx] at hu
    injection hu with hu
    subst hu
    have := hf.be
    omega
  · obtain ⟨u, hu, he⟩ := whole_last h.wh
    rw [hz] at hu
    injection hu with hu
    subst hu
    have := hf.en
    omega
theorem Mx.fol {l s : List Ch} (h : Mx l s) {i : Nat} {x y : Ch} (hx : s[i]? = some x) (hy : s[i + 1]? = some y) : Fol x y := fol_iff.1 (chain_get s i x y h.ch hx hy)
theorem Mx.back {l r : List Ch} (h : Mx l r) (hk : KeysC l) (hn : NumC l) {i : Nat} {x y : Ch} (hx : r[i]? = some x) (hy : y ∈ l) (hf : Fol y x) : ∃ j, i = j + 1 ∧ r[j]? = some y := by
  cases i with
  | zero => exact absurd hf (h.hd x hx y hy)
  | succ i =>
    have hi : i < r.length := by have := (List.getElem?_eq_some_iff.1 hx).1; omega
    have e := h.fol (List.getElem?_eq_getElem hi) hx
    have hm := h.mem _ (List.getElem_mem hi)
    refine ⟨i, rfl, ?_⟩
    rw [List.getElem?_eq_getElem hi]
    have := hn _ hm
    have := hn _ hy
    have h1 := e.a
    have h2 := hf.a
    exact congrArg some (hk.one hm hy (by omega))
theorem Mx.fwd {l r : List Ch} (h : Mx l r) (hk : KeysC l) {i : Nat} {x y : Ch} (hx : r[i]? = some x) (hy : y ∈ l) (hf : Fol x y) : r[i + 1]? = some y := by
  have h1 := (List.getElem?_eq_some_iff.1 hx).1
  rcases Nat.lt_or_ge (i + 1) r.length with h2 | h2
  · have e := h.fol hx (List.getElem?_eq_getElem h2)
    rw [List.getElem?_eq_getElem h2]
    exact congrArg some (hk.one (h.mem _ (List.getElem_mem h2)) hy (by rw [e.a, hf.a]))
  · exact absurd hf (h.tl x (by rw [List.getLast?_eq_getElem?, show r.length - 1 = i by omega, hx]) y hy)
theorem Mx.seg {l r s : List Ch} (h : Mx l r) (hk : KeysC l) (hn : NumC l) (hc : chain s = true) (hs : ∀ x ∈ s, x ∈ l) {c : Ch} {p i : Nat} (hp : s[p]? = some c) (hi : r[i]? = some c) :
    p ≤ i ∧ ∀ q, q < s.length → r[i - p + q]? = s[q]? := by
  have hb : ∀ d, d ≤ p → d ≤ i ∧ r[i - d]? = s[p - d]? := by
    intro d
    induction d with
    | zero => exact fun _ => ⟨Nat.zero_le _, by rw [Nat.sub_zero, Nat.sub_zero, hi, hp]⟩
    | succ d ih =>
      intro hd
      obtain ⟨h1, h2⟩ := ih (by omega)
      have hpl := (List.getElem?_eq_some_iff.1 hp).1
      have hq : p - d < s.length := by omega
      have hq' : p - (d + 1) < s.length := by omega
      rw [List.getElem?_eq_getElem hq] at h2
      have hf := fol_iff.1 (chain_get s (p - (d + 1)) _ _ hc (List.getElem?_eq_getElem hq') (by rw [show p - (d + 1) + 1 = p - d by omega]; exact List.getElem?_eq_getElem hq))
      obtain ⟨j, h3, h4⟩ := h.back hk hn h2 (hs _ (List.getElem_mem hq')) hf
      refine ⟨by omega, ?_⟩
      rw [show i - (d + 1) = j by omega, h4, List.getElem?_eq_getElem hq']
  have h0 := hb p (Nat.le_refl _)
  rw [Nat.sub_self] at h0
  refine ⟨h0.1, fun q => ?_⟩
  induction q with
  | zero => exact fun _ => h0.2
  | succ q ih =>
    intro hq
    have h1 := ih (by omega)
    rw [List.getElem?_eq_getElem (show q < s.length by omega)] at h1
    have hf := fol_iff.1 (chain_get s q _ _ hc (List.getElem?_eq_getElem (by omega)) (List.getElem?_eq_getElem hq))
    rw [List.getElem?_eq_getElem hq, ← Nat.add_assoc]
    exact h.fwd hk h1 (hs _ (List.getElem_mem hq)) hf
theorem Mx.one {l r s : List Ch} (h : Mx l r) (g : Mx l s) (hk : KeysC l) (hn : NumC l) {c : Ch} (hr : c ∈ r) (hs : c ∈ s) : r = s := by
  obtain ⟨i, hi⟩ := List.mem_iff_getElem?.1 hr
  obtain ⟨p, hp⟩ := List.mem_iff_getElem?.1 hs
  obtain ⟨h1, h2⟩ := h.seg hk hn g.ch g.mem hp hi
  obtain ⟨g1, g2⟩ := g.seg hk hn h.ch h.mem hi hp
  have e : i = p := by omega
  subst e
  refine List.ext_getElem? fun q => ?_
  rcases Nat.lt_or_ge q s.length with hq | hq
  · have := h2 q hq
    rwa [Nat.sub_self, Nat.zero_add] at this
  · rcases Nat.lt_or_ge q r.length with hq' | hq'
    · have := g2 q hq'
      rw [Nat.sub_self, Nat.zero_add] at this
      exact this.symm
    · rw [List.getElem?_eq_none hq, List.getElem?_eq_none hq']
theorem chain_cons {x y : Ch} {r : List Ch} (hf : Fol x y) (hc : chain (y :: r) = true) : chain (x :: y :: r) = true := by
  show (fol x y && chain (y :: r)) = true
  rw [fol_iff.2 hf, hc]
  rfl
theorem chain_snoc : ∀ (s : List Ch) (z y : Ch), chain s = true → s.getLast? = some z → Fol z y → chain (s ++ [y]) = true
  | [], _, _, _, h, _ => by simp at h
  | [x], z, y, _, h, hf => by
    simp at h
    subst h
    exact chain_cons hf rfl
  | x :: u :: r, z, y, hc, h, hf => by
    unfold chain at hc
    obtain ⟨h1, h2⟩ := Bool.and_eq_true_iff.1 hc
    have h3 : (u :: r).getLast? = some z := by rw [← h, List.getLast?_cons_cons]
    exact chain_cons (fol_iff.1 h1) (chain_snoc (u :: r) z y h2 h3 hf)
theorem ext_back {l : List Ch} (hk : KeysC l) (hn : NumC l) (hl : l.length < 4294967296) : ∀ (d : Nat) (s : List Ch), d + s.length = l.length + 1 → chain s = true → s ≠ [] → (∀ x ∈ s, x ∈ l) →
    ∃ t, chain t = true ∧ t ≠ [] ∧ (∀ x ∈ t, x ∈ l) ∧ (∀ x, t[0]? = some x → ∀ y ∈ l, ¬ Fol y x) ∧ t.getLast? = s.getLast? ∧ ∀ x ∈ s, x ∈ t
  | 0, s, h, hc, hne, hs => by
    have := chain_few hk hn hl hc hs
    omega
  | d + 1, s, h, hc, hne, hs => by
    cases s with
    | nil => exact absurd rfl hne
    | cons x r =>
      by_cases hy : ∃ y ∈ l, Fol y x
      · obtain ⟨y, hy, hf⟩ := hy
        obtain ⟨t, h1, h2, h3, h4, h5, h6⟩ := ext_back hk hn hl d (y :: x :: r) (by simp only [List.length_cons] at h ⊢; omega) (chain_cons hf hc) (by simp) (fun z hz => by
          rcases List.mem_cons.1 hz with rfl | hz
          · exact hy
          · exact hs z hz)
        exact ⟨t, h1, h2, h3, h4, by rw [h5, List.getLast?_cons_cons], fun z hz => h6 z (List.mem_cons_of_mem _ hz)⟩
      · refine ⟨x :: r, hc, hne, hs, fun z hz y hm hf => hy ⟨y, hm, ?_⟩, rfl, fun _ h => h⟩
        simp at hz
        rw [hz]
        exact hf
theorem ext_fwd {l : List Ch} (hk : KeysC l) (hn : NumC l) (hl : l.length < 4294967296) : ∀ (d : Nat) (s : List Ch), d + s.length = l.length + 1 → chain s = true → s ≠ [] → (∀ x ∈ s, x ∈ l) →
    ∃ t, chain t = true ∧ t ≠ [] ∧ (∀ x ∈ t, x ∈ l) ∧ (∀ x, t.getLast? = some x → ∀ y ∈ l, ¬ Fol x y) ∧ t[0]? = s[0]? ∧ ∀ x ∈ s, x ∈ t
  | 0, s, h, hc, hne, hs => by
    have := chain_few hk hn hl hc hs
    omega
  | d + 1, s, h, hc, hne, hs => by
    cases hz : s.getLast? with
    | none => exact absurd (List.getLast?_eq_none_iff.1 hz) hne
    | some z =>
      by_cases hy : ∃ y ∈ l, Fol z y
      · obtain ⟨y, hy, hf⟩ := hy
        obtain ⟨t, h1, h2, h3, h4, h5, h6⟩ := ext_fwd hk hn hl d (s ++ [y]) (by rw [List.length_append, List.length_singleton]; omega) (chain_snoc s z y hc hz hf) (by simp) (fun u hu => by
          rcases List.mem_append.1 hu with hu | hu
          · exact hs u hu
          · rw [List.mem_singleton.1 hu]; exact hy)
        refine ⟨t, h1, h2, h3, h4, ?_, fun u hu => h6 u (List.mem_append_left _ hu)⟩
        rw [h5]
        cases s with
        | nil => exact absurd rfl hne
        | cons x r => rfl
      · refine ⟨s, hc, hne, hs, fun u hu y hm hf => hy ⟨y, hm, ?_⟩, rfl, fun _ h => h⟩
        rw [hz] at hu
        injection hu with hu
        rw [hu]
        exact hf
/-- There is one through each. -/
theorem mx_ex {l : List Ch} (hk : KeysC l) (hn : NumC l) (hl : l.length < 4294967296) {x : Ch} (hx : x ∈ l) : ∃ s, Mx l s ∧ x ∈ s := by
  obtain ⟨d, hd⟩ : ∃ d, d + 1 = l.length + 1 := ⟨l.length, rfl⟩
  obtain ⟨t, h1, h2, h3, h4, h5, h6⟩ := ext_back hk hn hl d [x] (by simpa using hd) rfl (by simp) (fun y hy => by rw [List.mem_singleton.1 hy]; exact hx)
  have ht := chain_few hk hn hl h1 h3
  obtain ⟨d', hd'⟩ : ∃ d, d + t.length = l.length + 1 := ⟨l.length + 1 - t.length, by omega⟩
  obtain ⟨u, g1, g2, g3, g4, g5, g6⟩ := ext_fwd hk hn hl d' t hd' h1 h2 h3
  exact ⟨u, ⟨g1, g2, g3, fun z hz => h4 z (by rw [← g5]; exact hz), g4⟩, g6 x (h6 x (List.mem_singleton.2 rfl))⟩
/-- Both ends know of each other. -/
def OKf (far : Int → Int) (s : List Ch) : Prop := ∀ x z, s[0]? = some x → s.getLast? = some z → far x.a = z.a ∧ far z.a = x.a
def Ends (l : List Ch) (far : Int → Int) : Prop := ∀ s, Mx l s → OKf far s
/-- Both ends noted. -/
def setF (far : Int → Int) (a b : Int) : Int → Int := fun x => if x = b then a else if x = a then b else far x
theorem Mx.ends {l s : List Ch} (h : Mx l s) : ∃ x z, s[0]? = some x ∧ s.getLast? = some z ∧ x ∈ s ∧ z ∈ s := by
  cases hx : s[0]? with
  | none => exact absurd (List.eq_nil_of_length_eq_zero (by have := List.getElem?_eq_none_iff.1 hx; omega)) h.ne
  | some x =>
    cases hz : s.getLast? with
    | none => exact absurd (List.getLast?_eq_none_iff.1 hz) h.ne
    | some z => exact ⟨x, z, rfl, rfl, List.mem_of_getElem? hx, List.mem_of_getLast? hz⟩
theorem OKf.set {far : Int → Int} {s : List Ch} {x z : Ch} (hx : s[0]? = some x) (hz : s.getLast? = some z) : OKf (setF far x.a z.a) s := by
  intro u v hu hv
  rw [hx] at hu
  rw [hz] at hv
  injection hu with hu
  injection hv with hv
  subst hu hv
  unfold setF
  constructor
  · by_cases e : x.a = z.a
    · rw [if_pos e, e]
    · rw [if_neg e, if_pos rfl]
  · rw [if_pos rfl]
theorem bind_ok {l s t : List Ch} {far : Int → Int} (hs : Mx l s) (ht : Mx l t) (hk : KeysC l) (hn : NumC l) {x z : Ch} (hx : s[0]? = some x) (hz : s.getLast? = some z) (ho : OKf far t ∨ t = s) : OKf (setF far x.a z.a) t := by
  by_cases e : t = s
  · rw [e]
    exact OKf.set hx hz
  · rcases ho with ho | ho
    · intro u v hu hv
      have hxm := List.mem_of_getElem? hx
      have hzm := List.mem_of_getLast? hz
      have hum := List.mem_of_getElem? hu
      have hvm := List.mem_of_getLast? hv
      have ne : ∀ p ∈ t, ∀ q ∈ s, p.a ≠ q.a := fun p hp q hq c => by
        have := hk.one (ht.mem p hp) (hs.mem q hq) c
        subst this
        exact e (ht.one hs hk hn hp hq)
      obtain ⟨h1, h2⟩ := ho u v hu hv
      unfold setF
      rw [if_neg (ne u hum z hzm), if_neg (ne u hum x hxm), if_neg (ne v hvm z hzm), if_neg (ne v hvm x hxm)]
      exact ⟨h1, h2⟩
    · exact absurd ho e
/-- How far it is. -/
theorem Mx.dist {l s : List Ch} (h : Mx l s) (hk : KeysC l) (hn : NumC l) (hl : l.length < 4294967296) {x z : Ch} (hx : s[0]? = some x) (hz : s.getLast? = some z) : (z.a - x.a) % 4294967296 = s.length - 1 ∧ 1 ≤ s.length ∧ s.length ≤ l.length ∧ ∀ (i : Nat) y, s[i]? = some y → y.a = (x.a + i) % 4294967296 := by
  have hf := chain_few hk hn hl h.ch h.mem
  have hlen : 0 < s.length := (List.getElem?_eq_some_iff.1 hx).1
  have hnum := chain_num h.ch (fun y hy => hn y (h.mem y hy)) hx
  rw [List.getLast?_eq_getElem?] at hz
  have h1 := hnum _ _ hz
  have := hn x (h.mem x (List.mem_of_getElem? hx))
  have := hn z (h.mem z (List.mem_of_getElem? hz))
  refine ⟨?_, hlen, hf, hnum⟩
  rw [h1]
  omega
/-! ### One more is held -/
theorem Mx.of_more {l s : List Ch} {c : Ch} (h : Mx (c :: l) s) (hc : c ∉ s) : Mx l s :=
  ⟨h.ch, h.ne, fun x hx => by
    rcases List.mem_cons.1 (h.mem x hx) with e | e
    · exact absurd (by rw [← e]; exact hx) hc
    · exact e, fun x hx y hy => h.hd x hx y (List.mem_cons_of_mem _ hy), fun z hz y hy => h.tl z hz y (List.mem_cons_of_mem _ hy)⟩
/-- The run of c: its first one. -/
theorem first_of {l s : List Ch} {c : Ch} {far : Int → Int} (hk : KeysC (c :: l)) (hn : NumC (c :: l)) (hl : (c :: l).length < 4294967296) (he : Ends l far) (hs : Mx (c :: l) s) (hc : c ∈ s) {x : Ch} (hx : s[0]? = some x) :
    ((∀ y ∈ l, ¬ Fol y c) → x = c) ∧ (∀ y ∈ l, Fol y c → far y.a = x.a) := by
  obtain ⟨i, hi⟩ := List.mem_iff_getElem?.1 hc
  obtain ⟨hcl, hkl⟩ := List.pairwise_cons.1 hk
  have hnl : NumC l := fun x hx => hn x (List.mem_cons_of_mem _ hx)
  constructor
  · intro hno
    cases i with
    | zero =>
      rw [hx] at hi
      injection hi
    | succ i =>
      have hil : i < s.length := by have := (List.getElem?_eq_some_iff.1 hi).1; omega
      have hf := hs.fol (List.getElem?_eq_getElem hil) hi
      rcases List.mem_cons.1 (hs.mem _ (List.getElem_mem hil)) with e | e
      · have h1 := hf.en
        have h2 := hf.a
        rw [e] at h2
        have := hn c List.mem_cons_self
        omega
      · exact absurd hf (hno _ e)
  · intro y hy hf
    obtain ⟨j, rfl, hj⟩ := hs.back hk hn hi (List.mem_cons_of_mem _ hy) hf
    have hnd : ∀ (p q : Nat) (u v : Ch), s[p]? = some u → s[q]? = some v → u.a = v.a → p = q := by
      intro p q u v hu hv e
      obtain ⟨_, _, h3, h4⟩ := hs.dist hk hn hl hx (hz := (List.getLast?_eq_getElem?.trans (List.getElem?_eq_getElem (by have := (List.getElem?_eq_some_iff.1 hx).1; omega))))
      have h5 := h4 p u hu
      have h6 := h4 q v hv
      have := (List.getElem?_eq_some_iff.1 hu).1
      have := (List.getElem?_eq_some_iff.1 hv).1
      omega
    have hjl := (List.getElem?_eq_some_iff.1 hj).1
    have hcn : c ∉ s.take (j + 1) := fun hm => by
      obtain ⟨p, hp⟩ := List.mem_iff_getElem?.1 hm
      have hpl := (List.getElem?_eq_some_iff.1 hp).1
      rw [List.length_take] at hpl
      rw [List.getElem?_take_of_lt (by omega)] at hp
      have := hnd p (j + 1) c c hp hi rfl
      omega
    have hlast : (s.take (j + 1)).getLast? = some y := by
      rw [List.getLast?_eq_getElem?, List.length_take, Nat.min_eq_left (by omega), Nat.add_sub_cancel, List.getElem?_take_of_lt (by omega), hj]
    have hm : Mx l (s.take (j + 1)) := by
      refine ⟨chain_of _ fun i a b ha hb => ?_, fun hc' => ?_, fun u hu => ?_, fun u hu v hv => ?_, fun u hu v hv hf' => ?_⟩
      · have hbl := (List.getElem?_eq_some_iff.1 hb).1
        rw [List.length_take] at hbl
        rw [List.getElem?_take_of_lt (by omega)] at ha hb
        exact chain_get s i a b hs.ch ha hb
      · rw [hc'] at hlast
        cases hlast
      · rcases List.mem_cons.1 (hs.mem u (List.mem_of_mem_take hu)) with e | e
        · exact absurd (by rw [← e]; exact hu) hcn
        · exact e
      · rw [List.getElem?_take_of_lt (by omega)] at hu
        exact hs.hd u hu v (List.mem_cons_of_mem _ hv)
      · rw [hlast] at hu
        injection hu with hu
        subst hu
        have h1 := hf.a
        have h2 := hf'.a
        exact hcl v hv (by rw [h1, h2])
    exact (he _ hm x y (by rw [List.getElem?_take_of_lt (by omega)]; exact hx) hlast).2
theorem last_of {l s : List Ch} {c : Ch} {far : Int → Int} (hk : KeysC (c :: l)) (hn : NumC (c :: l)) (hl : (c :: l).length < 4294967296) (he : Ends l far) (hs : Mx (c :: l) s) (hc : c ∈ s) {z : Ch} (hz : s.getLast? = some z) :
    ((∀ y ∈ l, ¬ Fol c y) → z = c) ∧ (∀ y ∈ l, Fol c y → far y.a = z.a) := by
  obtain ⟨i, hi⟩ := List.mem_iff_getElem?.1 hc
  obtain ⟨hcl, hkl⟩ := List.pairwise_cons.1 hk
  have hil := (List.getElem?_eq_some_iff.1 hi).1
  obtain ⟨x, hx⟩ : ∃ x, s[0]? = some x := ⟨s[0], List.getElem?_eq_getElem (by omega)⟩
  constructor
  · intro hno
    rcases Nat.lt_or_ge (i + 1) s.length with h1 | h1
    · have hf := hs.fol hi (List.getElem?_eq_getElem h1)
      rcases List.mem_cons.1 (hs.mem _ (List.getElem_mem h1)) with e | e
      · have h2 := hf.a
        rw [e] at h2
        have := hn c List.mem_cons_self
        omega
      · exact absurd hf (hno _ e)
    · rw [List.getLast?_eq_getElem?, show s.length - 1 = i by omega, hi] at hz
      injection hz with hz
      exact hz.symm
  · intro y hy hf
    have hj := hs.fwd hk hi (List.mem_cons_of_mem _ hy) hf
    have hjl := (List.getElem?_eq_some_iff.1 hj).1
    obtain ⟨_, _, _, hnum⟩ := hs.dist hk hn hl hx hz
    have hfew := chain_few hk hn hl hs.ch hs.mem
    have hcn : c ∉ s.drop (i + 1) := fun hm => by
      obtain ⟨p, hp⟩ := List.mem_iff_getElem?.1 hm
      rw [List.getElem?_drop] at hp
      have h5 := hnum _ c hp
      have h6 := hnum i c hi
      have := (List.getElem?_eq_some_iff.1 hp).1
      omega
    have hhd : (s.drop (i + 1))[0]? = some y := by rw [List.getElem?_drop]; exact hj
    have hlast : (s.drop (i + 1)).getLast? = some z := by
      rw [List.getLast?_eq_getElem?, List.length_drop, List.getElem?_drop, show i + 1 + (s.length - (i + 1) - 1) = s.length - 1 by omega, ← List.getLast?_eq_getElem?, hz]
    have hm : Mx l (s.drop (i + 1)) := by
      refine ⟨chain_of _ fun p a b ha hb => ?_, fun hc' => ?_, fun u hu => ?_, fun u hu v hv hf' => ?_, fun u hu v hv => ?_⟩
      · rw [List.getElem?_drop] at ha hb
        exact chain_get s (i + 1 + p) a b hs.ch ha hb
      · rw [hc'] at hlast
        cases hlast
      · rcases List.mem_cons.1 (hs.mem u (List.mem_of_mem_drop hu)) with e | e
        · exact absurd (by rw [← e]; exact hu) hcn
        · exact e
      · rw [hhd] at hu
        injection hu with hu
        subst hu
        have h1 := hf.a
        have h2 := hf'.a
        have := hn c List.mem_cons_self
        have := hn v (List.mem_cons_of_mem _ hv)
        exact hcl v hv (by omega)
      · rw [hlast] at hu
        injection hu with hu
        subst hu
        exact hs.tl _ hz v (List.mem_cons_of_mem _ hv)
    exact (he _ hm y z hhd hlast).1
theorem ends_hold {l s : List Ch} {c : Ch} {far : Int → Int} (hk : KeysC (c :: l)) (hn : NumC (c :: l)) (he : Ends l far) (hs : Mx (c :: l) s) (hc : c ∈ s) {x z : Ch} (hx : s[0]? = some x) (hz : s.getLast? = some z) : Ends (c :: l) (setF far x.a z.a) := by
  intro t ht
  by_cases hct : c ∈ t
  · exact bind_ok hs ht hk hn hx hz (.inr (ht.one hs hk hn hct hc))
  · exact bind_ok hs ht hk hn hx hz (.inl (he t (ht.of_more hct)))
/-- .. taken out, when its message is whole. -/
theorem ends_take {l s : List Ch} {far : Int → Int} (hk : KeysC l) (hn : NumC l) (he : Ends l far) (hs : Mx l s) : Ends (without s l) far := by
  intro t ht
  refine he t ⟨ht.ch, ht.ne, fun x hx => (mem_without.1 (ht.mem x hx)).1, fun x hx y hy hf => ?_, fun z hz y hy hf => ?_⟩
  · by_cases hys : ∃ u ∈ s, u.a = y.a
    · obtain ⟨u, hu, e⟩ := hys
      have := hk.one (hs.mem u hu) hy e
      subst this
      obtain ⟨i, hi⟩ := List.mem_iff_getElem?.1 hu
      have hxm := mem_without.1 (ht.mem x (List.mem_of_getElem? hx))
      have := hs.fwd hk hi hxm.1 hf
      exact hxm.2 x (List.mem_of_getElem? this) rfl
    · exact ht.hd x hx y (mem_without.2 ⟨hy, fun u hu e => hys ⟨u, hu, e⟩⟩) hf
  · by_cases hys : ∃ u ∈ s, u.a = y.a
    · obtain ⟨u, hu, e⟩ := hys
      have := hk.one (hs.mem u hu) hy e
      subst this
      obtain ⟨i, hi⟩ := List.mem_iff_getElem?.1 hu
      have hzm := mem_without.1 (ht.mem z (List.mem_of_getLast? hz))
      obtain ⟨j, _, hj⟩ := hs.back hk hn hi hzm.1 hf
      exact hzm.2 z (List.mem_of_getElem? hj) rfl
    · exact ht.tl z hz y (mem_without.2 ⟨hy, fun u hu e => hys ⟨u, hu, e⟩⟩) hf
/-- Those up to n are dropped: only the runs at both borders are others. -/
theorem mx_drop {l t : List Ch} {n : Int} (hn : NumC l) (h0 : 0 ≤ n ∧ n < 4294967296) (ht : Mx (l.filter fun x => !le32 x.a n) t) :
    Mx l t ∨ (∃ x ∈ t, x.a = (n + 1) % 4294967296) ∨ ∃ x ∈ t, x.a = (n + 2147483648) % 4294967296 := by
  have hm : ∀ x ∈ t, x ∈ l ∧ ¬ (n - x.a) % 4294967296 < 2147483648 := fun x hx => by
    obtain ⟨h1, h2⟩ := List.mem_filter.1 (ht.mem x hx)
    refine ⟨h1, fun hc => ?_⟩
    unfold le32 at h2
    rw [decide_eq_true hc] at h2
    cases h2
  have hout : ∀ y ∈ l, y ∉ (l.filter fun x => !le32 x.a n) → (n - y.a) % 4294967296 < 2147483648 := fun y hy hc => by
    refine Classical.byContradiction fun h => hc (List.mem_filter.2 ⟨hy, ?_⟩)
    unfold le32
    rw [decide_eq_false h]
    rfl
  obtain ⟨x, z, hx, hz, hxm, hzm⟩ := ht.ends
  by_cases hc : Mx l t
  · exact .inl hc
  · refine .inr (Classical.byContradiction fun hno => hc ⟨ht.ch, ht.ne, fun x hx => (hm x hx).1, fun u hu y hy hf => ?_, fun u hu y hy hf => ?_⟩)
    · by_cases hyf : y ∈ (l.filter fun x => !le32 x.a n)
      · exact ht.hd u hu y hyf hf
      · have h1 := hout y hy hyf
        have h2 := (hm u (List.mem_of_getElem? hu)).2
        have h3 := hf.a
        have := hn y hy
        exact hno (.inl ⟨u, List.mem_of_getElem? hu, by omega⟩)
    · by_cases hyf : y ∈ (l.filter fun x => !le32 x.a n)
      · exact ht.tl u hu y hyf hf
      · have h1 := hout y hy hyf
        have h2 := (hm u (List.mem_of_getLast? hu)).2
        have h3 := hf.a
        have := hn u (hm u (List.mem_of_getLast? hu)).1
        exact hno (.inr ⟨u, List.mem_of_getLast? hu, by omega⟩)
/-- The run of c is a message, or there is none. -/
theorem run_or {l s : List Ch} {c : Ch} (hk : KeysC l) (hn : NumC l) (hs : Mx l s) (hc : c ∈ s) (hkd : ∀ x ∈ l, x.kd = 0) {x z : Ch} (hx : s[0]? = some x) (hz : s.getLast? = some z) :
    (x.fl / 2 % 2 = 1 → z.fl % 2 = 1 → Run l s) ∧ (¬ (x.fl / 2 % 2 = 1 ∧ z.fl % 2 = 1) → ∀ r, Run l r → c ∉ r) := by
  refine ⟨fun hb he => ⟨whole_of hs.ch hx (hkd x (hs.mem x (List.mem_of_getElem? hx))) hb hz he, hs.mem⟩, fun hno r hr hcr => hno ?_⟩
  have e := hr.mx.one hs hk hn hcr hc
  subst e
  obtain ⟨u, hu, hb, _⟩ := whole_first hr.wh
  obtain ⟨v, hv, he⟩ := whole_last hr.wh
  rw [hx] at hu
  rw [hz] at hv
  injection hu with hu
  injection hv with hv
  subst hu hv
  exact ⟨hb, he⟩
end Go.Proofs.Ythpcblbciidmeaa
