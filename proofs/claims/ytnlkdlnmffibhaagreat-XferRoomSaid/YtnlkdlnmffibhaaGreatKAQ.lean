/- KAQ of the stage: texts PMath, JM1, JM2, joined. -/
import Derived.WalkKit
set_option linter.unusedSimpArgs false
set_option linter.unusedVariables false
set_option maxRecDepth 8000
namespace Go.Proofs.YtnlkdlnmffibhaaGreat
section
structure Ch where
  kd : Int
  fl : Int
  a : Int
  b : Int
  ou : Int
  si : Int
  pp : Int
  da : List UInt8
structure Msg where
  st : Int
  un : Bool
  pp : Int
  da : List UInt8
def fol (x y : Ch) : Bool := decide (x.kd = 0 ∧ y.kd = 0 ∧ y.a = (x.a + 1) % 4294967296 ∧ x.ou = y.ou ∧ x.si = y.si ∧ x.pp = y.pp ∧ x.fl / 4 % 2 = y.fl / 4 % 2 ∧ x.fl % 2 = 0 ∧ y.fl / 2 % 2 = 0)
def chain : List Ch → Bool
  | [] => true
  | [_] => true
  | x :: y :: r => fol x y && chain (y :: r)
def lastEnd (l : List Ch) : Bool := match l.getLast? with | some x => decide (x.fl % 2 = 1) | none => false
def whole (l : List Ch) : Bool := match l with
  | [] => false
  | x :: r => decide (x.kd = 0) && decide (x.fl / 2 % 2 = 1) && lastEnd (x :: r) && chain (x :: r)
def msgOf (l : List Ch) : Msg := match l with
  | [] => ⟨0, false, 0, []⟩
  | x :: r => ⟨x.ou, decide (x.fl / 4 % 2 = 1), x.pp, (x :: r).flatMap Ch.da⟩
theorem chain_get : ∀ (l : List Ch) (i : Nat) (x y : Ch), chain l = true → l[i]? = some x → l[i + 1]? = some y → fol x y = true
  | [], i, x, y, _, h, _ => by simp at h
  | [z], i, x, y, _, _, h => by simp at h
  | z :: u :: r, 0, x, y, hc, hx, hy => by
    simp at hx hy
    subst hx
    subst hy
    unfold chain at hc
    exact (Bool.and_eq_true_iff.1 hc).1
  | z :: u :: r, i + 1, x, y, hc, hx, hy => by
    unfold chain at hc
    exact chain_get (u :: r) i x y (Bool.and_eq_true_iff.1 hc).2 (by simpa using hx) (by simpa using hy)
theorem chain_of : ∀ (l : List Ch), (∀ i x y, l[i]? = some x → l[i + 1]? = some y → fol x y = true) → chain l = true
  | [], _ => rfl
  | [_], _ => rfl
  | z :: u :: r, h => by
    unfold chain
    rw [h 0 z u rfl rfl, chain_of (u :: r) fun i x y hx hy => h (i + 1) x y (by simpa using hx) (by simpa using hy)]
    rfl
theorem whole_break {l : List Ch} {i : Nat} {x y : Ch} (hx : l[i]? = some x) (hy : l[i + 1]? = some y) (h : fol x y = false) : whole l = false := by
  unfold whole
  cases l with
  | nil => rfl
  | cons z r =>
    dsimp only
    have hc : chain (z :: r) = false := by
      cases hc : chain (z :: r) with
      | false => rfl
      | true => rw [chain_get _ i x y hc hx hy] at h; cases h
    rw [hc, Bool.and_false]
theorem whole_nobegin {x : Ch} {r : List Ch} (h : x.fl / 2 % 2 ≠ 1) : whole (x :: r) = false := by
  unfold whole
  simp [h]
theorem whole_noend {l : List Ch} {x : Ch} (hl : l.getLast? = some x) (h : x.fl % 2 ≠ 1) : whole l = false := by
  unfold whole
  cases l with
  | nil => rfl
  | cons z r =>
    dsimp only
    have : lastEnd (z :: r) = false := by unfold lastEnd; rw [hl]; simp [h]
    rw [this]
    simp
def cnt (k n : Nat) : Nat := (n + k - 1) / k
def piece (k : Nat) (bs : List UInt8) (i : Nat) : List UInt8 := (bs.drop (i * k)).take k
theorem cnt_pos {k n : Nat} (hk : 0 < k) (hn : 0 < n) : 0 < cnt k n := by
  unfold cnt
  exact Nat.div_pos (by omega) hk
theorem cnt_le {k n i : Nat} (hk : 0 < k) : i < cnt k n ↔ i * k < n := by
  unfold cnt
  rw [Nat.lt_iff_add_one_le, Nat.le_div_iff_mul_le hk, Nat.add_mul]
  omega
theorem cnt_le_n {k n : Nat} (hk : 0 < k) : cnt k n ≤ n := by
  rcases Nat.lt_or_ge n (cnt k n) with h | h
  · have := (cnt_le (n := n) hk).1 h
    have h2 : n * 1 ≤ n * k := Nat.mul_le_mul_left n hk
    omega
  · exact h
theorem piece_len {k : Nat} {bs : List UInt8} {i : Nat} (h : (i + 1) * k ≤ bs.length) : (piece k bs i).length = k := by
  unfold piece
  rw [List.length_take, List.length_drop]
  rw [Nat.add_mul, Nat.one_mul] at h
  omega
def flg (un : Bool) (n i : Nat) : Int := (if i = 0 then 2 else 0) + (if i + 1 = n then 1 else 0) + (if un = true then 4 else 0)
theorem flg_in (un : Bool) (n i : Nat) : 0 ≤ flg un n i ∧ flg un n i < 8 := by unfold flg; split <;> split <;> split <;> decide
def ssnOf (m : Msg) (ssn : Int) : Int := if m.un = true then 0 else ssn
def chAt (m : Msg) (tsn ssn : Int) (k i : Nat) : Ch := ⟨0, flg m.un (cnt k m.da.length) i, (tsn + i) % 4294967296, 0, m.st, ssnOf m ssn, m.pp, piece k m.da i⟩
def splitL (m : Msg) (tsn ssn : Int) (k : Nat) : List Ch := (List.range (cnt k m.da.length)).map (chAt m tsn ssn k)
theorem splitL_len (m : Msg) (tsn ssn : Int) (k : Nat) : (splitL m tsn ssn k).length = cnt k m.da.length := by simp [splitL]
theorem splitL_get {m : Msg} {tsn ssn : Int} {k i : Nat} (h : i < cnt k m.da.length) : (splitL m tsn ssn k)[i]? = some (chAt m tsn ssn k i) := by
  simp [splitL, h]
end
section
def KeysC (l : List Ch) : Prop := l.Pairwise fun x y => x.a ≠ y.a
theorem KeysC.one {l : List Ch} (h : KeysC l) {x y : Ch} (hx : x ∈ l) (hy : y ∈ l) (e : x.a = y.a) : x = y := by
  induction l with
  | nil => cases hx
  | cons z r ih =>
    obtain ⟨h1, h2⟩ := List.pairwise_cons.1 h
    rcases List.mem_cons.1 hx with rfl | h4
    · rcases List.mem_cons.1 hy with rfl | h3
      · rfl
      · exact absurd e (h1 y h3)
    · rcases List.mem_cons.1 hy with h3 | h3
      · subst h3
        exact absurd e.symm (h1 x h4)
      · exact ih h2 h4 h3
structure Run (l r : List Ch) : Prop where
  wh : whole r = true
  mem : ∀ x ∈ r, x ∈ l
theorem whole_chain {r : List Ch} (h : whole r = true) : chain r = true := by
  unfold whole at h
  cases r with
  | nil => cases h
  | cons x s =>
    dsimp only at h
    exact (Bool.and_eq_true_iff.1 h).2
theorem whole_first {r : List Ch} (h : whole r = true) : ∃ x, r[0]? = some x ∧ x.fl / 2 % 2 = 1 ∧ x.kd = 0 := by
  unfold whole at h
  cases r with
  | nil => cases h
  | cons x s =>
    dsimp only at h
    simp only [Bool.and_eq_true, decide_eq_true_eq] at h
    exact ⟨x, rfl, h.1.1.2, h.1.1.1⟩
theorem whole_last {r : List Ch} (h : whole r = true) : ∃ x, r.getLast? = some x ∧ x.fl % 2 = 1 := by
  unfold whole at h
  cases r with
  | nil => cases h
  | cons x s =>
    dsimp only at h
    simp only [Bool.and_eq_true] at h
    have h := h.1.2
    unfold lastEnd at h
    split at h
    · rename_i z hz
      exact ⟨z, hz, of_decide_eq_true h⟩
    · cases h
theorem whole_of {r : List Ch} {x z : Ch} (hc : chain r = true) (hx : r[0]? = some x) (hk : x.kd = 0) (hb : x.fl / 2 % 2 = 1) (hz : r.getLast? = some z) (he : z.fl % 2 = 1) : whole r = true := by
  cases r with
  | nil => simp at hx
  | cons y s =>
    simp at hx
    subst hx
    unfold whole lastEnd
    dsimp only
    rw [hz, hc]
    simp [hk, hb, he]
structure Fol (x y : Ch) : Prop where
  kx : x.kd = 0
  ky : y.kd = 0
  a : y.a = (x.a + 1) % 4294967296
  ou : x.ou = y.ou
  si : x.si = y.si
  pp : x.pp = y.pp
  un : x.fl / 4 % 2 = y.fl / 4 % 2
  en : x.fl % 2 = 0
  be : y.fl / 2 % 2 = 0
theorem fol_iff {x y : Ch} : fol x y = true ↔ Fol x y := by
  unfold fol
  rw [decide_eq_true_eq]
  exact ⟨fun ⟨a, b, c, d, e, f, g, h, i⟩ => ⟨a, b, c, d, e, f, g, h, i⟩, fun ⟨a, b, c, d, e, f, g, h, i⟩ => ⟨a, b, c, d, e, f, g, h, i⟩⟩
def NumC (l : List Ch) : Prop := ∀ x ∈ l, 0 ≤ x.a ∧ x.a < 4294967296
theorem Run.fol {l r : List Ch} (h : Run l r) {i : Nat} {x y : Ch} (hx : r[i]? = some x) (hy : r[i + 1]? = some y) : Fol x y := fol_iff.1 (chain_get r i x y (whole_chain h.wh) hx hy)
theorem Run.first {l r : List Ch} (h : Run l r) {i : Nat} {x : Ch} (hx : r[i]? = some x) (hb : x.fl / 2 % 2 = 1) : i = 0 := by
  cases i with
  | zero => rfl
  | succ i =>
    have hi : i < r.length := by have := (List.getElem?_eq_some_iff.1 hx).1; omega
    have := (h.fol (List.getElem?_eq_getElem hi) hx).be
    omega
theorem Run.last {l r : List Ch} (h : Run l r) {i : Nat} {x : Ch} (hx : r[i]? = some x) (hb : x.fl % 2 = 1) : r.length = i + 1 := by
  have h1 := (List.getElem?_eq_some_iff.1 hx).1
  rcases Nat.lt_or_ge (i + 1) r.length with h2 | h2
  · have := (h.fol hx (List.getElem?_eq_getElem h2)).en
    omega
  · omega
theorem Run.back {l r : List Ch} (h : Run l r) (hk : KeysC l) (hn : NumC l) {i : Nat} {x y : Ch} (hx : r[i]? = some x) (hy : y ∈ l) (hf : Fol y x) : ∃ j, i = j + 1 ∧ r[j]? = some y := by
  cases i with
  | zero =>
    obtain ⟨z, hz, hb, _⟩ := whole_first h.wh
    rw [hx] at hz
    injection hz with hz
    subst hz
    have := hf.be
    omega
  | succ i =>
    have hi : i < r.length := by have := (List.getElem?_eq_some_iff.1 hx).1; omega
    have e := h.fol (List.getElem?_eq_getElem hi) hx
    have hm := h.mem _ (List.getElem_mem hi)
    refine ⟨i, rfl, ?_⟩
    rw [List.getElem?_eq_getElem hi]
    have := hn _ hm
    have := hn _ hy
    have h1 := e.a
    have h2 := hf.a
    exact congrArg some (hk.one hm hy (by omega))
theorem Run.fwd {l r : List Ch} (h : Run l r) (hk : KeysC l) {i : Nat} {x y : Ch} (hx : r[i]? = some x) (hy : y ∈ l) (hf : Fol x y) : r[i + 1]? = some y := by
  obtain ⟨z, hz, he⟩ := whole_last h.wh
  have h1 := (List.getElem?_eq_some_iff.1 hx).1
  rcases Nat.lt_or_ge (i + 1) r.length with h2 | h2
  · have e := h.fol hx (List.getElem?_eq_getElem h2)
    rw [List.getElem?_eq_getElem h2]
    exact congrArg some (hk.one (h.mem _ (List.getElem_mem h2)) hy (by rw [e.a, hf.a]))
  · rw [List.getLast?_eq_getElem?, show r.length - 1 = i by omega, hx] at hz
    injection hz with hz
    subst hz
    have := hf.en
    omega
theorem Run.seg {l r s : List Ch} (h : Run l r) (hk : KeysC l) (hn : NumC l) (hc : chain s = true) (hs : ∀ x ∈ s, x ∈ l) {c : Ch} {p i : Nat} (hp : s[p]? = some c) (hi : r[i]? = some c) :
    p ≤ i ∧ ∀ q, q < s.length → r[i - p + q]? = s[q]? := by
  have hb : ∀ d, d ≤ p → d ≤ i ∧ r[i - d]? = s[p - d]? := by
    intro d
    induction d with
    | zero => exact fun _ => ⟨Nat.zero_le _, by rw [Nat.sub_zero, Nat.sub_zero, hi, hp]⟩
    | succ d ih =>
      intro hd
      obtain ⟨h1, h2⟩ := ih (by omega)
      have hpl := (List.getElem?_eq_some_iff.1 hp).1
      have hq : p - d < s.length := by omega
      have hq' : p - (d + 1) < s.length := by omega
      rw [List.getElem?_eq_getElem hq] at h2
      have hf := fol_iff.1 (chain_get s (p - (d + 1)) _ _ hc (List.getElem?_eq_getElem hq') (by rw [show p - (d + 1) + 1 = p - d by omega]; exact List.getElem?_eq_getElem hq))
      obtain ⟨j, h3, h4⟩ := h.back hk hn h2 (hs _ (List.getElem_mem hq')) hf
      refine ⟨by omega, ?_⟩
      rw [show i - (d + 1) = j by omega, h4, List.getElem?_eq_getElem hq']
  have h0 := hb p (Nat.le_refl _)
  rw [Nat.sub_self] at h0
  refine ⟨h0.1, fun q => ?_⟩
  induction q with
  | zero => exact fun _ => h0.2
  | succ q ih =>
    intro hq
    have h1 := ih (by omega)
    rw [List.getElem?_eq_getElem (show q < s.length by omega)] at h1
    have hf := fol_iff.1 (chain_get s q _ _ hc (List.getElem?_eq_getElem (by omega)) (List.getElem?_eq_getElem hq))
    rw [List.getElem?_eq_getElem hq, ← Nat.add_assoc]
    exact h.fwd hk h1 (hs _ (List.getElem_mem hq)) hf
theorem Run.one {l r s : List Ch} (h : Run l r) (g : Run l s) (hk : KeysC l) (hn : NumC l) {c : Ch} (hr : c ∈ r) (hs : c ∈ s) : r = s := by
  obtain ⟨i, hi⟩ := List.mem_iff_getElem?.1 hr
  obtain ⟨p, hp⟩ := List.mem_iff_getElem?.1 hs
  obtain ⟨h1, h2⟩ := h.seg hk hn (whole_chain g.wh) g.mem hp hi
  obtain ⟨x, hx, hb, _⟩ := whole_first g.wh
  obtain ⟨z, hz, he⟩ := whole_last g.wh
  have hl : 0 < s.length := (List.getElem?_eq_some_iff.1 hx).1
  have e0 : i - p = 0 := h.first (x := x) (by have := h2 0 hl; rw [Nat.add_zero] at this; rw [this, hx]) hb
  rw [List.getLast?_eq_getElem?] at hz
  have e1 : r.length = s.length := by
    have := h.last (i := s.length - 1) (x := z) (by have := h2 (s.length - 1) (by omega); rw [e0, Nat.zero_add] at this; rw [this, hz]) he
    omega
  refine List.ext_getElem? fun q => ?_
  rcases Nat.lt_or_ge q s.length with hq | hq
  · have := h2 q hq
    rwa [e0, Nat.zero_add] at this
  · rw [List.getElem?_eq_none hq, List.getElem?_eq_none (by omega)]
theorem Run.nodup {l r : List Ch} (h : Run l r) (hk : KeysC l) (hn : NumC l) : r.Pairwise fun x y => x.a ≠ y.a := by
  rw [List.pairwise_iff_getElem]
  intro i j hi hj hij e
  have hx := List.getElem?_eq_getElem hi
  have hy := List.getElem?_eq_getElem hj
  rw [hk.one (h.mem _ (List.getElem_mem hi)) (h.mem _ (List.getElem_mem hj)) e] at hx
  obtain ⟨h1, h2⟩ := h.seg hk hn (whole_chain h.wh) h.mem hx hy
  obtain ⟨z, hz, hb, _⟩ := whole_first h.wh
  have h3 := h2 0 (by omega)
  rw [Nat.add_zero, hz] at h3
  have := h.first h3 hb
  omega
theorem Run.single {l : List Ch} {c : Ch} (hc : c ∈ l) (hk : c.kd = 0) (hb : c.fl / 2 % 2 = 1) (he : c.fl % 2 = 1) : Run l [c] :=
  ⟨whole_of rfl rfl hk hb rfl he, fun x hx => by rw [List.mem_singleton.1 hx]; exact hc⟩
structure Jn where
  n : Int
  nx : Int → Int
  ch : List Ch
  st : List (Int × Msg)
  rd : List Msg
def octC (l : List Ch) : Nat := (l.map fun c => c.da.length).sum
def octS (l : List (Int × Msg)) : Nat := (l.map fun p => p.2.da.length).sum
def octM (l : List Msg) : Nat := (l.map fun m => m.da.length).sum
def Jn.oct (j : Jn) : Nat := octC j.ch + octS j.st + octM j.rd
def newJ (s : Int) : Jn := ⟨if 1 ≤ s ∧ s ≤ 64 then s else 64, fun _ => 0, [], [], []⟩
def lt16 (a b : Int) : Bool := decide (1 ≤ (b - a) % 65536 ∧ (b - a) % 65536 < 32768)
def isS (s k : Int) (p : Int × Msg) : Bool := decide (p.1 = k ∧ p.2.st = s)
def hasS (l : List (Int × Msg)) (s k : Int) : Option Msg := (l.find? (isS s k)).map (·.2)
def delS (l : List (Int × Msg)) (s k : Int) : List (Int × Msg) := l.filter fun p => !isS s k p
def setN (f : Int → Int) (s k : Int) : Int → Int := fun x => if x = s then k else f x
def KeysS (l : List (Int × Msg)) : Prop := l.Pairwise fun p q => ¬ (p.1 = q.1 ∧ p.2.st = q.2.st)
def up1 (k : Int) : Int := (k + 1) % 65536
def popJ (j : Jn) (s : Int) (m : Msg) : Jn := { j with nx := setN j.nx s (up1 (j.nx s)), st := delS j.st s (j.nx s), rd := j.rd ++ [m] }
def tellN : Nat → Jn → Int → Jn
  | 0, j, _ => j
  | f + 1, j, s => match hasS j.st s (j.nx s) with
    | none => j
    | some m => tellN f (popJ j s m) s
def tell (j : Jn) (s : Int) : Jn := tellN j.st.length j s
def comes (j : Jn) (m : Msg) (k : Int) : Jn :=
  if m.un = true then { j with rd := j.rd ++ [m] }
  else if lt16 k (j.nx m.st) = true ∨ (hasS j.st m.st k).isSome = true then j
  else tell { j with st := (k, m) :: j.st } m.st
def without (r l : List Ch) : List Ch := l.filter fun x => !r.any fun y => decide (y.a = x.a)
def siOf (r : List Ch) : Int := match r with | [] => 0 | x :: _ => x.si
inductive Came (j : Jn) (c : Ch) : Jn → Prop
  | part : (∀ r, Run (c :: j.ch) r → c ∉ r) → Came j c { j with ch := c :: j.ch }
  | all (r : List Ch) : Run (c :: j.ch) r → c ∈ r → Came j c (comes { j with ch := without r (c :: j.ch) } (msgOf r) (siOf r))
def isC (a : Int) (x : Ch) : Bool := decide (x.a = a)
def addE (j : Jn) (c : Ch) : Int :=
  if c.kd ≠ 0 ∨ c.da.length = 0 then 1 else if ¬ (0 ≤ c.ou ∧ c.ou < j.n) then 12 else if j.ch.any (isC c.a) = true then 8 else if 65536 < j.oct + c.da.length then 9 else 0
def AddR (j : Jn) (c : Ch) (e : Int) (j' : Jn) : Prop := e = addE j c ∧ (e ≠ 0 → j' = j) ∧ (e = 0 → Came j c j')
def takeJ (j : Jn) : Jn := { j with rd := [] }
theorem isS_iff {s k : Int} {p : Int × Msg} : isS s k p = true ↔ p.1 = k ∧ p.2.st = s := by unfold isS; rw [decide_eq_true_eq]
theorem hasS_some {l : List (Int × Msg)} {s k : Int} {m : Msg} (h : hasS l s k = some m) : (k, m) ∈ l ∧ m.st = s := by
  unfold hasS at h
  cases hf : l.find? (isS s k) with
  | none => rw [hf] at h; cases h
  | some p =>
    rw [hf] at h
    have h : p.2 = m := by simpa using h
    subst h
    have h1 := isS_iff.1 (List.find?_some hf)
    refine ⟨?_, h1.2⟩
    rw [← h1.1]
    exact List.mem_of_find?_eq_some hf
theorem hasS_none {l : List (Int × Msg)} {s k : Int} : hasS l s k = none ↔ ∀ m, (k, m) ∈ l → m.st ≠ s := by
  unfold hasS
  rw [Option.map_eq_none_iff, List.find?_eq_none]
  constructor
  · exact fun h m hm hs => h _ hm (isS_iff.2 ⟨rfl, hs⟩)
  · intro h p hp hc
    obtain ⟨h1, h2⟩ := isS_iff.1 hc
    exact h p.2 (by rw [← h1]; exact hp) h2
theorem hasS_of {l : List (Int × Msg)} (hk : KeysS l) {s k : Int} {m : Msg} (hm : (k, m) ∈ l) (hs : m.st = s) : hasS l s k = some m := by
  induction l with
  | nil => cases hm
  | cons p r ih =>
    obtain ⟨h1, h2⟩ := List.pairwise_cons.1 hk
    unfold hasS
    by_cases hc : isS s k p = true
    · rw [List.find?_cons_of_pos hc]
      rcases List.mem_cons.1 hm with h3 | h3
      · rw [← h3]; rfl
      · exact absurd ⟨(isS_iff.1 hc).1, (isS_iff.1 hc).2.trans hs.symm⟩ (h1 _ h3)
    · rw [List.find?_cons_of_neg hc]
      rcases List.mem_cons.1 hm with h3 | h3
      · rw [← h3] at hc
        exact absurd (isS_iff.2 ⟨rfl, hs⟩) hc
      · exact ih h2 h3
theorem mem_delS {l : List (Int × Msg)} {s k : Int} {p : Int × Msg} : p ∈ delS l s k ↔ p ∈ l ∧ ¬ (p.1 = k ∧ p.2.st = s) := by
  unfold delS
  rw [List.mem_filter, ← isS_iff]
  simp
theorem KeysS.filter {l : List (Int × Msg)} (h : KeysS l) (f : Int × Msg → Bool) : KeysS (l.filter f) := List.Pairwise.filter _ h
theorem KeysC.filter {l : List Ch} (h : KeysC l) (f : Ch → Bool) : KeysC (l.filter f) := List.Pairwise.filter _ h
theorem octC_filter (l : List Ch) (f : Ch → Bool) : octC (l.filter f) + octC (l.filter fun p => !f p) = octC l := by
  induction l with
  | nil => rfl
  | cons p r ih =>
    unfold octC at ih ⊢
    cases hf : f p
    · rw [List.filter_cons_of_neg (by rw [hf]; decide), List.filter_cons_of_pos (by rw [hf]; rfl)]
      simp only [List.map_cons, List.sum_cons]
      omega
    · rw [List.filter_cons_of_pos hf, List.filter_cons_of_neg (by rw [hf]; decide)]
      simp only [List.map_cons, List.sum_cons]
      omega
theorem octM_app (l : List Msg) (m : Msg) : octM (l ++ [m]) = octM l + m.da.length := by
  unfold octM
  simp
theorem delS_one {l : List (Int × Msg)} (hk : KeysS l) {s k : Int} {m : Msg} (h : hasS l s k = some m) : octS (delS l s k) + m.da.length = octS l ∧ (delS l s k).length + 1 = l.length := by
  induction l with
  | nil => cases h
  | cons p r ih =>
    obtain ⟨h1, h2⟩ := List.pairwise_cons.1 hk
    by_cases hc : isS s k p = true
    · have e : m = p.2 := by
        unfold hasS at h
        rw [List.find?_cons_of_pos hc] at h
        have : p.2 = m := by simpa using h
        exact this.symm
      have hd : delS r s k = r := by
        unfold delS
        rw [List.filter_eq_self]
        intro q hq
        cases hq' : isS s k q
        · rfl
        · obtain ⟨a1, a2⟩ := isS_iff.1 hc
          obtain ⟨b1, b2⟩ := isS_iff.1 hq'
          exact absurd ⟨a1.trans b1.symm, a2.trans b2.symm⟩ (h1 q hq)
      have : delS (p :: r) s k = r := by
        unfold delS at hd ⊢
        rw [List.filter_cons_of_neg (by rw [hc]; decide), hd]
      rw [this, e]
      exact ⟨Nat.add_comm _ _, rfl⟩
    · have h3 : hasS r s k = some m := by
        unfold hasS at h ⊢
        rwa [List.find?_cons_of_neg hc] at h
      obtain ⟨i1, i2⟩ := ih h2 h3
      have : delS (p :: r) s k = p :: delS r s k := by
        unfold delS
        rw [List.filter_cons_of_pos (by simp [hc])]
      rw [this]
      unfold octS at i1 ⊢
      simp only [List.map_cons, List.sum_cons, List.length_cons]
      omega
structure Wf (j : Jn) : Prop where
  n0 : 1 ≤ j.n
  n1 : j.n ≤ 64
  kc : KeysC j.ch
  nc : NumC j.ch
  ok : ∀ c ∈ j.ch, c.kd = 0 ∧ c.da ≠ [] ∧ 0 ≤ c.ou ∧ c.ou < j.n ∧ 0 ≤ c.si ∧ c.si < 65536
  ks : KeysS j.st
  os : ∀ p ∈ j.st, 0 ≤ p.1 ∧ p.1 < 65536 ∧ 0 ≤ p.2.st ∧ p.2.st < j.n ∧ p.2.un = false
  nx : ∀ s, 0 ≤ j.nx s ∧ j.nx s < 65536
theorem Wf.new (s : Int) : Wf (newJ s) := by
  refine ⟨?_, ?_, List.Pairwise.nil, fun _ h => (by cases h), fun _ h => (by cases h), List.Pairwise.nil, fun _ h => (by cases h), fun _ => ⟨Int.le_refl _, (by show (0 : Int) < 65536; decide)⟩⟩
  · show 1 ≤ (if 1 ≤ s ∧ s ≤ 64 then s else 64)
    split <;> omega
  · show (if 1 ≤ s ∧ s ≤ 64 then s else 64) ≤ 64
    split <;> omega
theorem setN_in {f : Int → Int} {s k : Int} (h : ∀ s, 0 ≤ f s ∧ f s < 65536) (hk : 0 ≤ k ∧ k < 65536) : ∀ x, 0 ≤ setN f s k x ∧ setN f s k x < 65536 := by
  intro x
  unfold setN
  split
  · exact hk
  · exact h x
theorem up1_in (k : Int) : 0 ≤ up1 k ∧ up1 k < 65536 := by unfold up1; omega
theorem Wf.pop {j : Jn} (h : Wf j) (s : Int) (m : Msg) : Wf (popJ j s m) :=
  ⟨h.n0, h.n1, h.kc, h.nc, h.ok, h.ks.filter _, fun p hp => h.os p (mem_delS.1 hp).1, setN_in h.nx (up1_in _)⟩
theorem pop_oct {j : Jn} (h : Wf j) {s : Int} {m : Msg} (hm : hasS j.st s (j.nx s) = some m) : (popJ j s m).oct = j.oct := by
  have := delS_one h.ks hm
  unfold Jn.oct
  show octC j.ch + octS (delS j.st s (j.nx s)) + octM (j.rd ++ [m]) = _
  rw [octM_app]
  omega
theorem tellN_wf : ∀ (f : Nat) (j : Jn) (s : Int), Wf j → Wf (tellN f j s) ∧ (tellN f j s).oct = j.oct ∧ (tellN f j s).n = j.n ∧ (tellN f j s).ch = j.ch
  | 0, j, s, h => ⟨h, rfl, rfl, rfl⟩
  | f + 1, j, s, h => by
    unfold tellN
    cases hm : hasS j.st s (j.nx s) with
    | none => exact ⟨h, rfl, rfl, rfl⟩
    | some m =>
      obtain ⟨h1, h2, h3, h4⟩ := tellN_wf f (popJ j s m) s (h.pop s m)
      exact ⟨h1, h2.trans (pop_oct h hm), h3, h4⟩
theorem tellN_stop {j : Jn} {s : Int} (h : hasS j.st s (j.nx s) = none) : ∀ f, tellN f j s = j
  | 0 => rfl
  | f + 1 => by unfold tellN; rw [h]
theorem tellN_enough : ∀ (f g : Nat) (j : Jn) (s : Int), Wf j → j.st.length ≤ f → j.st.length ≤ g → tellN f j s = tellN g j s
  | f, g, j, s, h, hf, hg => by
    cases hm : hasS j.st s (j.nx s) with
    | none => rw [tellN_stop hm, tellN_stop hm]
    | some m =>
      have hl := (delS_one h.ks hm).2
      cases f with
      | zero => omega
      | succ f =>
        cases g with
        | zero => omega
        | succ g =>
          unfold tellN
          rw [hm]
          exact tellN_enough f g (popJ j s m) s (h.pop s m) (by show (delS j.st s (j.nx s)).length ≤ f; omega) (by show (delS j.st s (j.nx s)).length ≤ g; omega)
theorem tell_none {j : Jn} {s : Int} (h : hasS j.st s (j.nx s) = none) : tell j s = j := tellN_stop h _
theorem tell_some {j : Jn} {s : Int} {m : Msg} (hw : Wf j) (h : hasS j.st s (j.nx s) = some m) : tell j s = tell (popJ j s m) s := by
  have hl := (delS_one hw.ks h).2
  unfold tell
  cases hf : j.st.length with
  | zero => omega
  | succ f =>
    show (match hasS j.st s (j.nx s) with | none => j | some m => tellN f (popJ j s m) s) = _
    rw [h]
    exact tellN_enough _ _ _ s (hw.pop s m) (by show (delS j.st s (j.nx s)).length ≤ f; omega) (Nat.le_refl _)
theorem tell_wf {j : Jn} (h : Wf j) (s : Int) : Wf (tell j s) ∧ (tell j s).oct = j.oct ∧ (tell j s).n = j.n ∧ (tell j s).ch = j.ch := tellN_wf _ j s h
theorem mem_without {r l : List Ch} {x : Ch} : x ∈ without r l ↔ x ∈ l ∧ ∀ y ∈ r, y.a ≠ x.a := by
  unfold without
  rw [List.mem_filter]
  simp
theorem octC_perm {l m : List Ch} (h : l.Perm m) : octC l = octC m := by
  unfold octC
  induction h with
  | nil => rfl
  | cons x _ ih => simp only [List.map_cons, List.sum_cons, ih]
  | swap x y l => simp only [List.map_cons, List.sum_cons]; omega
  | trans _ _ a b => exact a.trans b
theorem KeysC.nodup {l : List Ch} (h : KeysC l) : l.Nodup := h.imp fun {a b} hab e => hab (by rw [e])
theorem run_oct {l r : List Ch} (h : Run l r) (hk : KeysC l) (hn : NumC l) : octC (without r l) + (msgOf r).da.length = octC l := by
  have h1 := octC_filter l fun x => r.any fun y => decide (y.a = x.a)
  have h2 : (l.filter fun x => r.any fun y => decide (y.a = x.a)).Perm r := by
    refine (List.perm_ext_iff_of_nodup (hk.nodup.filter _) (KeysC.nodup (h.nodup hk hn))).2 fun x => ?_
    rw [List.mem_filter]
    constructor
    · rintro ⟨hx, hr⟩
      obtain ⟨y, hy, e⟩ := List.any_eq_true.1 hr
      rw [← hk.one (h.mem y hy) hx (of_decide_eq_true e)]
      exact hy
    · exact fun hx => ⟨h.mem x hx, List.any_eq_true.2 ⟨x, hx, decide_eq_true rfl⟩⟩
  have h3 := octC_perm h2
  have h4 : (msgOf r).da.length = octC r := by
    cases r with
    | nil => rfl
    | cons x s =>
      show ((x :: s).flatMap Ch.da).length = octC (x :: s)
      rw [List.length_flatMap]
      rfl
  unfold without
  omega
theorem hasS_isNone {l : List (Int × Msg)} {s k : Int} (h : ¬ (hasS l s k).isSome = true) : hasS l s k = none := by
  cases hc : hasS l s k with
  | none => rfl
  | some m => rw [hc] at h; exact absurd rfl h
theorem Wf.push {j : Jn} (h : Wf j) {m : Msg} {k : Int} (hs : 0 ≤ m.st ∧ m.st < j.n) (hk : 0 ≤ k ∧ k < 65536) (hu : m.un = false) (hn : hasS j.st m.st k = none) : Wf { j with st := (k, m) :: j.st } :=
  { h with
    ks := List.pairwise_cons.2 ⟨fun p hp hc => hasS_none.1 hn p.2 (by rw [show k = p.1 from hc.1]; exact hp) hc.2.symm, h.ks⟩
    os := fun p hp => by
      rcases List.mem_cons.1 hp with rfl | hp
      · exact ⟨hk.1, hk.2, hs.1, hs.2, hu⟩
      · exact h.os p hp }
theorem push_oct {j : Jn} {m : Msg} {k : Int} : ({ j with st := (k, m) :: j.st } : Jn).oct = j.oct + m.da.length := by
  unfold Jn.oct octS
  simp only [List.map_cons, List.sum_cons]
  omega
theorem comes_wf {j : Jn} (h : Wf j) {m : Msg} {k : Int} (hs : 0 ≤ m.st ∧ m.st < j.n) (hk : 0 ≤ k ∧ k < 65536) : Wf (comes j m k) ∧ (comes j m k).oct ≤ j.oct + m.da.length ∧ (comes j m k).n = j.n ∧ (comes j m k).ch = j.ch := by
  unfold comes
  by_cases hu : m.un = true
  · rw [if_pos hu]
    refine ⟨{ h with }, ?_, rfl, rfl⟩
    unfold Jn.oct
    show octC j.ch + octS j.st + octM (j.rd ++ [m]) ≤ _
    rw [octM_app]
    omega
  · rw [if_neg hu]
    by_cases hc : lt16 k (j.nx m.st) = true ∨ (hasS j.st m.st k).isSome = true
    · rw [if_pos hc]
      exact ⟨h, Nat.le_add_right _ _, rfl, rfl⟩
    · rw [if_neg hc]
      have hw := h.push hs hk (by simpa using hu) (hasS_isNone fun hx => hc (.inr hx))
      obtain ⟨h1, h2, h3, h4⟩ := tell_wf hw m.st
      exact ⟨h1, by rw [h2, push_oct]; exact Nat.le_refl _, h3, h4⟩
structure FitsC (c : Ch) : Prop where
  a0 : 0 ≤ c.a
  a1 : c.a < 4294967296
  s0 : 0 ≤ c.si
  s1 : c.si < 65536
theorem addE_ok {j : Jn} {c : Ch} (h : addE j c = 0) : c.kd = 0 ∧ c.da ≠ [] ∧ (0 ≤ c.ou ∧ c.ou < j.n) ∧ (∀ x ∈ j.ch, x.a ≠ c.a) ∧ j.oct + c.da.length ≤ 65536 := by
  unfold addE at h
  by_cases h1 : c.kd ≠ 0 ∨ c.da.length = 0
  · rw [if_pos h1] at h; cases h
  rw [if_neg h1] at h
  by_cases h2 : ¬ (0 ≤ c.ou ∧ c.ou < j.n)
  · rw [if_pos h2] at h; cases h
  rw [if_neg h2] at h
  by_cases h3 : j.ch.any (isC c.a) = true
  · rw [if_pos h3] at h; cases h
  rw [if_neg h3] at h
  by_cases h4 : 65536 < j.oct + c.da.length
  · rw [if_pos h4] at h; cases h
  refine ⟨Classical.byContradiction fun hc => h1 (.inl hc), fun hc => h1 (.inr (by rw [hc]; rfl)), Classical.byContradiction h2, fun x hx hc => h3 ?_, by omega⟩
  exact List.any_eq_true.2 ⟨x, hx, decide_eq_true hc⟩
theorem addE_of {j : Jn} {c : Ch} (h1 : c.kd = 0) (h2 : c.da ≠ []) (h3 : 0 ≤ c.ou ∧ c.ou < j.n) (h4 : ∀ x ∈ j.ch, x.a ≠ c.a) (h5 : j.oct + c.da.length ≤ 65536) : addE j c = 0 := by
  have hl : c.da.length ≠ 0 := fun hc => h2 (List.length_eq_zero_iff.1 hc)
  unfold addE
  rw [if_neg (by omega), if_neg (by omega), if_neg ?_, if_neg (by omega)]
  intro hc
  obtain ⟨x, hx, e⟩ := List.any_eq_true.1 hc
  exact h4 x hx (of_decide_eq_true e)
theorem put_wf {j : Jn} (h : Wf j) {c : Ch} (hc : FitsC c) (he : addE j c = 0) : Wf { j with ch := c :: j.ch } := by
  obtain ⟨h1, h2, h3, h4, _⟩ := addE_ok he
  refine { h with kc := List.pairwise_cons.2 ⟨fun x hx e => h4 x hx e.symm, h.kc⟩, nc := fun x hx => ?_, ok := fun x hx => ?_ }
  · rcases List.mem_cons.1 hx with rfl | hx
    · exact ⟨hc.a0, hc.a1⟩
    · exact h.nc x hx
  · rcases List.mem_cons.1 hx with rfl | hx
    · exact ⟨h1, h2, h3.1, h3.2, hc.s0, hc.s1⟩
    · exact h.ok x hx
theorem put_oct {j : Jn} {c : Ch} : ({ j with ch := c :: j.ch } : Jn).oct = j.oct + c.da.length := by
  unfold Jn.oct octC
  simp only [List.map_cons, List.sum_cons]
  omega
theorem Wf.less {j : Jn} (h : Wf j) (f : Ch → Bool) : Wf { j with ch := j.ch.filter f } :=
  { h with kc := h.kc.filter f, nc := fun x hx => h.nc x (List.mem_filter.1 hx).1, ok := fun x hx => h.ok x (List.mem_filter.1 hx).1 }
theorem run_head {l r : List Ch} (h : Run l r) : ∃ x s, r = x :: s ∧ x ∈ l ∧ (msgOf r).st = x.ou ∧ siOf r = x.si := by
  cases r with
  | nil => have := h.wh; cases this
  | cons x s => exact ⟨x, s, rfl, h.mem x List.mem_cons_self, rfl, rfl⟩
theorem came_wf {j j' : Jn} (h : Wf j) {c : Ch} (hc : FitsC c) (he : addE j c = 0) (hj : Came j c j') : Wf j' ∧ j'.oct ≤ j.oct + c.da.length ∧ j'.n = j.n := by
  have hp := put_wf h hc he
  have ho := put_oct (j := j) (c := c)
  cases hj with
  | part _ => exact ⟨hp, Nat.le_of_eq ho, rfl⟩
  | all r hr hm =>
    obtain ⟨x, s, e, hx, h1, h2⟩ := run_head hr
    obtain ⟨_, _, o1, o2, o3, o4⟩ := hp.ok x hx
    have hw : Wf { j with ch := without r (c :: j.ch) } := hp.less _
    have hs : 0 ≤ (msgOf r).st ∧ (msgOf r).st < j.n := by rw [h1]; exact ⟨o1, o2⟩
    obtain ⟨a1, a2, a3, _⟩ := comes_wf (m := msgOf r) (k := siOf r) hw hs (by rw [h2]; exact ⟨o3, o4⟩)
    refine ⟨a1, Nat.le_trans a2 ?_, a3⟩
    have := run_oct hr hp.kc hp.nc
    rw [← ho]
    unfold Jn.oct
    show octC (without r (c :: j.ch)) + octS j.st + octM j.rd + _ ≤ octC (c :: j.ch) + octS j.st + octM j.rd
    omega
theorem add_wf {j j' : Jn} {e : Int} (h : Wf j) {c : Ch} (hc : FitsC c) (ha : AddR j c e j') : Wf j' ∧ j'.n = j.n ∧ (j.oct ≤ 65536 → j'.oct ≤ 65536) ∧ j'.oct ≤ j.oct + (if e = 0 then c.da.length else 0) := by
  obtain ⟨rfl, h1, h2⟩ := ha
  by_cases he : addE j c = 0
  · obtain ⟨a, b, d⟩ := came_wf h hc he (h2 he)
    have := (addE_ok he).2.2.2.2
    exact ⟨a, d, fun _ => by omega, by rw [if_pos he]; exact b⟩
  · rw [h1 he]
    exact ⟨h, rfl, id, Nat.le_add_right _ _⟩
theorem take_wf {j : Jn} (h : Wf j) : Wf (takeJ j) ∧ (takeJ j).oct + octM j.rd = j.oct ∧ (takeJ j).n = j.n := ⟨{ h with }, rfl, rfl⟩
end
section
theorem hasS_del {l : List (Int × Msg)} {s k s' k' : Int} : hasS (delS l s k) s' k' = if s' = s ∧ k' = k then none else hasS l s' k' := by
  unfold hasS delS
  rw [List.find?_filter]
  by_cases h : s' = s ∧ k' = k
  · obtain ⟨rfl, rfl⟩ := h
    rw [if_pos ⟨rfl, rfl⟩, List.find?_eq_none.2 fun p hp => by simp]
    rfl
  · rw [if_neg h]
    congr 2
    funext p
    cases h1 : isS s' k' p
    · simp
    · obtain ⟨a1, a2⟩ := isS_iff.1 h1
      have : isS s k p = false := by
        cases h2 : isS s k p
        · rfl
        · obtain ⟨b1, b2⟩ := isS_iff.1 h2
          exact absurd ⟨a2.symm.trans b2, a1.symm.trans b1⟩ h
      simp [this]
theorem hasS_cons {l : List (Int × Msg)} {k : Int} {m : Msg} {s' k' : Int} : hasS ((k, m) :: l) s' k' = if k = k' ∧ m.st = s' then some m else hasS l s' k' := by
  unfold hasS
  by_cases h : k = k' ∧ m.st = s'
  · rw [if_pos h, List.find?_cons_of_pos (isS_iff.2 h)]
    rfl
  · rw [if_neg h, List.find?_cons_of_neg fun hc => h (isS_iff.1 hc)]
theorem without_not {r l : List Ch} (h : ∀ x ∈ l, ∀ y ∈ r, y.a ≠ x.a) : without r l = l := by
  unfold without
  rw [List.filter_eq_self]
  intro x hx
  have : (r.any fun y => decide (y.a = x.a)) = false := by
    rw [List.any_eq_false]
    intro y hy hc
    exact h x hx y hy (of_decide_eq_true hc)
  rw [this]
  rfl
theorem came_single {j j' : Jn} (h : Wf j) {c : Ch} (hc : FitsC c) (he : addE j c = 0) (hb : c.fl / 2 % 2 = 1) (hd : c.fl % 2 = 1) (hj : Came j c j') : j' = comes j (msgOf [c]) c.si := by
  have hp := put_wf h hc he
  have hr : Run (c :: j.ch) [c] := Run.single List.mem_cons_self (addE_ok he).1 hb hd
  cases hj with
  | part hn => exact absurd List.mem_cons_self (hn _ hr)
  | all r hr' hm =>
    have e := hr'.one hr hp.kc hp.nc hm List.mem_cons_self
    subst e
    have e2 : without [c] (c :: j.ch) = j.ch := by
      unfold without
      rw [List.filter_cons_of_neg (by simp)]
      exact without_not fun x hx y hy => by
        rw [List.mem_singleton.1 hy]
        exact fun e => (addE_ok he).2.2.2.1 x hx e.symm
    rw [e2]
    rfl
structure Plan where
  M : Nat
  k : Nat
  ms : Nat → Msg
  ts : Nat → Int
  sn : Nat → Int
namespace Plan
variable {p : Plan}
end Plan
namespace Plan
variable {p : Plan}
end Plan
namespace Plan
variable {p : Plan}
end Plan
def pc (a s k : Int) (d : List UInt8) : Ch := ⟨0, 3, a, 0, s, k, 0, d⟩
end
end Go.Proofs.YtnlkdlnmffibhaaGreat
