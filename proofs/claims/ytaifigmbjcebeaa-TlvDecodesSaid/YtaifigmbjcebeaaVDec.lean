/- tlv.Decode: which parameters any octets are, or why none. -/
import Derived.Test.YtaifigmbjcebeaaVIter
import Derived.RangeFuncBox
import Derived.Maps.AppendAt
namespace Go.Proofs.Ytaifigmbjcebeaa
open Go.RowKit
attribute [local go_sem] Oper.semAt_some
set_option linter.unusedVariables false

/-- All cells but readers' are as they were. -/
structure KeptBut (A B : World) : Prop where
  size : A.heap.size ≤ B.heap.size
  all : ∀ (k : Nat) cs t fr, t ≠ 73 → A.heap[k]? = some (.cells cs t fr) → B.heap[k]? = some (.cells cs t fr)
theorem KeptBut.ty {A B : World} (h : KeptBut A B) {x : Option Addr} (hx : TY A x) : TY B x := fun a e => by
  obtain ⟨cs, hc⟩ := hx a e
  exact ⟨cs, h.all _ _ _ _ (by decide) hc⟩
theorem KeptBut.bs {A B : World} (h : KeptBut A B) {x : Option Addr} {n c : Nat} {bs : List UInt8} (hx : TY A x) (hb : BS A x n c bs) : BS B x n c bs := by
  refine ⟨hb.1, hb.2.1, fun hne => ?_⟩
  obtain ⟨b, o, e, hlt, hc⟩ := hb.2.2 hne
  obtain ⟨cs, hcs⟩ := hx _ e
  refine ⟨b, o, e, Nat.lt_of_lt_of_le hlt h.size, fun j u hu => ?_⟩
  exact (World.cell?_of_block (w := A) (a := ⟨b, o + j, none⟩) ((h.all _ _ _ _ (by decide) hcs).trans hcs.symm)).trans (hc j u hu)
theorem KeptBut.boxed {A B : World} (h : KeptBut A B) {b : Nat} {t : TypeId} {v : Value} (ht : t ≠ 73) (hx : Boxed A b t v) : Boxed B b t v := h.all _ _ _ _ ht hx
theorem KeptBut.own {A B : World} (h : KeptBut A B) {base : Nat} {e : TypeId} {size n : Nat} {v : Value} {xs : List Value} (he : e ≠ 73) (ho : A.ownsRow base e size v n xs) : B.ownsRow base e size v n xs := by
  refine ⟨ho.1, ?_⟩
  rcases ho.2 with hn | ⟨g, cap, cur, rfl, hb, hgg, rest⟩
  · exact .inl hn
  · exact .inr ⟨g, cap, cur, rfl, hb, h.all _ _ _ _ he hgg, rest⟩
theorem KeptBut.putObj {A : World} {l : Nat} {o : Obj} (o' : Obj) (h : A.heap[l]? = some o) (ho : o.isCells = false) : KeptBut A (A.putObj l o') :=
  ⟨by simp, fun k cs t fr _ hk => by
    refine (World.putObj_heap_other fun e => ?_).trans hk
    subst e
    rw [h] at hk
    cases hk
    cases ho⟩
theorem Kept.putObj {A : World} {l : Nat} {o : Obj} (o' : Obj) (h : A.heap[l]? = some o) (ho : o.isCells = false) : Kept A (A.putObj l o') :=
  have key : ∀ (k : Nat) cs t fr, A.heap[k]? = some (.cells cs t fr) → (A.putObj l o').heap[k]? = some (.cells cs t fr) := fun k cs t fr hk => by
    refine (World.putObj_heap_other fun e => ?_).trans hk
    subst e
    rw [h] at hk
    cases hk
    cases ho
  ⟨by simp, fun k cs fr => key k cs _ fr, fun k cs fr => key k cs _ fr⟩
theorem KeptBut.steps {base : Nat} {A B : World} (h : Steps base A B) : KeptBut A B := by
  obtain ⟨row, hg, hr⟩ := h
  refine ⟨hg.size, fun k cs t fr ht hk => (hg.block k (Array.getElem?_eq_some_iff.1 hk).1 fun e => ?_).trans hk⟩
  obtain ⟨_, ds, fr', hd⟩ := hr k e.symm
  rw [hk] at hd
  cases hd
  exact ht rfl
theorem KeptBut.of_below {A B : World} (h : Below A.heap.size A B) : KeptBut A B :=
  ⟨h.size, fun k cs t fr _ hk => (h.block k (Array.getElem?_eq_some_iff.1 hk).1).trans hk⟩
theorem steps_others {base : Nat} {A B : World} (h : Steps base A B) (k : Nat) (o : Obj) (hk : A.heap[k]? = some o) (ho : o.isCells = false) : B.heap[k]? = some o := by
  obtain ⟨row, hg, hr⟩ := h
  refine (hg.block k (Array.getElem?_eq_some_iff.1 hk).1 fun e => ?_).trans hk
  obtain ⟨_, ds, fr, hd⟩ := hr k e.symm
  rw [hk] at hd
  cases hd
  cases ho
theorem Kept.of_below {A B : World} (h : Below A.heap.size A B) : Kept A B :=
  ⟨h.size, fun k cs fr hk => (h.block k (Array.getElem?_eq_some_iff.1 hk).1).trans hk, fun k cs fr hk => (h.block k (Array.getElem?_eq_some_iff.1 hk).1).trans hk⟩
/-- A step that turns one block, neither a reader nor octets. -/
theorem Kept.of_grown {A B : World} {row : Option Nat} (hg : A.grownBy B row) (hr : ∀ r, row = some r → ∃ cs t fr, A.heap[r]? = some (.cells cs t fr) ∧ t ≠ 73 ∧ t ≠ 5) : Kept A B :=
  have key : ∀ (k : Nat) cs t fr, (t = 73 ∨ t = 5) → A.heap[k]? = some (.cells cs t fr) → B.heap[k]? = some (.cells cs t fr) := fun k cs t fr ht hk => by
    refine (hg.block k (Array.getElem?_eq_some_iff.1 hk).1 fun e => ?_).trans hk
    obtain ⟨ds, t', fr', hd, n1, n2⟩ := hr k e.symm
    rw [hk] at hd
    cases hd
    rcases ht with ht | ht
    · exact n1 ht
    · exact n2 ht
  ⟨hg.size, fun k cs fr => key k cs _ fr (.inl rfl), fun k cs fr => key k cs _ fr (.inr rfl)⟩

/-- Between two rounds: what has come lies in a row of the call's own. -/
structure DecI (w : World) (xs : List Item) (W : World) : Prop where
  row : ∃ A m c, Boxed W (w.heap.size + 1 + 1) 22 (.slice A m c) ∧ W.ownsRow w.heap.size 44 2 (.slice A m c) m (flatP (xs.map fun y => y.1))
  all : ∀ y ∈ xs, y.2 = 0 ∧ VP W y.1 ∧ TY W y.1.2.1
  r0 : Boxed W w.heap.size 22 (.slice none 0 0)
  r1 : Boxed W (w.heap.size + 1) 27 (.int .i64 0)
  below : Below w.heap.size w W
theorem DecI.keep {w A B : World} {xs : List Item} (h : DecI w xs A) (hk : KeptBut A B) (hb : Below w.heap.size w B) : DecI w xs B := by
  obtain ⟨X, m, c, h1, h2⟩ := h.row
  exact ⟨⟨X, m, c, hk.boxed (by decide) h1, hk.own (by decide) h2⟩, fun y hy => ⟨(h.all y hy).1, ⟨(h.all y hy).2.1.1, (h.all y hy).2.1.2.1, hk.bs (h.all y hy).2.2 (h.all y hy).2.1.2.2⟩, hk.ty (h.all y hy).2.2⟩,
    hk.boxed (by decide) h.r0, hk.boxed (by decide) h.r1, hb⟩
/-- A round has left. -/
structure DecX (w : World) (bs : List UInt8) (c : Code) (xs : List Item) (W : World) : Prop where
  ret : c = .ret
  err : ∃ e : Nat, 0 < e ∧ decL 32 bs = .error e ∧ Boxed W w.heap.size 22 (.slice none 0 0) ∧ Boxed W (w.heap.size + 1) 27 (.int .i64 (e : Int))
  below : Below w.heap.size w W
theorem DecX.keep {w A B : World} {bs : List UInt8} {c : Code} {xs : List Item} (h : DecX w bs c xs A) (hk : KeptBut A B) (hb : Below w.heap.size w B) : DecX w bs c xs B := by
  obtain ⟨e, h1, h2, h3, h4⟩ := h.err
  exact ⟨h.ret, ⟨e, h1, h2, hk.boxed (by decide) h3, hk.boxed (by decide) h4⟩, hb⟩
theorem below_putObj {w A : World} {l : Nat} (o' : Obj) (h : Below w.heap.size w A) (hl : w.heap.size ≤ l) : Below w.heap.size w (A.putObj l o') :=
  h.grown (grownBy_putObj' A l o') h.size fun k e => by cases e; exact hl
theorem below_steps {w A B : World} (h : Below w.heap.size w A) (hs : Steps w.heap.size A B) : Below w.heap.size w B := by
  obtain ⟨row, hg, hr⟩ := hs
  exact h.grown hg h.size fun k e => (hr k e).1

/-- Parameters and octets are as they were. -/
structure KeptPV (A B : World) : Prop where
  size : A.heap.size ≤ B.heap.size
  all : ∀ (k : Nat) cs t fr, (t = 44 ∨ t = 5) → A.heap[k]? = some (.cells cs t fr) → B.heap[k]? = some (.cells cs t fr)
theorem KeptPV.trans {A B C : World} (h : KeptPV A B) (k : KeptPV B C) : KeptPV A C := ⟨Nat.le_trans h.size k.size, fun i cs t fr ht hi => k.all i cs t fr ht (h.all i cs t fr ht hi)⟩
theorem KeptBut.pv {A B : World} (h : KeptBut A B) : KeptPV A B := ⟨h.size, fun k cs t fr ht hk => h.all k cs t fr (by rcases ht with rfl | rfl <;> decide) hk⟩
theorem KeptPV.set {A : World} {b : Nat} {t : TypeId} {v : Value} (hx : Boxed A b t v) (h1 : t ≠ 44) (h2 : t ≠ 5) (u : Value) : KeptPV A (A.setCell ⟨b, 0, none⟩ u) :=
  ⟨by simp [World.setCell], fun k cs t' fr ht hk => by
    refine (Below.heap_setCell A ⟨b, 0, none⟩ u k ?_).trans hk
    intro e
    simp only at e
    subst e
    have := hx.symm.trans hk
    simp at this
    rcases ht with rfl | rfl
    · exact h1 this.2.1
    · exact h2 this.2.1⟩
theorem KeptPV.vp {A B : World} (h : KeptPV A B) {x : PX} (hv : VP A x) (ht : TY A x.2.1) : VP B x := by
  refine ⟨hv.1, hv.2.1, hv.2.2.1, hv.2.2.2.1, fun hne => ?_⟩
  obtain ⟨b, o, e, hlt, hc⟩ := hv.2.2.2.2 hne
  obtain ⟨cs, hcs⟩ := ht _ e
  refine ⟨b, o, e, Nat.lt_of_lt_of_le hlt h.size, fun j u hu => ?_⟩
  exact (World.cell?_of_block (w := A) (a := ⟨b, o + j, none⟩) ((h.all _ _ _ _ (.inr rfl) hcs).trans hcs.symm)).trans (hc j u hu)
theorem KeptPV.own {A B : World} (h : KeptPV A B) {base size n : Nat} {v : Value} {xs : List Value} (ho : A.ownsRow base 44 size v n xs) : B.ownsRow base 44 size v n xs := by
  refine ⟨ho.1, ?_⟩
  rcases ho.2 with hn | ⟨g, cap, cur, rfl, hb, hgg, rest⟩
  · exact .inl hn
  · exact .inr ⟨g, cap, cur, rfl, hb, h.all _ _ _ _ (.inl rfl) hgg, rest⟩

theorem results_dec {fn : Func} {p q : Tmp} (h : fn.results = #[.cell p 22, .cell q 27]) (tmps : Array Value) (w : World) (R S : Nat) (hp : tmps.getD p undef = .pointer (some ⟨R, 0, none⟩)) (hq : tmps.getD q undef = .pointer (some ⟨S, 0, none⟩)) (A : Option Addr) (n c : Nat) (e : Int)
    (hR : Boxed w R 22 (.slice A n c)) (hS : Boxed w S 27 (.int .i64 e)) :
    (results fn tmps).run Try.prog w = .ok (.tuple #[.slice A n c, .int .i64 e]) w := by
  have h1 := hR.cell
  have h2 := hS.cell
  have hp' : tmps[p]?.getD undef = .pointer (some ⟨R, 0, none⟩) := by simpa using hp
  have hq' : tmps[q]?.getD undef = .pointer (some ⟨S, 0, none⟩) := by simpa using hq
  simp [results, h, hp', hq', go_sem, h1, h2]

theorem cells_new (w : World) (cs : List Value) (t : TypeId) : ∀ (j : Nat) u, cs[j]? = some u → (w.alloc (.cells cs.toArray t)).cell? ((⟨w.heap.size, 0, none⟩ : Addr).add j) = some u := fun j u h => by
  rw [Addr.add_lit, cell_of_row _ _ _ _ _ _ (heap_alloc_new w _), Nat.zero_add]
  simpa using h
/-- What Decode answers. -/
def DecPost (w : World) (bs : List UInt8) (e : Ending) (w' : World) : Prop :=
  Below w.heap.size w w' ∧ ((∃ x : Nat, 0 < x ∧ decL 32 bs = .error x ∧ e = .returned (.tuple #[.slice none 0 0, .int .i64 (x : Int)])) ∨
    (∃ A m c l, decL 32 bs = .ok (l.map pm) ∧ e = .returned (.tuple #[.slice A m c, .int .i64 0]) ∧ PS w' A m c l))

set_option maxRecDepth 100000 in
set_option maxHeartbeats 2000000 in
theorem decode_any (A : Option Addr) (n c : Nat) (bs : List UInt8) (w : World) (hbs : BS w A n c bs) (hn : n ≤ 100000) :
    Calls Try.prog 17 #[.slice A n c] w (DecPost w bs) := by
  obtain ⟨i0, hi, hz0, hz1, hz2⟩ := info_parts Param_info
  have F1 : Fence.wide.fn 30 := trivial
  refine (callsIn_wide (n := 3)).1 ?_
  refine callsIn_of_wp_marks Try.func17 rfl trivial ?_ rfl
  simp only [Try.ntmps17, List.size_toArray, List.length_cons, List.length_nil, Nat.reduceAdd, Nat.reduceSub, Array.replicate_succ, Array.replicate_zero, List.push_toArray, List.append_toArray, List.nil_append, List.cons_append]
  gi_wp2_with (gi_at_call 30; refine (callsIn_wide.2 (read_any A n c _)).mono ?_; rintro e w' ⟨rfl, rfl⟩)
  obtain ⟨W0, hW0⟩ : ∃ W0, (((w.alloc (.cells #[.slice none 0 0] 22)).alloc (.cells #[.int .i64 0] 27)).alloc (.cells #[.slice none 0 0] 22)).alloc (.cells #[.slice A n c] 26) = W0 := ⟨_, rfl⟩
  have hs0 : W0.heap.size = w.heap.size + 1 + 1 + 1 + 1 := by rw [← hW0]; simp
  have hB0 : Below w.heap.size w W0 := by
    rw [← hW0]
    exact ((((Below.refl _ w).alloc (Nat.le_refl _) _).alloc (by simp) _).alloc (by simp; omega) _).alloc (by simp; omega) _
  have b0 : Boxed W0 w.heap.size 22 (.slice none 0 0) := by
    rw [← hW0]
    exact (((Boxed.new w _ _).alloc _).alloc _).alloc _
  have b1 : Boxed W0 (w.heap.size + 1) 27 (.int .i64 0) := by
    rw [← hW0]
    have := Boxed.new (w.alloc (.cells #[.slice none 0 0] 22)) 27 (.int .i64 0)
    rw [World.size_alloc] at this
    exact (this.alloc _).alloc _
  have b2 : Boxed W0 (w.heap.size + 1 + 1) 22 (.slice none 0 0) := by
    rw [← hW0]
    have := Boxed.new ((w.alloc (.cells #[.slice none 0 0] 22)).alloc (.cells #[.int .i64 0] 27)) 22 (.slice none 0 0)
    rw [World.size_alloc, World.size_alloc] at this
    exact this.alloc _
  have b3 : Boxed W0 (w.heap.size + 1 + 1 + 1) 26 (.slice A n c) := by
    rw [← hW0]
    have := Boxed.new (((w.alloc (.cells #[.slice none 0 0] 22)).alloc (.cells #[.int .i64 0] 27)).alloc (.cells #[.slice none 0 0] 22)) 26 (.slice A n c)
    rw [World.size_alloc, World.size_alloc, World.size_alloc] at this
    exact this
  have hbs0 := hbs.step hB0
  have I0 : DecI w [] W0 := ⟨⟨none, 0, 0, b2, World.ownsRow_nil _ _ _ _⟩, by simp, b0, b1, hB0⟩
  rw [hW0]
  clear hW0 b0 b1 b2 hbs
  refine rangeFunc_two (n := 3) rfl (by omega) (gf := 34) (lb := #[.pointer (some ⟨w.heap.size + 1 + 1 + 1, 0, none⟩)]) rfl trivial (enters_of Try.func34 (by kernel_rfl) rfl) (encs := encI) (fun _ => rfl)
    (Steps w.heap.size) Kept (AtHand bs) (AllCame bs) (fun _ => True) (DecI w) (DecX w bs)
    (fun xs X l o o' hl ho hc h => h.keep (KeptBut.putObj o' ho hc) (below_putObj o' h.below (by omega)))
    (fun cd xs X l o o' hl ho hc h => h.keep (KeptBut.putObj o' ho hc) (below_putObj o' h.below (by omega)))
    (fun W X l o o' hl ho hc h => h.trans (Kept.putObj o' ho hc))
    (fun X Y hs k o _ hk ho => steps_others hs k o hk ho)
    (fun xs X Y h hs => h.keep (KeptBut.steps hs) (below_steps h.below hs))
    (fun cd xs X Y h hs => h.keep (KeptBut.steps hs) (below_steps h.below hs))
    (fun l K Kx W hW hK hKx hY h0 => read1_in w.heap.size l (w.heap.size + 1 + 1 + 1) A n c bs hn K Kx W (by have := hW.size; omega) ((hW.cell (p := ⟨w.heap.size + 1 + 1 + 1, 0, none⟩) (by simp only; omega)).trans b3.cell) (hbs0.step hW) hK hKx hY h0)
    (fun o₁ o₂ => I0.keep (KeptBut.of_below (((Below.refl _ W0).alloc (Nat.le_refl _) _).alloc (by simp) _)) ((hB0.alloc hB0.size _).alloc (by have := hB0.size; simp; omega) _)) ?round ?done ?stop
  case round =>
    rintro l xs ⟨⟨xk, xa, xn, xc, xv⟩, er⟩ W hl hJ ⟨hlen, hX⟩
    simp only [Array.zip, encI]
    gi_wp2
    refine ⟨(KeepsOthers.alloc _ _).from _, fun o o' ho hoc => ?_⟩
    have l1 := below_lay W (.cells #[.int .u16 xk, .slice xa xn xc] 44)
    obtain ⟨W2, hW2⟩ : ∃ W2, (W.alloc (.cells #[.int .u16 xk, .slice xa xn xc] 44)).putObj l o' = W2 := ⟨_, rfl⟩
    have kb := KeptBut.putObj o' ho hoc
    have hKW := (Kept.of_below l1).trans (Kept.putObj o' ho hoc)
    have J2 : DecI w xs W2 := by
      rw [← hW2]
      exact (hJ.keep (KeptBut.of_below l1) (hJ.below.alloc hJ.below.size _)).keep kb (below_putObj o' (hJ.below.alloc hJ.below.size _) (by omega))
    have hS : Slot W2 W.heap.size #[.int .u16 xk, .slice xa xn xc] := by
      rw [← hW2]
      exact kb.all _ _ _ _ (by decide) (heap_alloc_new W _)
    rw [hW2] at hKW ⊢
    clear hW2 kb l1 hJ ho hoc
    have hcp0 := hS.cell.1
    have hcp1 := hS.cell.2
    have hc0 := J2.r0.cell
    have hc1 := J2.r1.cell
    have hf0 := J2.r0.frozen
    have hf1 := J2.r1.frozen
    obtain ⟨X, m, cc, hb2, hrow⟩ := J2.row
    have hc2 := hb2.cell
    have hf2 := hb2.frozen
    have HJ := keep J2
    have HK := keep hKW
    rcases hX with ⟨rfl, hv, ht⟩ | ⟨her, hde⟩
    · have hm : m ≤ 32 := by
        have := hrow.1
        rw [flatP_len, List.length_map] at this
        omega
      have hsz2 := J2.below.size
      have HV := keep (And.intro hv ht)
      have HROW := keep hrow
      have HB2 := keep hb2
      have HOWN := keep (hrow.alloc (.cells #[.int .u16 xk, .slice xa xn xc] 44))
      clear J2 hKW hv ht hrow hb2
      gi_wp2_with (first
       | (gi_at_builtin; refine wpListIn_append_own _ rfl _ _ 22 rfl w.heap.size 44 i0 (.agg #[.int .u16 0, .slice none 0 0]) 2 32 Try.underlying22 hi hz0 hz1 hz2 rfl (by decide) _ _ _ rfl HOWN.out ⟨W2.heap.size, 0, none⟩ 1 1 [.int .u16 xk, .slice xa xn xc] rfl rfl (cells_new W2 _ _) (by simp [Value.oneCell']) (by unfold maxLen; omega) (by omega) (by simp; omega) ?_
          intro v' w1 hown' hgrow _
          obtain ⟨g', cap', rfl⟩ := ownsRow_succ hown'
          obtain ⟨hv1, hv2, hr2, hk2, hb2⟩ := HB2.out.appended (by decide) HROW.out hsz2 (by omega) hown' hgrow
          have hc3 := hv1.cell
          have hf3 := hv1.frozen
          have HE := keep (And.intro hv1 (And.intro hv2 (And.intro hr2 (And.intro hk2 (And.intro hb2 hgrow)))))
          clear hown' hgrow hv1 hv2 hr2 hk2 hb2))
      obtain ⟨hv1, hv2, hr2, hk2, hb2, hgrow⟩ := HE.out
      have hkr : ∀ r, (Value.slice X m cc).ownBlock = some r → ∃ cs t fr, (W2.alloc (.cells #[.int .u16 xk, .slice xa xn xc] 44)).heap[r]? = some (.cells cs t fr) ∧ t ≠ 73 ∧ t ≠ 5 := by
        intro r hr
        rcases HOWN.out.2 with ⟨he, _⟩ | ⟨g, cap, cur, he, _, hgg, _⟩
        · injection he with he
          subst he
          cases hr
        · injection he with he
          subst he
          simp [Value.ownBlock] at hr
          subst hr
          exact ⟨_, _, _, hgg, by decide, by decide⟩
      have k1 : Kept W2 (w1.setCell ⟨w.heap.size + 1 + 1, 0, none⟩ (.slice (some ⟨g', 0, none⟩) (m + 1) cap')) :=
        ((Kept.of_below (below_lay W2 _)).trans (Kept.of_grown hgrow hkr)).trans (Kept.of_grown (grownBy_setCell' w1 (w.heap.size + 1 + 1) _) fun r e => by cases e; exact ⟨_, _, _, hv1, by decide, by decide⟩)
      have hkW := HK.out.trans k1
      have q0 := ((HJ.out.r0.alloc (.cells #[.int .u16 xk, .slice xa xn xc] 44)).kept hgrow (Boxed.not_row (HJ.out.r0.alloc _) (by decide) HOWN.out)).kept (grownBy_setCell' w1 (w.heap.size + 1 + 1) (.slice (some ⟨g', 0, none⟩) (m + 1) cap')) (by simp; omega)
      have q1 := ((HJ.out.r1.alloc (.cells #[.int .u16 xk, .slice xa xn xc] 44)).kept hgrow (Boxed.not_row (HJ.out.r1.alloc _) (by decide) HOWN.out)).kept (grownBy_setCell' w1 (w.heap.size + 1 + 1) (.slice (some ⟨g', 0, none⟩) (m + 1) cap')) (by simp)
      refine ⟨hk2.from _, hkW, ⟨_, _, _, hv2, ?_⟩, fun y hy => ?_, q0, q1, HJ.out.below.trans hb2⟩
      · rw [List.map_append, flatP_append]
        exact hr2
      · rcases List.mem_append.1 hy with hy | hy
        · obtain ⟨h1, h2, h3⟩ := HJ.out.all y hy
          exact ⟨h1, ⟨h2.1, h2.2.1, k1.bs h3 h2.2.2⟩, k1.ty h3⟩
        · rw [List.mem_singleton.1 hy]
          obtain ⟨h2, h3⟩ := HV.out
          exact ⟨rfl, ⟨h2.1, h2.2.1, hkW.bs h3 h2.2.2⟩, hkW.ty h3⟩
    · have her' : ((er : Int) != 0) = true := by simp; omega
      have HD := keep hde
      clear J2 hKW hde hrow hb2
      gi_wp2
      refine ⟨((KeepsOthers.setCell _ _ _).trans (KeepsOthers.setCell _ _ _)).from _, rfl, ⟨er, her, HD.out, ?_, ?_⟩, ?_⟩
      · exact (HJ.out.r0.set _).kept (grownBy_setCell' _ (w.heap.size + 1) _) (by simp)
      · exact (HJ.out.r1.kept (grownBy_setCell' W2 w.heap.size _) (by simp)).set _
      · exact (HJ.out.below.setCell (p := ⟨w.heap.size, 0, none⟩) (Nat.le_refl _) _).setCell (p := ⟨w.heap.size + 1, 0, none⟩) (Nat.le_succ _) _
  case done =>
    intro D xs W hD hS hJ hDd
    have hdec := hS fun y hy => (hJ.all y hy).1
    obtain ⟨X, m, cc, hb2, hrow⟩ := hJ.row
    have hc2 := hb2.cell
    have hc0 := hJ.r0.cell
    have hc1 := hJ.r1.cell
    have hf0 := hJ.r0.frozen
    have hf1 := hJ.r1.frozen
    have HJ := keep hJ
    have HROW := keep hrow
    have HD := keep hdec
    have HB2 := keep hb2
    clear hJ hrow hdec hb2 hS
    gi_wp2
    have k1 := KeptPV.set HJ.out.r0 (by decide) (by decide) (.slice X m cc)
    have r1 : Boxed (W.setCell ⟨w.heap.size, 0, none⟩ (.slice X m cc)) (w.heap.size + 1) 27 (.int .i64 0) := HJ.out.r1.kept (grownBy_setCell' W w.heap.size _) (by simp)
    have k2 := k1.trans (KeptPV.set r1 (by decide) (by decide) (.int .i64 0))
    have r0 : Boxed ((W.setCell ⟨w.heap.size, 0, none⟩ (.slice X m cc)).setCell ⟨w.heap.size + 1, 0, none⟩ (.int .i64 0)) w.heap.size 22 (.slice X m cc) := (HJ.out.r0.set _).kept (grownBy_setCell' _ (w.heap.size + 1) _) (by simp)
    have r1' := r1.set (.int .i64 0)
    have hDd' := ((KeepsOthers.setCell W ⟨w.heap.size, 0, none⟩ (.slice X m cc)).trans (KeepsOthers.setCell _ ⟨w.heap.size + 1, 0, none⟩ (.int .i64 0))).same D _ hDd rfl
    have kb := KeptBut.putObj (.deferred none) hDd' rfl
    have hBe := below_putObj (w := w) (.deferred none) ((HJ.out.below.setCell (p := ⟨w.heap.size, 0, none⟩) (Nat.le_refl _) (.slice X m cc)).setCell (p := ⟨w.heap.size + 1, 0, none⟩) (Nat.le_succ _) (.int .i64 0)) (l := D) (by omega)
    refine ⟨by simp, .inl ⟨_, _, rfl, run_takeDeferred hDd', ?_⟩⟩
    refine ⟨_, results_dec rfl _ _ w.heap.size (w.heap.size + 1) rfl rfl X m cc 0 (kb.boxed (by decide) r0) (kb.boxed (by decide) r1'), hBe, .inr ⟨X, m, cc, xs.map fun y => y.1, by rw [HD.out, List.map_map]; rfl, rfl, ?_⟩⟩
    have kf := k2.trans kb.pv
    exact PS.of_own (kf.own HROW.out) fun x hx => by
      obtain ⟨y, hy, rfl⟩ := List.mem_map.1 hx
      exact kf.vp (HJ.out.all y hy).2.1 (HJ.out.all y hy).2.2
  case stop =>
    intro D cd xs W hD _ hX hDd
    obtain ⟨rfl, ⟨e, he, hde, r0, r1⟩, hB⟩ := hX
    have kb := KeptBut.putObj (.deferred none) hDd rfl
    have hBe := below_putObj (w := w) (.deferred none) hB (l := D) (by omega)
    gi_wp2
    refine ⟨by simp, .inl ⟨_, _, rfl, run_takeDeferred hDd, ?_⟩⟩
    exact ⟨_, results_dec rfl _ _ w.heap.size (w.heap.size + 1) rfl rfl none 0 0 e (kb.boxed (by decide) r0) (kb.boxed (by decide) r1), hBe, .inl ⟨e, he, hde, rfl⟩⟩
end Go.Proofs.Ytaifigmbjcebeaa
