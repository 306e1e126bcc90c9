/- cookie.Encode: a state's octets under a key, or none. -/
import Derived.Test.YtjfkiiohmjdceaaK2
import Derived.RangeFuncBox
import Derived.Test.YtjfkiiohmjdceaaAppS
import Derived.Deep.Cut
import Derived.Deep.CutRange
namespace Go.Proofs.Ytjfkiiohmjdceaa
open Go.RowKit
attribute [local go_sem] Oper.semAt_some
set_option linter.unusedVariables false

/-- All cells are as they were. -/
structure KA (A B : World) : Prop where
  size : A.heap.size ≤ B.heap.size
  all : ∀ (k : Nat) cs t fr, A.heap[k]? = some (.cells cs t fr) → B.heap[k]? = some (.cells cs t fr)
theorem KA.putObj {A : World} {l : Nat} {o : Obj} (o' : Obj) (h : A.heap[l]? = some o) (ho : o.isCells = false) : KA A (A.putObj l o') :=
  ⟨by simp, fun k cs t fr hk => by
    refine (World.putObj_heap_other fun e => ?_).trans hk
    subst e
    rw [h] at hk
    cases hk
    cases ho⟩
theorem KA.of_below {A B : World} (h : Below A.heap.size A B) : KA A B := ⟨h.size, fun k cs t fr hk => (h.block k (Array.getElem?_eq_some_iff.1 hk).1).trans hk⟩
theorem KA.ty {A B : World} (h : KA A B) {x : Option Addr} (hx : TY A x) : TY B x := fun a e => by
  obtain ⟨cs, hc⟩ := hx a e
  exact ⟨cs, h.all _ _ _ _ hc⟩
theorem KA.bs {A B : World} (h : KA A B) {x : Option Addr} {n c : Nat} {bs : List UInt8} (hx : TY A x) (hb : BS A x n c bs) : BS B x n c bs := by
  refine ⟨hb.1, hb.2.1, fun hne => ?_⟩
  obtain ⟨b, o, e, hlt, hc⟩ := hb.2.2 hne
  obtain ⟨cs, hcs⟩ := hx _ e
  refine ⟨b, o, e, Nat.lt_of_lt_of_le hlt h.size, fun j u hu => ?_⟩
  exact (World.cell?_of_block (w := A) (a := ⟨b, o + j, none⟩) ((h.all _ _ _ _ hcs).trans hcs.symm)).trans (hc j u hu)
theorem KA.boxed {A B : World} (h : KA A B) {b : Nat} {t : TypeId} {v : Value} (hx : Boxed A b t v) : Boxed B b t v := h.all _ _ _ _ hx
theorem KA.own {A B : World} (h : KA A B) {base : Nat} {e : TypeId} {size n : Nat} {v : Value} {xs : List Value} (ho : A.ownsRow base e size v n xs) : B.ownsRow base e size v n xs := by
  refine ⟨ho.1, ?_⟩
  rcases ho.2 with hn | ⟨g, cap, cur, rfl, hb, hgg, rest⟩
  · exact .inl hn
  · exact .inr ⟨g, cap, cur, rfl, hb, h.all _ _ _ _ hgg, rest⟩
theorem below_put {w A : World} {l : Nat} (o' : Obj) (h : Below w.heap.size w A) (hl : w.heap.size ≤ l) : Below w.heap.size w (A.putObj l o') :=
  h.grown (grownBy_putObj' A l o') h.size fun k e => by cases e; exact hl
theorem KeepsOthers.of_below_ {A B : World} (h : Below A.heap.size A B) : KeepsOthers A B :=
  KeepsOthers.of_grownBy (row := none) ⟨h.os, h.tape, h.output, h.size, fun i hi _ => h.block i hi⟩ (fun _ _ e => by cases e)

/-- A state's block. -/
def CB (w : World) (g : Nat) (s : CS) : Prop := w.heap[g]? = some (.cells s.cells 28 (0, 0))
theorem CB.step {w w' : World} {g : Nat} {s : CS} (h : CB w g s) (hb : Below w.heap.size w w') : CB w' g s := (hb.block g (Array.getElem?_eq_some_iff.1 h).1).trans h
theorem CB.lt {w : World} {g : Nat} {s : CS} (h : CB w g s) : g < w.heap.size := (Array.getElem?_eq_some_iff.1 h).1
theorem CB.new (w : World) (s : CS) : CB (w.alloc (.cells s.cells 28)) w.heap.size s := heap_alloc_new w _
theorem CB.at_ {w : World} {g : Nat} {s : CS} (h : CB w g s) (j : Nat) (v : Value) (hv : s.cells[j]? = some v) : w.cell? ⟨g, j, none⟩ = some v := by rw [cell_of_row _ _ _ _ _ _ h]; exact hv
theorem CB.all {w : World} {g : Nat} {s : CS} (h : CB w g s) :
    w.cell? ⟨g, 0, none⟩ = some (.int .i64 s.made) ∧ w.cell? ⟨g, 1, none⟩ = some (.int .i64 s.life) ∧ w.cell? ⟨g, 2, none⟩ = some (.int .u32 s.tag) ∧ w.cell? ⟨g, 3, none⟩ = some (.int .u32 s.peer) ∧
    w.cell? ⟨g, 4, none⟩ = some (.int .u32 s.fst) ∧ w.cell? ⟨g, 5, none⟩ = some (.int .u32 s.pf) ∧ w.cell? ⟨g, 6, none⟩ = some (.int .u32 s.room) ∧ w.cell? ⟨g, 7, none⟩ = some (.int .u16 s.out) ∧
    w.cell? ⟨g, 8, none⟩ = some (.int .u16 s.inn) ∧ w.cell? ⟨g, 9, none⟩ = some (.int .u32 s.t0) ∧ w.cell? ⟨g, 10, none⟩ = some (.int .u32 s.t1) :=
  ⟨h.at_ 0 _ rfl, h.at_ 1 _ rfl, h.at_ 2 _ rfl, h.at_ 3 _ rfl, h.at_ 4 _ rfl, h.at_ 5 _ rfl, h.at_ 6 _ rfl, h.at_ 7 _ rfl, h.at_ 8 _ rfl, h.at_ 9 _ rfl, h.at_ 10 _ rfl⟩
theorem CB.fz {w : World} {g : Nat} {s : CS} (h : CB w g s) (j : Nat) : w.frozen? ⟨g, j, none⟩ = false := frozen_of_row w g j _ _ h

theorem encode_key (A : Option Addr) (n c : Nat) (hn : n ≠ 16) (s : CS) (w : World) :
    Calls Try.prog 10 #[.slice A n c, .agg s.cells] w fun e w' => e = .returned (.tuple #[.slice none 0 0, .bool false]) ∧ Below w.heap.size w w' := by
  have hn' : ((n : Int) != 16) = true := by simp; omega
  have l1 := keep (below_lay w (.cells s.cells 28))
  clear hn
  go_enter Try.func10, Try.ntmps10
  go_wp2_with fail
  go_ret2
  exact ⟨rfl, l1.out⟩
theorem encode_not (A : Option Addr) (c : Nat) (s : CS) (hm : ¬ s.may) (w : World) :
    Calls Try.prog 10 #[.slice A 16 c, .agg s.cells] w fun e w' => e = .returned (.tuple #[.slice none 0 0, .bool false]) ∧ Below w.heap.size w w' := by
  have l1 := below_lay w (.cells s.cells 28)
  have K := mayBe_any s (w.alloc (.cells s.cells 28))
  rw [decide_eq_false hm] at K
  replace K := keep K
  replace l1 := keep l1
  clear hm
  obtain ⟨made, life, tag, peer, fst, pf, room, out, inn, t0, t1⟩ := s
  dsimp only [CS.cells] at K l1 ⊢
  go_enter Try.func10, Try.ntmps10
  go_wp2_with (go_at_call 15; refine K.out.mono ?_; rintro e w2 ⟨rfl, hb2⟩; replace hb2 := keep hb2)
  go_ret2
  exact ⟨rfl, up l1.out hb2.out⟩

/-- Between two rounds: the numbers that came lie as octets. -/
structure EncI (w : World) (Bb B1 B2 B3 : Nat) (s : CS) (xs : List Int) (W : World) : Prop where
  box : ∃ A n c, Boxed W Bb 22 (.slice A n c) ∧ BS W A n c (flat xs) ∧ TY W A
  nb : NB W B1 B2 B3 s
  below : Below w.heap.size w W
theorem EncI.keep {w A B : World} {Bb B1 B2 B3 : Nat} {s : CS} {xs : List Int} (h : EncI w Bb B1 B2 B3 s xs A) (hk : KA A B) (hb : Below w.heap.size w B) : EncI w Bb B1 B2 B3 s xs B := by
  obtain ⟨X, n, c, h1, h2, h3⟩ := h.box
  exact ⟨⟨X, n, c, hk.boxed h1, hk.bs h3 h2, hk.ty h3⟩, ⟨hk.all _ _ _ _ h.nb.b1, hk.all _ _ _ _ h.nb.b2, hk.all _ _ _ _ h.nb.b3⟩, hb⟩
theorem KN.set {A : World} {b : Nat} {t : TypeId} {v : Value} (hx : Boxed A b t v) (h1 : t ≠ 28) (h2 : t ≠ 54) (u : Value) : KN A (A.setCell ⟨b, 0, none⟩ u) :=
  ⟨fun k cs t' fr ht hk => by
    refine (Below.heap_setCell A ⟨b, 0, none⟩ u k ?_).trans hk
    intro e
    simp only at e
    subst e
    have := hx.symm.trans hk
    simp at this
    rcases ht with rfl | rfl
    · exact h1 this.2.1
    · exact h2 this.2.1⟩
theorem u8_set {A : World} {b : Nat} {t : TypeId} {v : Value} (hx : Boxed A b t v) (ht : t ≠ 5) (u : Value) {x : Option Addr} {n c : Nat} {bs : List UInt8} (hty : TY A x) (hb : BS A x n c bs) : BS (A.setCell ⟨b, 0, none⟩ u) x n c bs ∧ TY (A.setCell ⟨b, 0, none⟩ u) x := by
  have key : ∀ (k : Nat) cs fr, A.heap[k]? = some (.cells cs 5 fr) → (A.setCell ⟨b, 0, none⟩ u).heap[k]? = some (.cells cs 5 fr) := fun k cs fr hk => by
    refine (Below.heap_setCell A ⟨b, 0, none⟩ u k ?_).trans hk
    intro e
    simp only at e
    subst e
    have := hx.symm.trans hk
    simp at this
    exact ht this.2.1
  refine ⟨⟨hb.1, hb.2.1, fun hne => ?_⟩, fun a e => ?_⟩
  · obtain ⟨b', o, e, hlt, hc⟩ := hb.2.2 hne
    obtain ⟨cs, hcs⟩ := hty _ e
    refine ⟨b', o, e, by simpa [World.setCell] using hlt, fun j w hw => ?_⟩
    exact (World.cell?_of_block (w := A) (a := ⟨b', o + j, none⟩) ((key _ _ _ hcs).trans hcs.symm)).trans (hc j w hw)
  · obtain ⟨cs, hcs⟩ := hty _ e
    exact ⟨cs, key _ _ _ hcs⟩
theorem own_apart {w : World} {base size n D : Nat} {e : TypeId} {v : Value} {xs : List Value} {x} (ho : w.ownsRow base e size v n xs) (hD : w.heap[D]? = some (.deferred x)) : some D ≠ v.ownBlock := fun e => by
  rcases ho.2 with ⟨hv, _⟩ | ⟨g, cap, cur, hv, _, hgg, _⟩
  · rw [hv] at e
    cases e
  · rw [hv] at e
    simp [Value.ownBlock] at e
    subst e
    have := hD.symm.trans hgg
    cases this
theorem own_set {A : World} {b : Nat} {t e : TypeId} {v : Value} (hx : Boxed A b t v) (ht : t ≠ e) (u : Value) {base size n : Nat} {x : Value} {xs : List Value} (ho : A.ownsRow base e size x n xs) : (A.setCell ⟨b, 0, none⟩ u).ownsRow base e size x n xs := by
  refine ⟨ho.1, ?_⟩
  rcases ho.2 with hn | ⟨g, cap, cur, rfl, hb, hgg, rest⟩
  · exact .inl hn
  · refine .inr ⟨g, cap, cur, rfl, hb, (Below.heap_setCell A ⟨b, 0, none⟩ u g ?_).trans hgg, rest⟩
    intro e'
    simp only at e'
    subst e'
    have := hx.symm.trans hgg
    simp at this
    exact ht this.2
/-- A statement that does not panic need not say what becomes of a panic. -/
theorem wp_calm {P : Program} {s : Code} {K : Act → World → Prop} {Q' : Exit → Act → World → Prop} {a : Act} {w : World}
    (h : s.wp P (Exit.then K fun e a w => match e with | .panic _ => False | e => Q' e a w) a w) : s.wp P (Exit.then K Q') a w := by
  refine wp_mono h ?_
  intro e a' w' hq
  cases e with
  | normal => exact hq
  | exit id => exact hq
  | goto l => exact hq
  | ret => exact hq
  | panic ch => exact hq.elim
  | outgrown => exact hq
/-- What Encode answers. -/
def EncPost (w : World) (bs : List UInt8) (e : Ending) (w' : World) : Prop :=
  ∃ A n c, e = .returned (.tuple #[.slice A n c, .bool true]) ∧ BS w' A n c bs ∧ Below w.heap.size w w' ∧ Hid (w'.ownsRow w.heap.size 5 1 (.slice A n c) n (bc bs))

set_option maxRecDepth 100000 in
set_option maxHeartbeats 2000000 in
theorem encode_some (A : Option Addr) (c : Nat) (key : List UInt8) (s : CS) (hs : s.ok) (hm : s.may) (w : World) (hk : BS w A 16 c key) :
    Calls Try.prog 10 #[.slice A 16 c, .agg s.cells] w (EncPost w (enc key s)) := by
  obtain ⟨i0, hi0, hz0, hz1, hz2⟩ := info_parts u8_info
  have F1 : Fence.wide.fn 15 := trivial
  have F2 : Fence.wide.fn 19 := trivial
  have F3 : Fence.wide.fn 20 := trivial
  have l1 := keep (below_lay w (.cells s.cells 28))
  have K := mayBe_any s (w.alloc (.cells s.cells 28))
  rw [decide_eq_true hm] at K
  have KM := keep K
  have C0 := keep (CB.new w s)
  clear K
  have KNs := keep (numbers_any s hm)
  have HS := keep (And.intro hs hm)
  have HK := keep hk
  clear hs hm hk
  obtain ⟨made, life, tag, peer, fst, pf, room, out, inn, t0, t1⟩ := s
  dsimp only [CS.cells] at KM l1 KNs ⊢
  refine (callsIn_wide (n := 3)).1 ?_
  refine callsIn_of_wp_marks Try.func10 rfl trivial ?_ rfl
  simp only [Try.ntmps10, List.size_toArray, List.length_cons, List.length_nil, Nat.reduceAdd, Nat.reduceSub, Array.replicate_succ, Array.replicate_zero, List.push_toArray, List.append_toArray, List.nil_append, List.cons_append]
  gi_wp2_with (first
    | (gi_at_call 15; refine (callsIn_wide.2 KM.out).mono ?_; rintro e w2 ⟨rfl, hb2⟩
       have C2 := keep ((C0.out.step hb2).step (below_lay w2 (.cells #[.slice none 0 0] 22)))
       have hb3 := keep (up l1.out hb2)
       obtain ⟨q0, q1, q2, q3, q4, q5, q6, q7, q8, q9, q10⟩ := C2.out.all
       clear KM C0 hb2)
    | (gi_at_call 19; refine (callsIn_wide.2 (KNs.out _)).mono ?_; rintro e w4 ⟨B1, B2, B3, rfl, hnb4, hb4, g1, g2, g3⟩
       clear q0 q1 q2 q3 q4 q5 q6 q7 q8 q9 q10))
  have hB4 : Below w.heap.size w w4 := up hb3.out ((below_lay w2 (.cells #[.slice none 0 0] 22)).trans (hb4.mono (by simp)))
  have hbx : Boxed w4 w2.heap.size 22 (.slice none 0 0) := (hb4.block _ (by simp)).trans (Boxed.new w2 22 (.slice none 0 0))
  have hbw : w.heap.size ≤ w2.heap.size := hb3.out.size
  have I0 : EncI w w2.heap.size B1 B2 B3 ⟨made, life, tag, peer, fst, pf, room, out, inn, t0, t1⟩ [] w4 := ⟨⟨none, 0, 0, hbx, BS.nil _, TY.nothing _⟩, hnb4, hB4⟩
  have hs4 := hB4.size
  clear hbx hb4 C2 hb3 l1 KNs
  refine rangeFunc_all (n := 3) rfl (by omega) (gf := 32) (lb := #[.pointer (some ⟨B1, 0, none⟩), .pointer (some ⟨B2, 0, none⟩), .pointer (some ⟨B3, 0, none⟩)]) rfl trivial (enters_of Try.func32 (by kernel_rfl) rfl) (encs := encN) (fun _ => rfl)
    Eq KN (Next ⟨made, life, tag, peer, fst, pf, room, out, inn, t0, t1⟩) (fun xs => xs = nums ⟨made, life, tag, peer, fst, pf, room, out, inn, t0, t1⟩) (EncI w w2.heap.size B1 B2 B3 ⟨made, life, tag, peer, fst, pf, room, out, inn, t0, t1⟩)
    (fun xs X l o o' hl ho hc h => h.keep (KA.putObj o' ho hc) (below_put o' h.below (by omega)))
    (fun W X l o o' hl ho hc h => h.trans (KN.putObj o' ho hc))
    (fun A B e k o _ hk _ => e ▸ hk)
    (fun xs A B h e => e ▸ h)
    (fun l K W hW hK hY h0 => numbers1_in l B1 B2 B3 _ HS.out.1 HS.out.2 K W (hnb4.kept (KN.of_below hW)) hY h0)
    (fun o₁ o₂ => I0.keep (KA.of_below (((Below.refl _ w4).alloc (Nat.le_refl _) _).alloc (by simp) _)) ((hB4.alloc hB4.size _).alloc (by have := hB4.size; simp; omega) _)) ?round ?done
  case round =>
    rintro l xs x W hl hJ ⟨r, hX⟩
    simp only [Array.zip, encN]
    gi_wp2
    refine ⟨KeepsFrom.refl _ _, fun o o' ho hoc => ?_⟩
    have hx := nums_bound _ HS.out.1 HS.out.2 x (by rw [hX]; simp)
    have hlen : xs.length ≤ 11 := by
      have := congrArg List.length hX
      simp only [nums, List.length_append, List.length_cons, List.length_nil] at this
      omega
    obtain ⟨W2, hW2⟩ : ∃ W2, W.putObj l o' = W2 := ⟨_, rfl⟩
    have J2 : EncI w w2.heap.size B1 B2 B3 ⟨made, life, tag, peer, fst, pf, room, out, inn, t0, t1⟩ xs W2 := by
      rw [← hW2]
      exact hJ.keep (KA.putObj o' ho hoc) (below_put o' hJ.below (by omega))
    have hK2 : KN W W2 := by
      rw [← hW2]
      exact KN.putObj o' ho hoc
    rw [hW2]
    clear hW2 hJ ho hoc hX
    obtain ⟨X, n, cc, hbx, hbs, hty⟩ := J2.box
    have hc2 := hbx.cell
    have hf2 := hbx.frozen
    have hnl : n ≤ 44 := by have := hbs.len; rw [flat_length] at this; omega
    have KP := keep (put32_any X n cc (flat xs) x hx.1 hx.2 W2 hbs (by omega))
    have HJ := keep J2
    have HBX := keep hbx
    have HK2 := keep hK2
    clear J2 hbx hbs hty hK2
    gi_wp2_with (gi_at_call 20; refine (CallsIn.inRound l (callsIn_wide.2 KP.out)).mono ?_; rintro e w5 ⟨A5, n5, c5, rfl, hs5, hb5, ho5⟩; have hbx5 := HBX.out.kept (row := none) ⟨hb5.os, hb5.tape, hb5.output, hb5.size, fun i hi _ => hb5.block i hi⟩ (by simp); have hc5 := hbx5.cell; have hf5 := hbx5.frozen; have H5 := keep (And.intro hs5 (And.intro hb5 (And.intro ho5.out hbx5))); clear hs5 hb5 ho5 hbx5)
    obtain ⟨hs5, hb5, ho5, hbx5⟩ := H5.out
    obtain ⟨hs6, ht6⟩ := u8_set hbx5 (by decide) (.slice A5 n5 c5) (TY.own ho5) hs5
    have hkn := (KN.of_below hb5).trans (KN.set hbx5 (by decide) (by decide) (.slice A5 n5 c5))
    refine ⟨((KeepsOthers.of_below_ hb5).trans (KeepsOthers.setCell _ _ _)).from _, HK2.out.trans hkn, ⟨⟨A5, n5, c5, hbx5.set _, ?_, ht6⟩, HJ.out.nb.kept hkn, (HJ.out.below.trans (hb5.mono HJ.out.below.size)).setCell (p := ⟨w2.heap.size, 0, none⟩) hbw _⟩⟩
    rw [flat_append]
    simpa [flat, oct4] using hs6
  case done =>
    intro D xs W hD hS hJ hDd
    subst hS
    obtain ⟨X, n, cc, hbx, hbs, hty⟩ := hJ.box
    have hc2 := hbx.cell
    obtain rfl : n = 48 := by have := hbs.len; rw [nums_length] at this; exact this
    have hbl := hJ.below
    have KC := keep (Code_some A c key X 48 cc _ W (HK.out.step hbl) hbs (by omega))
    have F4 : Fence.wide.fn 21 := trivial
    have HJ := keep hJ
    have HBX := keep hbx
    have HBS := keep hbs
    have HD := keep hDd
    clear hbx hbs hty hJ hDd hbl I0 hB4
    gi_wp2_with (gi_at_call 21; refine (callsIn_wide.2 KC.out).mono ?_; rintro e w6 ⟨rfl, hb6⟩
                 have hbx6 := HBX.out.kept (row := none) ⟨hb6.os, hb6.tape, hb6.output, hb6.size, fun i hi _ => hb6.block i hi⟩ (by simp)
                 have hc6 := hbx6.cell
                 have hf6 := hbx6.frozen
                 replace hb6 := keep hb6
                 replace hbx6 := keep hbx6
                 clear KC)
    have hb5 : Below w.heap.size w w6 := HJ.out.below.trans (hb6.out.mono HJ.out.below.size)
    have HB6 := keep (HBS.out.step hb6.out)
    have HD6 := keep ((hb6.out.block _ (Array.getElem?_eq_some_iff.1 HD.out).1).trans HD.out)
    have HL6 := keep hb5
    have HBX6 := keep hbx6.out
    clear hbx6
    obtain ⟨fl, hfl⟩ : ∃ fl, flat (nums ⟨made, life, tag, peer, fst, pf, room, out, inn, t0, t1⟩) = fl := ⟨_, rfl⟩
    have HE : Hid (enc key ⟨made, life, tag, peer, fst, pf, room, out, inn, t0, t1⟩ = seal_ key fl) := by show seal_ key _ = _; rw [hfl]
    rw [hfl] at HB6 HBS ⊢
    obtain ⟨q, hq⟩ : ∃ q, code key fl = q := ⟨_, rfl⟩
    rw [hq]
    have HQ := keep hq
    have hq1 := lt64 q
    have hq0 : (0 : Int) ≤ (q.toNat : Int) := by omega
    have hq2 : (q.toNat : Int) < 18446744073709551616 := by omega
    clear hb5 hb6 HJ HBX HBS hc2 HD hq hfl hq1
    refine wpIn_wide.2 ?_
    go_cut [] from 30 to 37 (fun wx => ∃ A' c', wx.cell? ⟨w2.heap.size, 0, none⟩ = some (.slice A' 56 c') ∧ Hid (BS wx A' 56 c' (fl ++ oct4 (hi q) ++ oct4 (lo q)) ∧ wx.ownsRow w.heap.size 5 1 (.slice A' 56 c') 56 (bc (fl ++ oct4 (hi q) ++ oct4 (lo q))) ∧ wx.heap[D]? = some (.deferred (some [])) ∧ Below w.heap.size w wx))
    case first =>
      refine wp_calm ?_
      go_region_with (first
        | (go_at_call 22; refine (high_any _ hq0 hq2 _).mono ?_; rintro e w' ⟨rfl, rfl⟩)
        | (go_at_call 23; refine (low_any _ hq0 hq2 _).mono ?_; rintro e w' ⟨rfl, rfl⟩)
        | (go_at_call 20
           have h6 := HB6.out
           refine (put32_any X 48 cc fl _ (by omega) (by omega) _ ?hb (by omega)).mono ?_
           case hb => exact h6
           rintro e w7 ⟨A7, n7, c7, rfl, hs7, hb7, ho7⟩
           obtain rfl : n7 = 52 := by
             have h1 := hs7.len
             have h2 := h6.len
             rw [List.length_append, ← h2] at h1
             exact h1
           have HB7 := keep (show BS w7 A7 52 c7 (fl ++ oct4 (hi q)) from hs7)
           have HO7 := keep hb7
           clear HB6 hs7 hb7 ho7)
        | (go_at_call 20
           have h7 := HB7.out
           refine (put32_any A7 52 c7 (fl ++ oct4 (hi q)) _ (by omega) (by omega) _ ?hb (by omega)).mono ?_
           case hb => exact h7
           rintro e w8 ⟨A8, n8, c8, rfl, hs8, hb8, ho8⟩
           obtain rfl : n8 = 56 := by
             have h1 := hs8.len
             have h2 := h7.len
             rw [List.length_append, ← h2] at h1
             exact h1
           have hb9 := HO7.out.trans (hb8.mono HO7.out.size)
           have hbx8 := HBX6.out.kept (row := none) ⟨hb9.os, hb9.tape, hb9.output, hb9.size, fun i hi _ => hb9.block i hi⟩ (by simp)
           have hc8 := hbx8.cell
           have hf8 := hbx8.frozen
           have H8 := keep (And.intro hs8 (And.intro ho8.out (And.intro hb9 hbx8)))
           clear HB7 h7 hs8 ho8 hb8 hb9 hbx8))
      all_goals (try go_wp2_with fail)
      all_goals go_meet
      all_goals
        obtain ⟨hs8, ho8, hb9, hbx8⟩ := H8.out
        have hL : Below w.heap.size w w6.drew := HL6.out.drew
        have hB8 : Below w.heap.size w w8 := hL.trans (hb9.mono hL.size)
        have hD8 : w8.heap[D]? = some (.deferred (some [])) := (hb9.block D (Array.getElem?_eq_some_iff.1 HD6.out).1).trans HD6.out
        have hw7 : w.heap.size ≤ w7.heap.size := Nat.le_trans hL.size HO7.out.size
        exact ⟨A8, c8, (hbx8.set _).cell, keep ⟨(u8_set hbx8 (by decide) _ (TY.own ho8) hs8).1, own_set hbx8 (by decide) _ (own_mono ho8 hw7), (KeepsOthers.setCell w8 ⟨w2.heap.size, 0, none⟩ _).same D _ hD8 rfl, hB8.setCell (p := ⟨w2.heap.size, 0, none⟩) hbw _⟩⟩
    case rest =>
      obtain ⟨A9, c9, hc9, H9⟩ := hcut
      have HO9 := keep H9.out.2.1
      have HB9 := keep H9.out.2.2.2
      have HD9 := keep H9.out.2.2.1
      clear HB6 HD6 HL6 HBX6 hc6 hf6
      gi_wp2_with (gi_at_builtin; refine wplIn_append_str _ rfl _ _ 22 9 rfl w.heap.size 5 i0 Try.underlying22 Try.underlying9 hi0 hz0 hz1 hz2 _ _ _ rfl HO9.out _ rfl (by unfold maxLen; decide) (by decide) HB9.out.size ?_
                   intro A10 c10 w10 ho10 hg10)
      have hD10 : w10.heap[D]? = some (.deferred (some [])) := by
        exact (hg10.out.block D (Array.getElem?_eq_some_iff.1 HD9.out).1 (own_apart HO9.out HD9.out)).trans HD9.out
      have own10 : w10.ownsRow w.heap.size 5 1 (.slice A10 60 c10) 60 (bc (enc key ⟨made, life, tag, peer, fst, pf, room, out, inn, t0, t1⟩)) := by
        rw [HE.out]
        unfold seal_
        rw [HQ.out, bc_append, ← strCells_of bol]
        exact ho10.out
      have kb := KA.putObj (.deferred none) hD10 rfl
      have hBe := below_put (w := w) (.deferred none) (HB9.out.grown hg10.out HB9.out.size fun k hk => (HO9.out.lt k hk).1) (l := D) (by omega)
      refine ⟨by simp, .inl ⟨_, _, rfl, run_takeDeferred hD10, ?_⟩⟩
      exact ⟨_, results_tmp2 rfl _ _ _, A10, 60, c10, rfl, BS.of_own (kb.own own10), hBe, keep (kb.own own10)⟩
end Go.Proofs.Ytjfkiiohmjdceaa
